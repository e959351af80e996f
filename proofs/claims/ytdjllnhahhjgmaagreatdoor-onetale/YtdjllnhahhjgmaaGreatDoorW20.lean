/- Walks and plain facts, in the order in which they lean on one another. -/
import Derived.Test.YtdjllnhahhjgmaaGreatDoorW19
import Derived.Test.YtdjllnhahhjgmaaGreatDoorW11
import Derived.Test.YtdjllnhahhjgmaaGreatDoorW14
import Derived.Test.YtdjllnhahhjgmaaGreatDoorRows
import Derived.Test.YtdjllnhahhjgmaaGreatDoorW03
import Derived.WalkKit
import Derived.ProofKit
import Derived.OpenShut
import Derived.ChangeOld
import Derived.Below
import Derived.SizedLaws
namespace Go.Proofs.YtdjllnhahhjgmaaGreatDoor
open Go.RowKit Chron
set_option maxRecDepth 100000 in
theorem raw_all (a : Option Addr) (n cap i : Nat) (w : World) (h : IntsAt w a n) (_hn : n ≤ maxLen) (_hi : i ≤ 100) :
    ∃ z, Hid (-9223372036854775808 ≤ z) ∧ ∀ X, Below w.heap.size w X → Calls Tryz.prog 31 #[.slice a n cap, .int .i64 i] X fun e w' => e = .returned (.int .i64 z) ∧ w' = X := by
  unfold maxLen at _hn
  by_cases hlt : i < n
  · obtain ⟨b, off, z, rfl, hc, hz⟩ := h i hlt
    refine ⟨z, hz, fun X hb => ?_⟩
    have hlb := World.block_lt_of_cell? w _ hc
    have hc' : X.cell? ⟨b, off + i, none⟩ = some (.int .i64 z) := (hb.cell (p := ⟨b, off + i, none⟩) hlb).trans hc
    clear hc hlb hb
    go_enter Tryz.func31, Tryz.ntmps31
    go_wp2
    go_ret
    exact ⟨rfl, rfl⟩
  · refine ⟨0, by show (-9223372036854775808 : Int) ≤ 0; decide, fun X _ => ?_⟩
    go_enter Tryz.func31, Tryz.ntmps31
    go_wp2
    go_ret
    exact ⟨rfl, rfl⟩
set_option maxRecDepth 100000 in
theorem pick_fix (c n : Int) (h0 : -9223372036854775808 ≤ c) (hn : 0 < n) :
    ∃ p, 0 ≤ p ∧ p < n ∧ ∀ X, Calls Tryz.prog 15 #[.int .i64 c, .int .i64 n] X fun e w' => e = .returned (.int .i64 p) ∧ w' = X := by
  have HH : Hid (-9223372036854775808 ≤ c) := h0
  have hnz : (n == 0) = false := by simp; omega
  have hn1 : (n == -1) = false := by simp; omega
  clear h0
  by_cases hc : c < 0
  · have HP : Hid _ := pick_neg HH.out hc hn
    refine ⟨_, HP.out.1, HP.out.2, fun X => ?_⟩
    go_enter Tryz.func15, Tryz.ntmps15
    go_wp2
    go_ret
    exact ⟨rfl, rfl⟩
  · refine ⟨c % n, Int.emod_nonneg _ (by omega), Int.emod_lt_of_pos _ hn, fun X => ?_⟩
    go_enter Tryz.func15, Tryz.ntmps15
    go_wp2
    go_ret
    exact ⟨rfl, rfl⟩
/- what the numbers say, at whatever time they are asked -/
def HowAt (w : World) (a : Option Addr) (n cap : Nat) (hn hv : Nat → Int) : Prop :=
  ∀ i, (0 ≤ hn i ∧ hn i < 4 ∧ 0 ≤ hv i ∧ hv i < 3) ∧ (i ≤ 100 → ∃ z, (-9223372036854775808 ≤ z) ∧ (∀ X, Below w.heap.size w X → Calls Tryz.prog 31 #[.slice a n cap, .int .i64 (i : Int)] X fun e w' => e = .returned (.int .i64 z) ∧ w' = X) ∧
    (∀ X, Calls Tryz.prog 15 #[.int .i64 z, .int .i64 4] X fun e w' => e = .returned (.int .i64 (hn i)) ∧ w' = X) ∧
    (∀ X, Calls Tryz.prog 15 #[.int .i64 (IntKind.i64.wrap (z.tdiv 4)), .int .i64 3] X fun e w' => e = .returned (.int .i64 (hv i)) ∧ w' = X))
theorem how_fix (w : World) (a : Option Addr) (n cap : Nat) (h : IntsAt w a n) (hn : n ≤ maxLen) : ∃ hn hv, HowAt w a n cap hn hv := by
  have h1 : ∀ i : Nat, ∃ q : Int × Int, (0 ≤ q.1 ∧ q.1 < 4 ∧ 0 ≤ q.2 ∧ q.2 < 3) ∧ (i ≤ 100 → ∃ z, (-9223372036854775808 ≤ z) ∧ (∀ X, Below w.heap.size w X → Calls Tryz.prog 31 #[.slice a n cap, .int .i64 (i : Int)] X fun e w' => e = .returned (.int .i64 z) ∧ w' = X) ∧
    (∀ X, Calls Tryz.prog 15 #[.int .i64 z, .int .i64 4] X fun e w' => e = .returned (.int .i64 q.1) ∧ w' = X) ∧
    (∀ X, Calls Tryz.prog 15 #[.int .i64 (IntKind.i64.wrap (z.tdiv 4)), .int .i64 3] X fun e w' => e = .returned (.int .i64 q.2) ∧ w' = X)) := by
    intro i
    by_cases hi : i ≤ 100
    · obtain ⟨z, hz, hr⟩ := raw_all a n cap i w h hn hi
      have hz := hz.out
      obtain ⟨p, p0, p1, hp⟩ := pick_fix z 4 hz (by omega)
      have hq0 : -9223372036854775808 ≤ IntKind.i64.wrap (z.tdiv 4) := by
        simp [IntKind.wrap, IntKind.bits, IntKind.signed]; omega
      obtain ⟨q, q0, q1, hq⟩ := pick_fix (IntKind.i64.wrap (z.tdiv 4)) 3 hq0 (by omega)
      exact ⟨(p, q), ⟨p0, p1, q0, q1⟩, fun _ => ⟨z, hz, hr, hp, hq⟩⟩
    · exact ⟨(0, 0), by decide, fun h => absurd h hi⟩
  obtain ⟨f, hf⟩ := Classical.axiomOfChoice h1
  exact ⟨fun i => (f i).1, fun i => (f i).2, fun i => hf i⟩
theorem HowAt.below {w w' : World} {a : Option Addr} {n cap : Nat} {hn hv : Nat → Int} (h : HowAt w a n cap hn hv) (hb : Below w.heap.size w w') : HowAt w' a n cap hn hv := by
  intro i
  obtain ⟨h1, h6⟩ := h i
  refine ⟨h1, fun hi => ?_⟩
  obtain ⟨z, h2, h3, h4, h5⟩ := h6 hi
  exact ⟨z, h2, fun X hX => h3 X (hb.trans (hX.mono hb.size)), h4, h5⟩
theorem EvsAt.tail {w : World} {a : Option Addr} {its : List Item} (h : EvsAt w a its) {k : Nat} (hk : k < its.length) : ∃ b off, a = some ⟨b, off, none⟩ ∧ EvsAt w (some ⟨b, off + k * 5, none⟩) (its.drop k) := by
  obtain ⟨b, off, rfl, hc⟩ := h (by omega)
  refine ⟨b, off, rfl, fun _ => ⟨b, off + k * 5, rfl, fun j i hj => ?_⟩⟩
  rw [List.getElem?_drop] at hj
  have := hc (k + j) i hj
  rw [show off + k * 5 + j * 5 = off + (k + j) * 5 by omega]
  exact this
theorem made_reads {N : Nat} {w : World} {ma : Option Addr} {mc : Nat} {its ls : List Item} {b o q : Nat} (h : MadeO N w (.slice ma its.length mc) its) (hb : ∃ off, ma = some ⟨b, off, none⟩) (hs : ∀ it ∈ ls, it ∈ its) (hq : ReadsOf (some ⟨b, o, none⟩) ls q) : q < w.heap.size := by
  rcases hq with ⟨off, e⟩ | ⟨it, hi, off, e⟩
  · cases e
    obtain ⟨off', rfl⟩ := hb
    exact (h.row.lt b rfl).2
  · exact (h.tag_lt (tagBs_mem.2 ⟨it, hs it hi, by simp only [Item.tv, e, Value.ownBlock]⟩)).2
theorem refB_zero {v : Int} {n : Nat} {l : List Ev} (hv : 1 ≤ v ∧ v ≤ 3) (hn : n + l.length ≤ 200) (h : l.all (goesB v) = true) : refB v n l = 0 := by
  have h1 : ¬ isVer v = false := by simp [isVer]; omega
  unfold refB
  rw [if_neg h1, if_neg (by omega), if_pos h]
theorem refB_two {v : Int} {n : Nat} {l : List Ev} (hv : 1 ≤ v ∧ v ≤ 3) (hn : n + l.length ≤ 200) (h : ¬ l.all (goesB v) = true) : refB v n l = 2 := by
  have h1 : ¬ isVer v = false := by simp [isVer]; omega
  unfold refB
  rw [if_neg h1, if_neg (by omega), if_neg h]
theorem app_yes {v : Int} {cs : List Chunk} {l more : List Ev} (hr : refB v l.length more = 0) (hm : more ≠ []) (hcs : evsOf cs = l) : appFile v (fileB noB cs) l more = fileB noB (cs ++ [(v, more)]) ∧ appEvs v l more = l ++ more := by
  refine ⟨?_, if_pos hr⟩
  unfold appFile
  rw [if_pos ⟨hr, hm⟩, fileB_snoc, hcs]
theorem app_no {v : Int} {file : List UInt8} {l more : List Ev} (hr : ¬ refB v l.length more = 0) : appFile v file l more = file ∧ appEvs v l more = l := ⟨if_neg (fun h => hr h.1), if_neg hr⟩
theorem Moved.below {w w' : World} {F F' : Nat → Prop} {n : Nat} (h : Moved w w' F F') (hn : n ≤ w.heap.size) (hF : ∀ q, F q → n ≤ q) : Below n w w' :=
  ⟨h.os, h.tape, h.output, h.size, fun q hq => h.block q (by omega) (fun e => by have := hF q e; omega)⟩
theorem fill_next {hn hv : Nat → Int} {cs : List Chunk} {l : List Ev} {t i q : Nat} {v : Int} (hl : t < l.length) (hit : i ≤ t) (hq : q = fillN hn i (l.drop t)) (hq1 : 1 ≤ q ∧ q ≤ l.length - t) (hlen : l.length ≤ 200) (hv' : v = fillV hn hv i (l.drop t)) (hgo : ∀ e ∈ (l.drop t).take q, goesB v e = true) (HC : cs ++ fillC hn hv (l.length - i) i (l.drop t) = fillC hn hv l.length 0 l) (hg : GoodC 0 cs) (he : evsOf cs = l.take t) :
    (cs ++ [(v, (l.drop t).take q)]) ++ fillC hn hv (l.length - (i + 1)) (i + 1) (l.drop (t + q)) = fillC hn hv l.length 0 l ∧ GoodC 0 (cs ++ [(v, (l.drop t).take q)]) ∧ evsOf (cs ++ [(v, (l.drop t).take q)]) = l.take (t + q) ∧ l.take t ++ (l.drop t).take q = l.take (t + q) := by
  have hdl : (l.drop t).length = l.length - t := List.length_drop
  have hne : l.drop t ≠ [] := fun e => by rw [e] at hdl; simp at hdl; omega
  have htl : ((l.drop t).take q).length = q := by rw [List.length_take]; omega
  have hta : l.take t ++ (l.drop t).take q = l.take (t + q) := (List.take_add).symm
  have hes : evsOf cs ++ evsOf [(v, (l.drop t).take q)] = l.take (t + q) := by rw [he, ← hta]; simp [evsOf]
  refine ⟨?_, GoodC.append.2 ⟨hg, ⟨hgo, fun e => ?_, ?_⟩, trivial⟩, by rw [evsOf_append]; exact hes, hta⟩
  · rw [← HC, fillC_step hne (by omega), ← hq, ← hv', List.drop_drop, show l.length - i - 1 = l.length - (i + 1) by omega]
    simp
  · have := congrArg List.length e
    rw [htl] at this
    simp at this
    omega
  · show 0 + (evsOf cs).length + ((l.drop t).take q).length ≤ 200
    rw [he, htl, List.length_take]
    omega
theorem readB_nil : readB [] = ([], 0, true) := rfl
set_option maxRecDepth 100000 in
set_option maxHeartbeats 1000000 in
theorem filled_any (ma : Option Addr) (mc : Nat) (its : List Item) (a : Option Addr) (n cap : Nat) (hn hv : Nat → Int) (N0 : Nat) (w : World) (hM : Hid (MadeO N0 w (.slice ma its.length mc) its)) (hok : Hid (∀ it ∈ its, isB it.ev = true)) (hl : its.length ≤ 20) (hw : Hid (HowAt w a n cap hn hv)) :
    Calls Tryz.prog 16 #[.slice ma its.length mc, .slice a n cap] w fun e w' => ∃ p fv ev js, e = .returned (.pointer (some ⟨p, 0, none⟩)) ∧ Hid (ArchO w.heap.size p w' fv ev (fileB noB (fillC hn hv its.length 0 (evs its))) js) ∧ Hid (evs js = evs its) ∧ Hid (Below w.heap.size w w') := by
  obtain ⟨ma', mc', hmv, hE0, hcap, h0⟩ := hM.out.at hok.out
  cases hmv
  have hE := hide0 hE0
  clear hE0 h0
  have hOp := open_any [] w (by simp)
  rw [readB_nil] at hOp
  simp only [List.take_nil] at hOp
  have hes : (evs its).length = its.length := by simp [evs]
  go_enter Tryz.func16, Tryz.ntmps16
  go_wp2_with fail
  refine hOp.mono ?_
  rintro e w1 ⟨HB1, ⟨h, _⟩ | ⟨_, p, fv1, ev1, js1, rfl, HA1, HJ1⟩⟩
  · cases h
  go_wp2_with fail
  go_loopw [7, 8] (fun tv iv wx => ∃ (t i : Nat) (cs : List Chunk) (fv ev : Value) (js : List Item), tv = .int .i64 t ∧ iv = .int .i64 i ∧ i ≤ t ∧ t ≤ its.length ∧ Hid (cs ++ fillC hn hv (its.length - i) i ((evs its).drop t) = fillC hn hv its.length 0 (evs its)) ∧ Hid (GoodC 0 cs ∧ evsOf cs = (evs its).take t) ∧ Hid (ArchO w.heap.size p wx fv ev (fileB noB cs) js) ∧ Hid (evs js = (evs its).take t) ∧ Hid (Below w.heap.size w wx)) (fun t _ _ => its.length - (intOf t).toNat)
  case atStart => exact ⟨0, 0, [], fv1, ev1, js1, rfl, rfl, Nat.le_refl _, Nat.zero_le _, by show _ = _; simp, ⟨trivial, by simp [evsOf]⟩, HA1, by show _ = _; rw [HJ1.out]; simp, HB1⟩
  case round =>
    obtain ⟨t, i, cs, fv, ev, js, rfl, rfl, hit, htl, HC, HG, HA, HJ, HB⟩ := hrel
    by_cases hlt : t < its.length
    · obtain ⟨⟨n0, n1, v0, v1⟩, hzz⟩ := hw.out i
      obtain ⟨z, hz, hraw, hp4, hp3⟩ := hzz (by omega)
      clear hzz
      have HRW := hide0 (hraw wr HB.out)
      have hlti : (t : Int) < (its.length : Int) := by omega
      generalize hhn : hn i = hni at *
      obtain ⟨h4, rfl⟩ := Int.eq_ofNat_of_zero_le n0
      go_wp2_with (first
        | (go_at_call 31; refine HRW.out.mono ?_; rintro e w' ⟨rfl, hw'⟩; have hw2 := hw'.symm; subst hw2)
        | (go_at_call 15; refine (hp4 _).mono ?_; rintro e w' ⟨rfl, hw'⟩; have hw2 := hw'.symm; subst hw2))
      have hrl : ((evs its).drop t).length = its.length - t := by rw [List.length_drop, hes]
      have hrne : (evs its).drop t ≠ [] := fun h => by have := congrArg List.length h; simp only [List.length_nil] at this; omega
      obtain ⟨q, HQ⟩ : ∃ q, Hid (q = fillN hn i ((evs its).drop t)) := ⟨_, rfl⟩
      have hq : min (1 + (h4 : Int)) ((its.length : Int) - (t : Int)) = (q : Int) := by
        have := HQ.out
        unfold fillN at this
        rw [hhn, hrl] at this
        omega
      have hq1 := fillN_pos (hn := hn) (i := i) (by rw [hhn]; omega) hrne
      rw [← HQ.out, hrl] at hq1
      rw [hq]
      obtain ⟨b, off, rfl, hE2⟩ := (hE.out.below HB.out (Nat.le_refl _)).tail hlt
      have hE3 := hE2.front q
      have hEm : evs ((its.drop t).take q) = ((evs its).drop t).take q := by simp [evs]
      have hmoreL : ((its.drop t).take q).length = q := by rw [List.length_take, List.length_drop]; omega
      have hjl : js.length = t := by have := congrArg List.length HJ.out; rw [List.length_take, hes] at this; simp only [evs, List.length_map] at this; omega
      have hfl := fileB_short HG.out.1
      have hap : Hid (∀ q', ReadsOf (some ⟨b, off + t * 5, none⟩) ((its.drop t).take q) q' → ¬ Foot p fv ev js q') := fun q' h1 h2 => by
        have := made_reads hM.out ⟨off, rfl⟩ (fun it hi => List.mem_of_mem_drop (List.mem_of_mem_take hi)) h1
        have := (HA.out.lt q' h2).1
        omega
      have hAd : Hid (ArchO w.heap.size p wr.drew fv ev (fileB noB cs) js) := HA.out.below (Below.refl _ _).drew
      have hAp := append_any w.heap.size p (1 + hv i) fv ev (fileB noB cs) js (some ⟨b, off + t * 5, none⟩) (mc - t) ((its.drop t).take q) wr.drew hAd (hE3.below (Below.refl _ _).drew (Nat.le_refl _)) (by omega) (by omega) hap
      obtain ⟨u, hu, hu1, hu2, HU⟩ : ∃ u : Nat, IntKind.i64.wrap ((t : Int) + (q : Int)) = u ∧ t ≤ u ∧ u ≤ mc ∧ Hid (u = t + q) := ⟨t + q, by rw [wrapI_small (by omega) (by omega)]; omega, by omega, by omega, rfl⟩
      have hmt : ¬ mc = t := by omega
      have hut : q = u - t := by have := HU.out; omega
      rw [hmoreL, hEm, hjl] at hAp
      have hArg : ∀ v : Int, (#[.pointer (some ⟨p, 0, none⟩), .int .i64 v, .slice (some ⟨b, off + t * 5, none⟩) q (mc - t)] : Array Value) = #[.pointer (some ⟨p, 0, none⟩), .int .i64 v, .slice (some ⟨b, off + t * 5, none⟩) (u - t) (mc - t)] := fun v => by rw [← hut]
      rw [hArg] at hAp
      have HUT := hide0 hut
      clear hut
      generalize hhv : hv i = hvi at *
      have hrawd := hraw wr.drew HB.out.drew
      have hvw : IntKind.i64.wrap (1 + hvi) = 1 + hvi := wrapI_small (by omega) (by omega)
      have HEw := hide0 (fun W (hW : Below w.heap.size w W) => ((hE.out.below hW (Nat.le_refl _)).tail hlt))
      have hsw := HB.out.size
      have hml : (((evs its).drop t).take q).length = q := by rw [List.length_take]; omega
      have hFN := hide0 (fun (v : Int) (hv' : v = fillV hn hv i ((evs its).drop t)) (hgo : ∀ e ∈ ((evs its).drop t).take q, goesB v e = true) => fill_next (cs := cs) (l := evs its) (by rw [hes]; exact hlt) hit HQ.out (by rw [hes]; omega) (by rw [hes]; omega) hv' hgo (by rw [hes]; exact HC.out) HG.out.1 HG.out.2)
      have hnem : ((evs its).drop t).take q ≠ [] := fun e => by have := congrArg List.length e; rw [hml] at this; simp only [List.length_nil] at this; omega
      have hfv : fillV hn hv i ((evs its).drop t) = if (((evs its).drop t).take q).all (goesB (1 + hvi)) = true then 1 + hvi else 3 := by unfold fillV; rw [← HQ.out, hhv]
      have hjt : (evs js).length = t := by simpa [evs] using hjl
      have HB' := hide0 HB.out.drew
      clear hOp HA1 HJ1 HB1 hE2 hE3 hq hraw
      by_cases hall : (((evs its).drop t).take q).all (goesB (1 + hvi)) = true
      · have HN := hide0 (hFN.out (1 + hvi) (by rw [hfv, if_pos hall]) (List.all_eq_true.1 hall))
        have hr0 := refB_zero (v := 1 + hvi) (n := t) (l := ((evs its).drop t).take q) (by omega) (by omega) hall
        have HAY := hide0 (app_yes (v := 1 + hvi) (cs := cs) (l := evs js) (more := ((evs its).drop t).take q) (by rw [hjt]; exact hr0) hnem (HG.out.2.trans HJ.out.symm))
        rw [hr0] at hAp
        clear hall hr0 hfv hFN hnem hml
        go_region_law (first
          | (go_simp; go_at_call 31; refine hrawd.mono ?_; rintro e w' ⟨rfl, rfl⟩)
          | (go_simp; go_at_call 15; refine (hp3 _).mono ?_; rintro e w' ⟨rfl, rfl⟩)
          | (go_simp; go_at_call 33; refine hAp.mono ?_; rintro e w5 ⟨rfl, fv5, ev5, js5, HA5, HE5, HM5⟩; have HA5 := hide0 HA5; have HE5 := hide0 HE5; have HM5 := hide0 HM5))
        all_goals
          have HB5 := hide0 (HB'.out.trans (HM5.out.below hsw (fun q hq => (HA.out.lt q hq).1)))
          rw [HAY.out.1] at HA5
          rw [HAY.out.2, HJ.out, HN.out.2.2.2] at HE5
          clear hAp hrawd hp3 hp4 HAY HM5
          go_wp2_with fail
          go_roundw
          case rel => exact ⟨u, i + 1, _, fv5, ev5, js5, by go_num, by go_num, by have := HU.out; omega, by have := HU.out; omega, by rw [HU.out, ← hes]; exact hide0 HN.out.1, by rw [HU.out]; exact hide0 ⟨HN.out.2.1, HN.out.2.2.1⟩, HA5, by rw [HU.out]; exact HE5, HB5⟩
          case measure => simp [intOf]; have := HU.out; omega
      · have h3 : ∀ e ∈ ((evs its).drop t).take q, goesB 3 e = true := fun e he => by
          obtain ⟨it, hi, rfl⟩ := List.mem_map.1 (List.mem_of_mem_drop (List.mem_of_mem_take he))
          exact goes_new (hok.out it hi)
        have HN := hide0 (hFN.out 3 (by rw [hfv, if_neg hall]) h3)
        have hr2 := refB_two (v := 1 + hvi) (n := t) (l := ((evs its).drop t).take q) (by omega) (by omega) hall
        have HAN := hide0 (app_no (v := 1 + hvi) (file := fileB noB cs) (l := evs js) (more := ((evs its).drop t).take q) (by rw [hjt, hr2]; decide))
        have HR0 := hide0 (refB_zero (v := 3) (n := t) (l := ((evs its).drop t).take q) (by omega) (by omega) (List.all_eq_true.2 h3))
        have HNE := hide0 hnem
        rw [hr2] at hAp
        clear hall hr2 hfv hFN hml h3 hnem
        go_region_law (first
          | (go_simp; go_at_call 31; refine hrawd.mono ?_; rintro e w' ⟨rfl, rfl⟩)
          | (go_simp; go_at_call 15; refine (hp3 _).mono ?_; rintro e w' ⟨rfl, rfl⟩)
          | (go_simp; go_at_call 33; refine hAp.mono ?_; rintro e w5 ⟨rfl, fv5, ev5, js5, HA5, HE5, HM5⟩; have HA5 := hide0 HA5; have HE5 := hide0 HE5; have HM5 := hide0 HM5))
        all_goals
          have HB5 := hide0 (HB'.out.trans (HM5.out.below hsw (fun q hq => (HA.out.lt q hq).1)))
          rw [HAN.out.1] at HA5
          rw [HAN.out.2] at HE5
          have hjl5 : js5.length = t := by have := congrArg List.length HE5.out; simp only [evs, List.length_map] at this; omega
          obtain ⟨b', off', hbo, hE5⟩ := HEw.out w5 HB5.out
          cases hbo
          have hs5 := HB5.out.size
          have hap5 : Hid (∀ q', ReadsOf (some ⟨b, off + t * 5, none⟩) ((its.drop t).take q) q' → ¬ Foot p fv5 ev5 js5 q') := fun q' h1 h2 => by
            have := made_reads hM.out ⟨off, rfl⟩ (fun it hi => List.mem_of_mem_drop (List.mem_of_mem_take hi)) h1
            have := (HA5.out.lt q' h2).1
            omega
          have hAp5 := append_any w.heap.size p 3 fv5 ev5 (fileB noB cs) js5 (some ⟨b, off + t * 5, none⟩) (mc - t) ((its.drop t).take q) w5 HA5 (hE5.front q) (by omega) (by omega) hap5
          rw [hmoreL, hEm, hjl5, hArg, HR0.out] at hAp5
          have HAY := hide0 (app_yes (v := 3) (cs := cs) (l := evs js5) (more := ((evs its).drop t).take q) (by rw [show (evs js5).length = t by simpa [evs] using hjl5]; exact HR0.out) HNE.out (HG.out.2.trans (HJ.out.symm.trans HE5.out.symm)))
          clear hAp hrawd hp3 hp4 HAN HM5 hE5 hap5 hjl5 hjl hjt
          go_wp2_with fail
          refine hAp5.mono ?_
          rintro e w6 ⟨rfl, fv6, ev6, js6, HA6, HE6, HM6⟩
          have HA6 := hide0 HA6
          have HE6 := hide0 HE6
          have HB6 := hide0 (HB5.out.trans (HM6.below (by omega) (fun q hq => (HA5.out.lt q hq).1)))
          rw [HAY.out.1] at HA6
          rw [HAY.out.2, HE5.out, HJ.out, HN.out.2.2.2] at HE6
          clear hAp5 HAY HM6
          go_wp2_with fail
          go_roundw
          case rel => exact ⟨u, i + 1, _, fv6, ev6, js6, by go_num, by go_num, by have := HU.out; omega, by have := HU.out; omega, by rw [HU.out, ← hes]; exact hide0 HN.out.1, by rw [HU.out]; exact hide0 ⟨HN.out.2.1, HN.out.2.2.1⟩, HA6, by rw [HU.out]; exact HE6, HB6⟩
          case measure => simp [intOf]; have := HU.out; omega
    · have htn : t = its.length := by omega
      subst htn
      obtain ⟨ea, ec, rfl, t1, t2, t3⟩ := HA.out.evs.at HA.out.good
      have hjl : js.length = its.length := by have := congrArg List.length HJ.out; simpa [evs] using this
      have hLn := len_any p fv ea js.length ec wr HA.out.blk
      rw [hjl] at hLn
      have HX : Hid (cs = fillC hn hv its.length 0 (evs its)) := by
        have h := HC.out
        rw [show (evs its).drop its.length = [] by rw [← hes]; exact List.drop_length, fillC_end, List.append_nil] at h
        exact h
      clear t1 t2 t3 hjl
      go_wp2_with (go_at_call 34; refine hLn.mono ?_; rintro e w' ⟨rfl, hw'⟩; have hw2 := hw'.symm; subst hw2)
      go_ret
      exact ⟨p, fv, _, js, rfl, by rw [← HX.out]; exact HA, by rw [HJ.out, ← hes, List.take_length]; exact hide0 rfl, HB⟩
end Go.Proofs.YtdjllnhahhjgmaaGreatDoor
namespace Go.Proofs.YtdjllnhahhjgmaaGreatDoor
open Go.RowKit Chron
theorem IntsAt.sub {w : World} {a : Option Addr} {n i : Nat} (h : IntsAt w a n) (hi : i < n) : ∃ b off, a = some ⟨b, off, none⟩ ∧ IntsAt w (some ⟨b, off + i, none⟩) (n - i) := by
  obtain ⟨b, off, _, rfl, _⟩ := h i hi
  refine ⟨b, off, rfl, fun j hj => ?_⟩
  obtain ⟨b', off', z, he, hc, hz⟩ := h (i + j) (by omega)
  cases he
  exact ⟨b, off + i, z, rfl, by rw [Nat.add_assoc]; exact hc, hz⟩
def slLen : Value → Nat
  | .slice _ n _ => n
  | _ => 0
set_option maxRecDepth 100000 in
set_option maxHeartbeats 4000000 in
theorem events_all (v : Int) (hv1 : 1 ≤ v) (hv3 : v ≤ 3) (a : Option Addr) (n cap : Nat) (w : World) (hI : Hid (IntsAt w a n)) (hn : n ≤ 1000000000000000) (hnc : n ≤ cap) :
    Calls Tryz.prog 11 #[.slice a n cap, .int .i64 v] w fun e w' => ∃ (lv : Value) (its : List Item), e = .returned lv ∧ its.length ≤ 20 ∧ Hid (MadeO w.heap.size w' lv its) ∧ Hid (∀ it ∈ its, isB it.ev = true) ∧ Below w.heap.size w w' := by
  obtain ⟨i0, hi, hz0, hz1, hz2⟩ := info_parts infoEvent5
  go_enter Tryz.func11, Tryz.ntmps11
  go_wp2_with fail
  go_loopw [5, 6] (fun lv iv wx => ∃ (i : Nat) (its : List Item) (la : Option Addr) (lc : Nat), i ≤ n + 6 ∧ its.length ≤ 20 ∧ iv = .int .i64 i ∧ lv = .slice la its.length lc ∧ Hid (MadeO w.heap.size wx (.slice la its.length lc) its) ∧ Hid (∀ it ∈ its, isB it.ev = true) ∧ Hid (Below w.heap.size w wx)) (fun lv _ _ => 20 - slLen lv)
  case atStart => exact ⟨0, [], none, 0, by omega, by decide, rfl, rfl, MadeO.nil _ _, (fun it h => by cases h), Below.refl _ _⟩
  case round =>
    obtain ⟨i, its, la, lc, hin, hl, rfl, rfl, HM, HB, HW⟩ := hrel
    by_cases hlt : i < n
    · by_cases h20 : its.length < 20
      · have hsz := HW.out.size
        have HIr := hide0 (hI.out.below HW.out (Nat.le_refl _))
        obtain ⟨ib, io, rfl, hsub⟩ := HIr.out.sub hlt
        have hE := event_any v (some ⟨ib, io + i, none⟩) (n - i) (cap - i) wr hsub (by unfold maxLen; omega) hv1 hv3
        have hlti : (i : Int) < (n : Int) := by omega
        have hli : (its.length : Int) < 20 := by omega
        clear hsub
        go_wp2_with fail
        refine hE.mono ?_
        rintro e w3 ⟨E, x, rfl, HG, hvo, hb3⟩
        obtain ⟨va, vc, hve, _⟩ := own_tags hvo
        subst hve
        have hisB := goes_is (HG.out 3 hv3 (by decide))
        obtain ⟨F0, F1, F2, F3, F4⟩ := E
        simp only [evVal]
        have HVO := hide0 hvo
        have hs3 := hb3.size
        have HM3 := hide0 (HM.out.keep (w' := w3) (fun q _ h2 => hb3.block q h2))
        have HM3b := hide0 (HM3.out.alloc (.cells #[.int .i64 F0, .string F1, .int .i64 F2, .string F3, .slice va F4.length vc] 29))
        have HB3 := hide0 (HW.out.trans (hb3.mono hsz))
        have HLV := hide0 HM.out.lts
        have hNew := five_new (w3.alloc (.cells #[.int .i64 F0, .string F1, .int .i64 F2, .string F3, .slice va F4.length vc] 29)) ⟨⟨F0, F1, F2, F3, F4⟩, va, vc⟩
        rw [World.size_alloc] at hNew
        have hbase : w.heap.size ≤ ((w3.alloc (.cells #[.int .i64 F0, .string F1, .int .i64 F2, .string F3, .slice va F4.length vc] 29)).alloc (.cells #[.int .i64 F0, .string F1, .int .i64 F2, .string F3, .slice va F4.length vc] 29)).heap.size := by simp only [World.size_alloc]; omega
        have hrow := HM3b.out.row
        have HALL : Hid (∀ it ∈ its ++ [⟨⟨F0, F1, F2, F3, F4⟩, va, vc⟩], isB it.ev = true) := by
          intro it hit
          rcases List.mem_append.1 hit with hit | hit
          · exact HB.out it hit
          · simp only [List.mem_singleton] at hit; rw [hit]; exact hisB
        clear hE hvo hb3 hisB HG HM3
        go_wp2_with (first
          | (at_builtin; go_must (refine wpList_append_lies _ rfl _ _ 23 rfl w.heap.size 29 i0 (.agg #[.int .i64 0, .string ⟨#[]⟩, .int .i64 0, .string ⟨#[]⟩, .slice none 0 0]) 5 72 Tryz.underlying23 hi hz0 hz1 hz2 rfl (by decide) _ its.length (fives its) rfl (hrow.alloc _) ⟨w3.heap.size + 1, 0, none⟩ 1 1 (Item.five ⟨⟨F0, F1, F2, F3, F4⟩, va, vc⟩) rfl rfl hNew (five_one _) Nat.one_pos (by unfold maxLen; omega) (by omega) hbase _ rfl ?_)
             intro g gcap wa hown hgr hat hlt2))
        have HO7 := hide0 (HM3b.out.push (i := ⟨⟨F0, F1, F2, F3, F4⟩, va, vc⟩) (HVO.out.alloc _) hsz HLV.out.1 HLV.out.2 hgr hown hat)
        have HF7 := hide0 (Below.grown ((HB3.out.alloc (by omega) _).alloc (by simp only [World.size_alloc]; omega) _) hgr hbase (fun q hq => (hrow.lt q hq).1))
        clear hown hgr hat hlt2 hrow hNew hbase
        go_wp2
        go_roundw
        case rel => exact ⟨i + 6, its ++ [⟨⟨F0, F1, F2, F3, F4⟩, va, vc⟩], some ⟨g, 0, none⟩, gcap, by omega, by simp; omega, by go_num, by simp, by simpa using HO7, HALL, HF7⟩
        case measure => simp [slLen]; omega
      · go_wp2
        go_ret
        exact ⟨_, its, rfl, hl, HM, HB, HW.out⟩
    · go_wp2
      go_ret
      exact ⟨_, its, rfl, hl, HM, HB, HW.out⟩
theorem events_any (a : Option Addr) (n cap : Nat) (w : World) (hI : Hid (IntsAt w a n)) (hn : n ≤ 1000000000000000) (hnc : n ≤ cap) :
    Calls Tryz.prog 11 #[.slice a n cap, .int .i64 3] w fun e w' => ∃ (lv : Value) (its : List Item), e = .returned lv ∧ its.length ≤ 20 ∧ Hid (MadeO w.heap.size w' lv its) ∧ Hid (∀ it ∈ its, isB it.ev = true) ∧ Below w.heap.size w w' :=
  events_all 3 (by decide) (by decide) a n cap w hI hn hnc
end Go.Proofs.YtdjllnhahhjgmaaGreatDoor
namespace Go.Proofs.YtdjllnhahhjgmaaGreatDoor
open Go.RowKit Chron
theorem exp_one {es : List Ev} (h : es.length ≤ 20) (he : ∀ e ∈ es, isB e = true) : (expB es).2 = 0 := by
  rw [expB, if_neg (by omega), if_pos (List.all_eq_true.2 he)]
theorem MadeO.evsOk {N : Nat} {w : World} {a : Option Addr} {c : Nat} {its : List Item} (h : MadeO N w (.slice a its.length c) its) (hg : ∀ e ∈ evs its, isB e = true) : EvsAt w a its := by
  obtain ⟨x1, x2, x3, x4, _⟩ := h.at (fun it hi => hg it.ev (List.mem_map.2 ⟨it, hi, rfl⟩))
  cases x3
  exact x4
set_option maxRecDepth 100000 in
set_option maxHeartbeats 2000000 in
theorem onetale_any (a : Option Addr) (n cap : Nat) (c : Int) (a1 : Option Addr) (n1 cap1 : Nat) (a2 : Option Addr) (n2 cap2 : Nat) (w : World) (hI : Hid (IntsAt w a n)) (hn : n ≤ 1000000000000000) (hnc : n ≤ cap) (hc : Hid (-9223372036854775808 ≤ c)) (hI1 : Hid (IntsAt w a1 n1)) (hn1 : n1 ≤ maxLen) (hI2 : Hid (IntsAt w a2 n2)) (hn2 : n2 ≤ maxLen) (hL : Hid (LaidAt w)) :
    Calls Tryz.prog 5 #[.slice a n cap, .int .i64 c, .slice a1 n1 cap1, .slice a2 n2 cap2] w fun e w' => e = .returned (.bool true) ∧ Below w.heap.size w w' := by
  obtain ⟨hx, hy, hHow⟩ := how_fix w a1 n1 cap1 hI1.out hn1
  have HW1 := hide0 hHow
  clear hHow hn1
  obtain ⟨ux, uy, hHow⟩ := how_fix w a2 n2 cap2 hI2.out hn2
  have HW2 := hide0 hHow
  clear hHow hn2
  go_enter Tryz.func5, Tryz.ntmps5
  go_wp2_with fail
  refine (pick_any c 3 w hc.out (by omega)).mono ?_
  rintro e w' ⟨⟨pk, rfl, hp0, hp1⟩, hw'⟩
  have hw2 := hw'.symm
  subst hw2
  go_wp2_with fail
  refine (events_all (1 + pk) (by omega) (by omega) a n cap w hI hn hnc).mono ?_
  rintro e w1 ⟨mv, its, rfl, hl, HM, HW, hb1⟩
  obtain ⟨ma, mc, rfl, t1, hmc, t3⟩ := HM.out.at HW.out
  clear t1 t3
  have HB1 := hide0 hb1
  have hs1 := hb1.size
  clear hb1
  have HOK : Hid (∀ e ∈ evs its, isB e = true) := fun e he => by obtain ⟨it, hi, rfl⟩ := List.mem_map.1 he; exact HW.out it hi
  have hel : (evs its).length ≤ 20 := by simpa [evs] using hl
  have HG1 := hide0 (fillC_good (hn := hx) (hv := hy) (fun i => (HW1.out i).1.1) its.length 0 0 (evs its) HOK.out (by simp [evs]) (by omega))
  have HG2 := hide0 (fillC_good (hn := ux) (hv := uy) (fun i => (HW2.out i).1.1) its.length 0 0 (evs its) HOK.out (by simp [evs]) (by omega))
  have HXP : Hid (∀ (N : Nat) (ka : Option Addr) (kc : Nat) (ks : List Item) (W : World), evs ks = evs its → MadeO N W (.slice ka ks.length kc) ks → Below w.heap.size w W → Calls Tryz.prog 12 #[.slice ka ks.length kc] W fun e w' => e = .returned (.tuple #[.string ⟨(expB (evs its)).1.toArray⟩, .int .i64 0]) ∧ Below W.heap.size W w') := by
    intro N ka kc ks W h1 h2 h3
    have hkl : ks.length ≤ 20 := by have := congrArg List.length h1; simp only [evs, List.length_map] at this; omega
    have h4 := export_any ka kc ks W (h2.evsOk (by rw [h1]; exact HOK.out)) (by omega) (hL.out.below h3 (Nat.le_refl _))
    rw [h1, exp_one hel HOK.out] at h4
    exact h4
  generalize (expB (evs its)).1 = S at *
  go_wp2_with fail
  refine (HXP.out w.heap.size ma mc its w1 rfl HM.out HB1.out).mono ?_
  rintro e w2 ⟨rfl, hb2⟩
  have hs2 := hb2.size
  have HM2 := hide0 (HM.out.keep (w' := w2) (fun q _ h2 => hb2.block q h2))
  have HB2 := hide0 (HB1.out.trans (hb2.mono hs1))
  clear hb2 HB1 HM
  go_wp2_with fail
  refine (filled_any ma mc its a1 n1 cap1 hx hy w.heap.size w2 HM2 HW hl (HW1.out.below HB2.out)).mono ?_
  rintro e w3 ⟨pa, fva, eva, ja, rfl, HA3, HJa, hb3⟩
  have hs3 := hb3.out.size
  have HM3 := hide0 (HM2.out.keep (w' := w3) (fun q _ h2 => hb3.out.block q h2))
  have HB3 := hide0 (HB2.out.trans (hb3.out.mono (by omega)))
  clear hb3 HB2 HM2
  go_wp2_with fail
  refine (filled_any ma mc its a2 n2 cap2 ux uy w.heap.size w3 HM3 HW hl (HW2.out.below HB3.out)).mono ?_
  rintro e w4 ⟨pb, fvb, evb, jb, rfl, HBA4, HJb, hb4⟩
  have hs4 := hb4.out.size
  have HA4 := hide0 (HA3.out.below hb4.out)
  have hpa := HA3.out.lt pa (.inl rfl)
  have hpb := HBA4.out.lt pb (.inl rfl)
  have HALT := hide0 HA3.out.lt
  have HB4 := hide0 (HB3.out.trans (hb4.out.mono (by omega)))
  clear hb4 HB3 HM3 HA3
  generalize fillC hx hy its.length 0 (evs its) = Ca at *
  generalize fillC ux uy its.length 0 (evs its) = Cb at *
  clear HW1 HW2 hI hI1 hI2
  go_wp2_with fail
  refine (told_any w2.heap.size pa fva eva _ ja w4 HA4).mono ?_
  rintro e w5 ⟨xa, xc, xs, rfl, HX5, HE5, hb5⟩
  have hs5 := hb5.out.size
  have HB5 := hide0 (HB4.out.trans (hb5.out.mono (by omega)))
  have HA5 := hide0 (HA4.out.below hb5.out)
  have HBA5 := hide0 (HBA4.out.below hb5.out)
  have hX5 := HXP.out _ xa xc xs w5 (HE5.out.trans HJa.out) HX5.out HB5.out
  clear hb5 HB4 HA4 HBA4 HX5 HE5
  go_wp2_with fail
  refine hX5.mono ?_
  rintro e w6 ⟨rfl, hb6⟩
  have hs6 := hb6.size
  have HB6 := hide0 (HB5.out.trans (hb6.mono (by omega)))
  have HA6 := hide0 (HA5.out.below hb6)
  have HBA6 := hide0 (HBA5.out.below hb6)
  clear hb6 HB5 hX5 HA5 HBA5
  go_wp2_with fail
  refine (told_any w3.heap.size pb fvb evb _ jb w6 HBA6).mono ?_
  rintro e w7 ⟨xa7, xc7, xs7, rfl, HX7, HE7, hb7⟩
  have hs7 := hb7.out.size
  have HB7 := hide0 (HB6.out.trans (hb7.out.mono (by omega)))
  have HA7 := hide0 (HA6.out.below hb7.out)
  have HBA7 := hide0 (HBA6.out.below hb7.out)
  have hX7 := HXP.out _ xa7 xc7 xs7 w7 (HE7.out.trans HJb.out) HX7.out HB7.out
  clear hb7 HB6 HX7 HE7 HA6 HBA6
  go_wp2_with fail
  refine hX7.mono ?_
  rintro e w8 ⟨rfl, hb8⟩
  have hs8 := hb8.size
  have HB8 := hide0 (HB7.out.trans (hb8.mono (by omega)))
  have HA8 := hide0 (HA7.out.below hb8)
  have HBA8 := hide0 (HBA7.out.below hb8)
  clear hb8 HB7 hX7 HA7 HBA7
  go_wp2_with fail
  refine (migrate_any w3.heap.size pb fvb evb _ jb w8 HBA8).mono ?_
  rintro e w9 ⟨rfl, fvb9, HBA9, HM9⟩
  have HBA9 := hide0 HBA9
  rw [HJb.out] at HBA9
  have hs9 := HM9.size
  have HA9 := hide0 (HA8.out.keep (w' := w9) (fun q hq => HM9.block q (HA8.out.lt q hq).2 (fun h => by have := (HALT.out q hq).2; omega)))
  have HB9 := hide0 (HB8.out.trans (HM9.below (n := w.heap.size) (by omega) (fun q hq => by subst hq; omega)))
  clear HM9 HB8 HA8 HBA8
  go_wp2_with fail
  refine (told_any w3.heap.size pb fvb9 evb _ jb w9 HBA9).mono ?_
  rintro e w10 ⟨xa10, xc10, xs10, rfl, HX10, HE10, hb10⟩
  have hs10 := hb10.out.size
  have HB10 := hide0 (HB9.out.trans (hb10.out.mono (by omega)))
  have HA10 := hide0 (HA9.out.below hb10.out)
  have HBA10 := hide0 (HBA9.out.below hb10.out)
  have hX10 := HXP.out _ xa10 xc10 xs10 w10 (HE10.out.trans HJb.out) HX10.out HB10.out
  clear hb10 HB9 HX10 HE10 HA9 HBA9
  go_wp2_with fail
  refine hX10.mono ?_
  rintro e w11 ⟨rfl, hb11⟩
  have hs11 := hb11.size
  have HB11 := hide0 (HB10.out.trans (hb11.mono (by omega)))
  have HA11 := hide0 (HA10.out.below hb11)
  have HBA11 := hide0 (HBA10.out.below hb11)
  clear hb11 HB10 hX10 HA10 HBA10
  go_wp2_with fail
  refine (file_any pa fva eva w2.heap.size _ w11 HA11.out.blk HA11.out.fil HA11.out.pf).mono ?_
  rintro e w' ⟨rfl, hw'⟩
  have hw2 := hw'.symm
  subst hw2
  have hfa := fileB_short HG1.out.1
  have hO11 := open_any (fileB noB Ca) w11 (by omega)
  rw [readB_file HG1.out.1] at hO11
  simp only [HG1.out.2, List.take_length] at hO11
  go_wp2_with fail
  refine hO11.mono ?_
  rintro e w12 ⟨hb12, ⟨h, _⟩ | ⟨_, p3, fv3, ev3, js3, rfl, HC12, HJ3⟩⟩
  · cases h
  have hs12 := hb12.out.size
  have HB12 := hide0 (HB11.out.trans (hb12.out.mono (by omega)))
  have HA12 := hide0 (HA11.out.below hb12.out)
  have HBA12 := hide0 (HBA11.out.below hb12.out)
  clear hb12 HB11 HA11 HBA11 hO11
  go_wp2_with fail
  refine (file_any pb fvb9 evb w3.heap.size _ w12 HBA12.out.blk HBA12.out.fil HBA12.out.pf).mono ?_
  rintro e w' ⟨rfl, hw'⟩
  have hw2 := hw'.symm
  subst hw2
  have HGN := hide0 (anew_good (evs its) 0 HOK.out (by omega))
  have hfb := fileB_short HGN.out
  have hO12 := open_any (fileB noB (anewC (evs its))) w12 (by omega)
  rw [readB_file HGN.out] at hO12
  simp only [evsOf_anew, List.take_length] at hO12
  go_wp2_with fail
  refine hO12.mono ?_
  rintro e w13 ⟨hb13, ⟨h, _⟩ | ⟨_, p4, fv4, ev4, js4, rfl, HD13, HJ4⟩⟩
  · cases h
  have hs13 := hb13.out.size
  have HB13 := hide0 (HB12.out.trans (hb13.out.mono (by omega)))
  have HA13 := hide0 (HA12.out.below hb13.out)
  have HBA13 := hide0 (HBA12.out.below hb13.out)
  have HC13 := hide0 (HC12.out.below hb13.out)
  clear hb13 HB12 HA12 HBA12 HC12 hO12
  go_wp2_with fail
  refine (told_any w11.heap.size p3 fv3 ev3 _ js3 w13 HC13).mono ?_
  rintro e w14 ⟨xa14, xc14, xs14, rfl, HX14, HE14, hb14⟩
  have hs14 := hb14.out.size
  have HB14 := hide0 (HB13.out.trans (hb14.out.mono (by omega)))
  have HA14 := hide0 (HA13.out.below hb14.out)
  have HBA14 := hide0 (HBA13.out.below hb14.out)
  have HC14 := hide0 (HC13.out.below hb14.out)
  have HD14 := hide0 (HD13.out.below hb14.out)
  have hX14 := HXP.out _ xa14 xc14 xs14 w14 (HE14.out.trans HJ3.out) HX14.out HB14.out
  clear hb14 HB13 HX14 HE14 HA13 HBA13 HC13 HD13
  go_wp2_with fail
  refine hX14.mono ?_
  rintro e w15 ⟨rfl, hb15⟩
  have hs15 := hb15.size
  have HB15 := hide0 (HB14.out.trans (hb15.mono (by omega)))
  have HA15 := hide0 (HA14.out.below hb15)
  have HBA15 := hide0 (HBA14.out.below hb15)
  have HC15 := hide0 (HC14.out.below hb15)
  have HD15 := hide0 (HD14.out.below hb15)
  clear hb15 HB14 hX14 HA14 HBA14 HC14 HD14
  go_wp2_with fail
  refine (told_any w12.heap.size p4 fv4 ev4 _ js4 w15 HD15).mono ?_
  rintro e w16 ⟨xa16, xc16, xs16, rfl, HX16, HE16, hb16⟩
  have hs16 := hb16.out.size
  have HB16 := hide0 (HB15.out.trans (hb16.out.mono (by omega)))
  have HA16 := hide0 (HA15.out.below hb16.out)
  have HBA16 := hide0 (HBA15.out.below hb16.out)
  have HD16 := hide0 (HD15.out.below hb16.out)
  have hX16 := HXP.out _ xa16 xc16 xs16 w16 (HE16.out.trans HJ4.out) HX16.out HB16.out
  clear hb16 HB15 HX16 HE16 HA15 HBA15 HD15
  go_wp2_with fail
  refine hX16.mono ?_
  rintro e w17 ⟨rfl, hb17⟩
  have hs17 := hb17.size
  have HB17 := hide0 (HB16.out.trans (hb17.mono (by omega)))
  have HA17 := hide0 (HA16.out.below hb17)
  have HBA17 := hide0 (HBA16.out.below hb17)
  clear hb17 HB16 hX16 HA16 HBA16
  go_wp2_with fail
  refine (migrate_any w2.heap.size pa fva eva _ ja w17 HA17).mono ?_
  rintro e w18 ⟨rfl, fva18, HA18, HM18⟩
  have HA18 := hide0 HA18
  rw [HJa.out] at HA18
  have HBA18 := hide0 (HBA17.out.keep (w' := w18) (fun q hq => HM18.block q (HBA17.out.lt q hq).2 (fun h => by have := (HBA17.out.lt q hq).1; omega)))
  have HB18 := hide0 (HB17.out.trans (HM18.below (n := w.heap.size) (by omega) (fun q hq => by subst hq; omega)))
  clear HM18 HB17 HA17 HBA17
  go_wp2_with fail
  refine (file_any pa fva18 eva w2.heap.size _ w18 HA18.out.blk HA18.out.fil HA18.out.pf).mono ?_
  rintro e w' ⟨rfl, hw'⟩
  have hw2 := hw'.symm
  subst hw2
  go_wp2_with fail
  refine (file_any pb fvb9 evb w3.heap.size _ w18 HBA18.out.blk HBA18.out.fil HBA18.out.pf).mono ?_
  rintro e w' ⟨rfl, hw'⟩
  have hw2 := hw'.symm
  subst hw2
  go_wp2_with fail
  go_ret
  exact ⟨rfl, HB18.out⟩
end Go.Proofs.YtdjllnhahhjgmaaGreatDoor
namespace Go.Proofs.YtdjllnhahhjgmaaGreatDoor
open Go.ChangeShapes Go.WideShapes Go.ChangeAt Go.WideMaps Go.WideElems Go.RowKit Chron
theorem bytesInt2 : Tryz.prog.bytesOf 3 = 8 := by kernel_rfl
set_option maxRecDepth 100000 in
theorem ints_two {H : Type} {enc : TypeId × Value → H} {W : World} {base b0 : Nat} {held : Bool} {v : Value} {d : DataW H} {p : List MemPlace} (hval : Value.okWide Tryz.prog W .any b0 38 v)
    (h : DataW.Trod enc Tryz.prog W base (fun _ => true) held 38 v d p) (hw : ∀ n ∈ d.weights Tryz.prog 38, n ≤ reachBytes) :
    ∃ (a : Option Addr) (n cap : Nat), v = .slice a n cap ∧ IntsAt W a n ∧ n ≤ cap ∧ n ≤ maxLen ∧ n ≤ 1000000000000000 := by
  obtain ⟨a0, len0, cap0, rfl⟩ := okWide_slice Tryz.underlying38 hval
  obtain ⟨fuel, hf⟩ := h
  rcases open_ints Tryz.underlying38 Tryz.underlying3 (by kernel_rfl) hf with ⟨hcs, _⟩ | ⟨x, l, c, zs, hcs, _, hl, hm, hz, hx, hcell, hwz⟩
  · simp [Value.cells] at hcs
    obtain ⟨rfl, rfl, rfl⟩ := hcs
    exact ⟨none, 0, 0, rfl, fun i hi => by omega, Nat.le_refl _, Nat.zero_le _, Nat.zero_le _⟩
  · simp [Value.cells] at hcs
    obtain ⟨rfl, rfl, rfl⟩ := hcs
    have hzl : zs.length = cap0 := by simpa using hz
    simp only [Prod.mk.injEq] at hx
    obtain ⟨rfl, _⟩ := hx
    have hlen : len0 * 8 ≤ reachBytes := by
      have h9 := hw (((lits .i64 (zs.take len0) : List (DataW H)).length + (lits .i64 (zs.drop len0) : List (DataW H)).length) * Tryz.prog.bytesOf 3) (by simp [DataW.weights, Tryz.underlying38])
      rw [bytesInt2] at h9
      simp only [lits, List.length_map, List.length_take, List.length_drop] at h9
      omega
    have hr := reachBytes_lt
    refine ⟨some x, len0, cap0, rfl, fun i hi => ?_, hl, Nat.le_trans hl hm, by omega⟩
    obtain ⟨b, off, rfl, hc⟩ := ints_at hcell (by omega : 0 < zs.length)
    refine ⟨b, off, zs.getD i 0, rfl, hc i (by omega), ?_⟩
    have hmem : zs.getD i 0 ∈ zs := by
      rw [List.getD_eq_getElem?_getD, List.getElem?_eq_getElem (by omega)]; exact List.getElem_mem _
    exact (bounds_i64 (hwz _ hmem)).1
end Go.Proofs.YtdjllnhahhjgmaaGreatDoor
