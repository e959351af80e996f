/- Walks and plain facts, in the order in which they lean on one another. -/
import Derived.Test.YtdjllnhahhjgmabW12
import Derived.Test.YtdjllnhahhjgmabW04
import Derived.Test.YtdjllnhahhjgmabRows
import Derived.Test.YtdjllnhahhjgmabW03
import Derived.WalkKit
import Derived.ProofKit
import Derived.OpenShut
import Derived.ChangeOld
import Derived.Below
import Derived.SizedLaws
namespace Chron
open Go Go.RowKit
theorem cut_plain {cs : List Chunk} (hg : GoodC 0 cs) (n : Nat) : ∃ a b, cs = a ++ b ∧ GoodC 0 a ∧ readB ((fileB noB cs).take n) = (evsOf a, (fileB noB a).length, true) ∧ ((fileB noB cs).take n).take (fileB noB a).length = fileB noB a ∧ (n = (fileB noB cs).length → b = []) := by
  obtain ⟨a, b, p, e1, e2, e3, e4, e5, e6⟩ := fileB_cut cs [] n hg
  have e2' : (fileB noB cs).take n = fileB noB a ++ p := e2
  have hga : GoodC 0 a := by rw [e1] at hg; exact (GoodC.append.1 hg).1
  refine ⟨a, b, e1, hga, ?_, ?_, ?_⟩
  · rw [e2']; exact readB_go hga (by simpa using e3)
  · rw [e2']; exact List.take_left
  · intro h
    cases b with
    | nil => rfl
    | cons c r =>
      have h6 := e6 c r rfl
      have hlen : (fileB noB cs).length = (fileB noB a).length + ((entryB c.1 (lastB noB (evsOf a)) c.2).length + (fileB (lastB (lastB noB (evsOf a)) c.2) r).length) := by
        rw [e1, fileB_append]; simp [fileB]
      have h7 : min n (fileB noB cs).length < (fileB noB a).length + (entryB c.1 (lastB noB ([] ++ evsOf a)) c.2).length := h6
      simp only [List.nil_append] at h7
      omega
def moreEv (t : Int) : Ev := ⟨4, ⟨#[109, 111, 114, 101]⟩, t, ⟨#[]⟩, []⟩
theorem more_goes {t : Int} (h0 : 0 ≤ t) (h1 : t ≤ 7) : goesB 2 (moreEv t) = true := by
  have : t = 0 ∨ t = 1 ∨ t = 2 ∨ t = 3 ∨ t = 4 ∨ t = 5 ∨ t = 6 ∨ t = 7 := by omega
  rcases this with rfl | rfl | rfl | rfl | rfl | rfl | rfl | rfl <;> decide +kernel
theorem more_good {cs : List Chunk} {t : Int} (hg : GoodC 0 cs) (h0 : 0 ≤ t) (h1 : t ≤ 7) (hl : (evsOf cs).length < 200) : GoodC 0 (cs ++ [(2, [moreEv t])]) ∧ evsOf (cs ++ [(2, [moreEv t])]) = evsOf cs ++ [moreEv t] := by
  refine ⟨GoodC.append.2 ⟨hg, ⟨fun e he => ?_, by simp, by simp; omega⟩, trivial⟩, by rw [evsOf_append]; simp [evsOf]⟩
  simp at he; subst he; exact more_goes h0 h1
end Chron
namespace Go.Proofs.Ytdjllnhahhjgmab
open Go.RowKit Chron
set_option maxRecDepth 100000 in
set_option maxHeartbeats 1000000 in
theorem lasting_any (a : Option Addr) (n cap : Nat) (a2 : Option Addr) (n2 cap2 : Nat) (c : Int) (w : World) (hI : Hid (IntsAt w a n)) (hn : n ≤ 1000000000000000) (hnc : n ≤ cap) (hI2 : Hid (IntsAt w a2 n2)) (hn2 : n2 ≤ maxLen) (hc : Hid (-9223372036854775808 ≤ c)) :
    Calls Try.prog 3 #[.slice a n cap, .slice a2 n2 cap2, .int .i64 c] w fun e w' => e = .returned (.bool true) ∧ Below w.heap.size w w' := by
  obtain ⟨hn', hv', hHow⟩ := how_fix w a2 n2 cap2 hI2.out hn2
  have HHow := hide0 hHow
  clear hHow hn2
  go_enter Try.func3, Try.ntmps3
  go_wp2_with fail
  refine (events_all 2 (by decide) (by decide) a n cap w hI hn hnc).mono ?_
  rintro e w1 ⟨mv, its, rfl, hl, HM, HW, hb1⟩
  obtain ⟨ma, mc, rfl, t1, hmc, t3⟩ := HM.out.at HW.out
  clear t1 t3
  have HB1 := hide0 hb1
  clear hb1
  go_wp2_with fail
  refine (filled_any ma mc its a2 n2 cap2 hn' hv' w.heap.size w1 HM HW hl (HHow.out.below HB1.out)).mono ?_
  rintro e w2 ⟨p, fv, ev, js, rfl, HA2, HJ2, HB2⟩
  have HG := hide0 (fillC_good (hn := hn') (hv := hv') (fun i => (HHow.out i).1.1) its.length 0 0 (evs its) (fun e he => by obtain ⟨it, hi, rfl⟩ := List.mem_map.1 he; exact HW.out it hi) (by simp [evs]) (by simp [evs]; omega))
  have hfl := fileB_short HG.out.1
  generalize fillC hn' hv' its.length 0 (evs its) = cs at *
  have hs1 := HB1.out.size
  have hs2 := HB2.out.size
  have hOe := open_any [] w2 (by simp)
  rw [readB_nil] at hOe
  simp only [List.take_nil] at hOe
  go_wp2_with fail
  refine hOe.mono ?_
  rintro e w3 ⟨HB3, ⟨h, _⟩ | ⟨_, p3, fv3, ev3, js3, rfl, HA3, HJ3⟩⟩
  · cases h
  have HA2' := hide0 (HA2.out.below HB3.out)
  have hs3 := HB3.out.size
  have hF := file_any p fv ev w1.heap.size (fileB noB cs) w3 HA2'.out.blk HA2'.out.fil HA2'.out.pf
  have hF3 := file_any p3 fv3 ev3 w2.heap.size [] w3 HA3.out.blk HA3.out.fil HA3.out.pf
  clear hOe
  go_wp2_with fail
  refine hF.mono ?_
  rintro e w' ⟨rfl, hw'⟩
  have hw2 := hw'.symm
  subst hw2
  go_wp2_with fail
  refine hF3.mono ?_
  rintro e w' ⟨rfl, hw'⟩
  have hw2 := hw'.symm
  subst hw2
  have hsz : (⟨(fileB noB cs).toArray⟩ : ByteArray).size = (fileB noB cs).length := rfl
  go_wp2_with fail
  refine (pick_any c (((fileB noB cs).length : Int) + 1) w3 hc.out (by omega)).mono ?_
  rintro e w' ⟨⟨pk, rfl, hp0, hp1⟩, hw'⟩
  have hw2 := hw'.symm
  subst hw2
  obtain ⟨L, HL⟩ : ∃ L, Hid ((fileB noB cs).length = L) := ⟨_, rfl⟩
  rw [HL.out] at hp1 hsz hfl
  obtain ⟨nn, hnn, hnL⟩ : ∃ nn : Nat, (L : Int) - pk = nn ∧ nn ≤ L := ⟨(L - pk).toNat, by omega, by omega⟩
  obtain ⟨ca, cb, ec, hga, hrd, htk, hend⟩ := cut_plain HG.out.1 nn
  have hx : (⟨(fileB noB cs).toArray⟩ : ByteArray).extract 0 nn = ⟨((fileB noB cs).take nn).toArray⟩ := extract_mk_take _ nn
  have hO4 := open_any ((fileB noB cs).take nn) w3 (by rw [List.length_take]; omega)
  rw [hrd] at hO4
  simp only [htk] at hO4
  have HE : Hid (evs its = evsOf ca ++ evsOf cb) := by show _ = _; rw [← HG.out.2, ec, evsOf_append]
  have HGA := hide0 hga
  have HND := hide0 hend
  rw [HL.out]
  generalize hFF : (fileB noB cs) = F at *
  clear hrd htk hga hend hF hF3 ec hFF
  go_wp2_with fail
  refine hO4.mono ?_
  rintro e w4 ⟨HB4, ⟨h, _⟩ | ⟨_, p4, fv4, ev4, js4, rfl, HA4, HJ4⟩⟩
  · cases h
  have hs4 := HB4.out.size
  clear hO4
  go_wp2_with fail
  refine (told_any w3.heap.size p4 fv4 ev4 (fileB noB ca) js4 w4 HA4).mono ?_
  rintro e w5 ⟨ka, kc, ks, rfl, HK5, HKE, HB5⟩
  have hs5 := HB5.out.size
  have HKE := hide0 (HKE.out.trans HJ4.out)
  have hlen1 : (evs its).length = its.length := by simp [evs]
  have hlen2 : (evs ks).length = ks.length := by simp [evs]
  rw [HE.out, List.length_append] at hlen1
  rw [HKE.out] at hlen2
  have hkl : ks.length ≤ its.length := by omega
  have hkL : nn = L → ks.length = its.length := fun h => by
    have := HND.out (by rw [HL.out]; exact h)
    rw [this] at hlen1
    simp only [evsOf, List.length_nil] at hlen1
    omega
  obtain ⟨kl, HKL⟩ : ∃ kl, Hid (ks.length = kl) := ⟨_, rfl⟩
  obtain ⟨ml, HML⟩ : ∃ ml, Hid (its.length = ml) := ⟨_, rfl⟩
  rw [HKL.out, HML.out] at hkl hkL
  rw [HML.out] at hl
  rw [HKL.out, HML.out]
  clear hlen1 hlen2 hmc
  have hd : (¬ nn = L) ∨ (nn = L ∧ kl = ml) := by
    by_cases h : nn = L
    · exact .inr ⟨h, hkL h⟩
    · exact .inl h
  clear hkL
  have HKA := hide0 (HK5.out.at (fun it hi => by
    have : it.ev ∈ evs ks := List.mem_map.2 ⟨it, hi, rfl⟩
    rw [HKE.out] at this
    exact HGA.out.is it.ev this))
  have HKM : Hid (EvsAt w5 ka ks) := by
    obtain ⟨x1, x2, x3, x4, _⟩ := HKA.out
    cases x3
    exact x4
  have HMM : Hid (EvsAt w5 ma its) := by
    obtain ⟨x1, x2, x3, x4, _⟩ := HM.out.at HW.out
    cases x3
    exact ((x4.below HB2.out (Nat.le_refl _)).below HB3.out (Nat.le_refl _)).below (HB4.out.trans (HB5.out.mono hs4)) (Nat.le_refl _)
  have HEV : Hid (∀ (i : Nat) (x y : Item), ks[i]? = some x → its[i]? = some y → x.ev = y.ev) := by
    intro i x y hx hy
    have h1 : (evs ks)[i]? = some x.ev := by simp [evs, hx]
    have h2 : (evs its)[i]? = some y.ev := by simp [evs, hy]
    rw [HKE.out] at h1
    rw [HE.out, List.getElem?_append_left (List.getElem?_eq_some_iff.1 h1).1, h1] at h2
    simpa using h2
  have HBB : Hid (Below w.heap.size w w5) := HB1.out.trans ((HB2.out.trans ((HB3.out.trans ((HB4.out.trans (HB5.out.mono hs4)).mono hs3)).mono hs2)).mono hs1)
  have HAB : Hid (ArchO w3.heap.size p4 w5 fv4 ev4 (fileB noB ca) js4) := HA4.out.below HB5.out
  have hk20 : kl ≤ 20 := by omega
  clear HKA HK5 HA4 HB4 HB5 HA3 HA2' HA2 HM HB1 HB2 HB3 HHow HJ3 HJ2 HG hx HE
  rcases hd with hd | hd
  all_goals try (obtain ⟨hd1, hd2⟩ := hd; subst hd1; subst hd2)
  all_goals
    have hnm := Nat.not_lt.2 hkl
    have HKM2 := hide0 hkl
    clear hkl
    go_wp2_with fail
    go_loopw [17] (fun iv wx => ∃ i : Nat, i ≤ kl ∧ iv = .int .i64 i ∧ Hid (Below w5.heap.size w5 wx)) (fun iv _ => kl - (intOf iv).toNat)
    case atStart => exact ⟨0, Nat.zero_le _, rfl, Below.refl _ _⟩
    case round =>
      obtain ⟨i, hi, rfl, HQ⟩ := hrel
      have hsq := HQ.out.size
      by_cases hlt : i < kl
      · obtain ⟨b1, o1, rfl, hc1⟩ := HKM.out.below HQ.out (Nat.le_refl _) (by have := HKL.out; omega)
        obtain ⟨b2, o2, rfl, hc2⟩ := HMM.out.below HQ.out (Nat.le_refl _) (by have := HML.out; have := HKM2.out; omega)
        obtain ⟨⟨⟨kd, tk, tm, bd, ts⟩, ta, tc⟩, hx⟩ : ∃ x, ks[i]? = some x := ⟨_, List.getElem?_eq_getElem (by rw [HKL.out]; exact hlt)⟩
        obtain ⟨⟨ev2, ta2, tc2⟩, hy⟩ : ∃ x, its[i]? = some x := ⟨_, List.getElem?_eq_getElem (by rw [HML.out]; have := HKM2.out; omega)⟩
        have hev := HEV.out i _ _ hx hy
        simp only at hev
        subst hev
        obtain ⟨⟨c0, c1, c2, c3, c4⟩, hok⟩ := hc1 i _ hx
        obtain ⟨⟨d0, d1, d2, d3, d4⟩, hok2⟩ := hc2 i _ hy
        simp only at c0 c1 c2 c3 c4 d0 d1 d2 d3 d4
        have HOK := hide0 hok
        have HOK2 := hide0 hok2
        have hii : (i : Int) < (kl : Int) := by omega
        have hii2 := Nat.lt_of_lt_of_le hlt HKM2.out
        have hS := same_keep ⟨kd, tk, tm, bd, ts⟩ ⟨kd, tk, tm, bd, ts⟩ ta ta2 tc tc2 wr.drew HOK.out.tags HOK2.out.tags (by have := HOK.out.few; unfold maxLen; simp only at this ⊢; omega) (by have := HOK.out.few; unfold maxLen; simp only at this ⊢; omega)
        simp only [evVal, (sameEv_iff (e := ⟨kd, tk, tm, bd, ts⟩) (f := ⟨kd, tk, tm, bd, ts⟩)).2 rfl] at hS
        have lt1 : b1 < wr.drew.heap.size := World.block_lt_of_cell? wr _ c0
        have lt2 : b2 < wr.drew.heap.size := World.block_lt_of_cell? wr _ d0
        clear hc1 hc2 hok hok2 hx hy
        go_wp2_with fail
        go_region_held (fun w' => w'.cell? ⟨b1, o1 + i * 5, none⟩ = some (.int .i64 kd) ∧ w'.cell? ⟨b1, o1 + i * 5 + 1, none⟩ = some (.string tk) ∧ w'.cell? ⟨b1, o1 + i * 5 + 2, none⟩ = some (.int .i64 tm) ∧ w'.cell? ⟨b1, o1 + i * 5 + 3, none⟩ = some (.string bd) ∧ w'.cell? ⟨b1, o1 + i * 5 + 4, none⟩ = some (.slice ta ts.length tc) ∧ w'.cell? ⟨b2, o2 + i * 5, none⟩ = some (.int .i64 kd) ∧ w'.cell? ⟨b2, o2 + i * 5 + 1, none⟩ = some (.string tk) ∧ w'.cell? ⟨b2, o2 + i * 5 + 2, none⟩ = some (.int .i64 tm) ∧ w'.cell? ⟨b2, o2 + i * 5 + 3, none⟩ = some (.string bd) ∧ w'.cell? ⟨b2, o2 + i * 5 + 4, none⟩ = some (.slice ta2 ts.length tc2)) (go_keep)
          (first | (go_at_call 11; refine hS.mono ?_; rintro e w6 ⟨rfl, hb6⟩; have p0 := (hb6.cell (p := ⟨b1, o1 + i * 5, none⟩) lt1).trans c0; have p1 := (hb6.cell (p := ⟨b1, o1 + i * 5 + 1, none⟩) lt1).trans c1; have p2 := (hb6.cell (p := ⟨b1, o1 + i * 5 + 2, none⟩) lt1).trans c2; have p3 := (hb6.cell (p := ⟨b1, o1 + i * 5 + 3, none⟩) lt1).trans c3; have p4 := (hb6.cell (p := ⟨b1, o1 + i * 5 + 4, none⟩) lt1).trans c4; have q0 := (hb6.cell (p := ⟨b2, o2 + i * 5, none⟩) lt2).trans d0; have q1 := (hb6.cell (p := ⟨b2, o2 + i * 5 + 1, none⟩) lt2).trans d1; have q2 := (hb6.cell (p := ⟨b2, o2 + i * 5 + 2, none⟩) lt2).trans d2; have q3 := (hb6.cell (p := ⟨b2, o2 + i * 5 + 3, none⟩) lt2).trans d3; have q4 := (hb6.cell (p := ⟨b2, o2 + i * 5 + 4, none⟩) lt2).trans d4))
        all_goals
          have HQ6 := hide0 (HQ.out.drew.trans (hb6.mono (by show w5.heap.size ≤ wr.heap.size; exact hsq)))
          clear hb6 p0 p1 p2 p3 p4 q0 q1 q2 q3 q4 c0 c1 c2 c3 c4 d0 d1 d2 d3 d4 hS
          go_wp2
          go_roundw
          case rel => exact ⟨i + 1, by omega, by go_num, HQ6⟩
          case measure => simp [intOf]; omega
      · have HQ2 : Hid (Below w5.heap.size w5 ((wr.alloc (.cells #[.int .i64 4, .string ⟨#[109, 111, 114, 101]⟩, .int .i64 7, .string ⟨#[]⟩, .slice none 0 0] 36)).alloc (.cells #[.int .i64 4, .string ⟨#[109, 111, 114, 101]⟩, .int .i64 7, .string ⟨#[]⟩, .slice none 0 0] 36))) := (HQ.out.alloc hsq _).alloc (by simp; omega) _
        have hmb := heap_alloc_new wr (.cells #[.int .i64 4, .string ⟨#[109, 111, 114, 101]⟩, .int .i64 7, .string ⟨#[]⟩, .slice none 0 0] 36)
        have HE1 : Hid (EvsAt ((wr.alloc (.cells #[.int .i64 4, .string ⟨#[109, 111, 114, 101]⟩, .int .i64 7, .string ⟨#[]⟩, .slice none 0 0] 36)).alloc (.cells #[.int .i64 4, .string ⟨#[109, 111, 114, 101]⟩, .int .i64 7, .string ⟨#[]⟩, .slice none 0 0] 36)) (some ⟨wr.heap.size + 1, 0, none⟩) [⟨moreEv 7, none, 0⟩]) := by
          have h := evsAt_one (wr.alloc (.cells #[.int .i64 4, .string ⟨#[109, 111, 114, 101]⟩, .int .i64 7, .string ⟨#[]⟩, .slice none 0 0] 36)) (i := ⟨moreEv 7, none, 0⟩) ⟨tags_none _, short_none, Nat.zero_le _, by decide, by decide⟩
          rw [World.size_alloc] at h
          exact h
        have hap : Hid (∀ q, ReadsOf (some ⟨wr.heap.size + 1, 0, none⟩) [⟨moreEv 7, none, 0⟩] q → ¬ Foot p4 fv4 ev4 js4 q) := by
          rintro q (⟨o, e⟩ | ⟨it, hit, o, e⟩) h
          · cases e
            have := (HAB.out.lt _ h).2
            omega
          · simp at hit; subst hit; cases e
        have HAW := hide0 (HAB.out.below HQ2.out)
        have hj4 : js4.length = kl := by have := congrArg List.length HJ4.out; rw [← HKE.out] at this; simp only [evs, List.length_map] at this; have := HKL.out; omega
        have hflA := fileB_short HGA.out
        have hAp := append_any w3.heap.size p4 2 fv4 ev4 (fileB noB ca) js4 (some ⟨wr.heap.size + 1, 0, none⟩) 1 [⟨moreEv 7, none, 0⟩] _ HAW HE1 (by simp) (by omega) hap
        obtain ⟨hG7, hE7⟩ := more_good (t := 7) HGA.out (by decide) (by decide) (by have h := congrArg List.length HJ4.out; simp only [evs, List.length_map] at h; omega)
        have hr0 : refB 2 js4.length (evs [⟨moreEv 7, none, 0⟩]) = 0 := refB_zero (by decide) (by simp [evs]; omega) (by have := more_goes (t := 7) (by decide) (by decide); simp [evs, this])
        obtain ⟨ay1, ay2⟩ := app_yes (v := 2) (cs := ca) (l := evs js4) (more := evs [⟨moreEv 7, none, 0⟩]) (by simpa [evs] using hr0) (by simp [evs]) HJ4.out.symm
        rw [hr0, ay1, ay2] at hAp
        have HG7 := hide0 hG7
        have HE7 := hide0 hE7
        have HMB : Hid (∀ w8 F', Moved ((wr.alloc (.cells #[.int .i64 4, .string ⟨#[109, 111, 114, 101]⟩, .int .i64 7, .string ⟨#[]⟩, .slice none 0 0] 36)).alloc (.cells #[.int .i64 4, .string ⟨#[109, 111, 114, 101]⟩, .int .i64 7, .string ⟨#[]⟩, .slice none 0 0] 36)) w8 (Foot p4 fv4 ev4 js4) F' → w8.heap[wr.heap.size]? = some (.cells #[.int .i64 4, .string ⟨#[109, 111, 114, 101]⟩, .int .i64 7, .string ⟨#[]⟩, .slice none 0 0] 36)) := fun w8 F' hm =>
          (hm.block wr.heap.size (by simp; omega) (fun h => by have := (HAB.out.lt _ h).2; omega)).trans ((Below.heap_alloc _ _ _ (by simp)).trans hmb)
        clear hr0 ay1 ay2 hap HE1 hmb hG7 hE7
        go_wp2_with fail
        refine hAp.mono ?_
        rintro e w8 ⟨rfl, fv8, ev8, js8, HA8, HJ8, HM8⟩
        have HA8 := hide0 HA8
        have HJ8 := hide0 HJ8
        have hF8 := file_any p4 fv8 ev8 w3.heap.size _ w8 HA8.out.blk HA8.out.fil HA8.out.pf
        have hsz8 := HQ2.out.size
        have HB8 := hide0 ((HBB.out.trans (HQ2.out.mono (by have := HBB.out.size; omega))).trans (HM8.below (n := w.heap.size) (by have := HBB.out.size; omega) (fun q hq => by have := (HAW.out.lt q hq).1; omega)))
        have HM8b := hide0 (HMB.out w8 _ HM8)
        clear hAp HM8 HAW HMB
        go_wp2_with fail
        refine hF8.mono ?_
        rintro e w' ⟨rfl, hw'⟩
        have hw2 := hw'.symm
        subst hw2
        have hfl8 := fileB_short HG7.out
        have hO9 := open_any (fileB noB (ca ++ [(2, evs [⟨moreEv 7, none, 0⟩])])) w8 (by have h : (fileB noB (ca ++ [(2, evs [⟨moreEv 7, none, 0⟩])])).length ≤ 83800 := hfl8; omega)
        rw [show readB (fileB noB (ca ++ [(2, evs [⟨moreEv 7, none, 0⟩])])) = (evsOf (ca ++ [(2, [moreEv 7])]), (fileB noB (ca ++ [(2, evs [⟨moreEv 7, none, 0⟩])])).length, true) from readB_file HG7.out] at hO9
        go_wp2_with fail
        refine hO9.mono ?_
        rintro e w9 ⟨HB9, ⟨h, _⟩ | ⟨_, p9, fv9, ev9, js9, rfl, HA9, HJ9⟩⟩
        · cases h
        go_wp2_with fail
        refine (told_any w8.heap.size p9 fv9 ev9 _ js9 w9 HA9).mono ?_
        rintro e w10 ⟨xa, xc, xs, rfl, HX, HXE, HB10⟩
        have HXE := hide0 ((HXE.out.trans HJ9.out).trans HE7.out)
        have hxl : xs.length = kl + 1 := by
          have h := congrArg List.length HXE.out
          rw [List.length_append, ← HKE.out] at h
          simp only [evs, List.length_map, List.length_singleton] at h
          have := HKL.out
          omega
        have hs9 := HB9.out.size
        have hs10 := HB10.out.size
        have HXA : Hid (EvsAt w10 xa xs) := by
          obtain ⟨x1, x2, x3, x4, _⟩ := HX.out.at (fun it hi => by
            have : it.ev ∈ evs xs := List.mem_map.2 ⟨it, hi, rfl⟩
            rw [HXE.out, ← HE7.out] at this
            exact HG7.out.is it.ev this)
          cases x3
          exact x4
        obtain ⟨b1, o1, rfl, hc1⟩ := HXA.out (by omega)
        obtain ⟨⟨ev2, ta, tc⟩, hx⟩ : ∃ x, xs[kl]? = some x := ⟨_, List.getElem?_eq_getElem (by omega)⟩
        have hev : ev2 = moreEv 7 := by
          have h1 : (evs xs)[kl]? = some ev2 := by simp [evs, hx]
          have hkk : (evsOf ca).length = kl := by rw [← HKE.out]; simpa [evs] using HKL.out
          rw [HXE.out, List.getElem?_append_right (by omega), hkk] at h1
          simp at h1
          exact h1.symm
        subst hev
        obtain ⟨⟨c0, c1, c2, c3, c4⟩, hok⟩ := hc1 kl _ hx
        simp only [moreEv, List.length_nil] at c0 c1 c2 c3 c4
        have HOK := hide0 hok
        have hmb := ((HB10.out.block wr.heap.size (by have := (Array.getElem?_eq_some_iff.1 HM8b.out).1; omega)).trans (HB9.out.block wr.heap.size (Array.getElem?_eq_some_iff.1 HM8b.out).1)).trans HM8b.out
        obtain ⟨d0, d1, d2, d3, d4, dz⟩ := res_cells hmb
        have HBF := hide0 (HB8.out.trans ((HB9.out.trans (HB10.out.mono hs9)).mono HB8.out.size))
        have hS := same_keep (moreEv 7) (moreEv 7) ta none tc 0 w10.drew HOK.out.tags (tags_none _) (by show 0 ≤ maxLen; omega) (by show 0 ≤ maxLen; omega)
        simp only [evVal, (sameEv_iff (e := moreEv 7) (f := moreEv 7)).2 rfl] at hS
        simp only [moreEv, List.length_nil] at hS
        have lt1 : b1 < w10.drew.heap.size := World.block_lt_of_cell? w10 _ c0
        have lt2 : wr.heap.size < w10.drew.heap.size := World.block_lt_of_cell? w10 _ d0
        have hsE := HBF.out.size
        rw [hxl]
        clear hc1 hok hx hmb dz HX HA9 HB9 HB10 HM8b hxl hO9 hF8
        go_wp2_with fail
        go_region_held (fun w' => w'.cell? ⟨b1, o1 + kl * 5, none⟩ = some (.int .i64 4) ∧ w'.cell? ⟨b1, o1 + kl * 5 + 1, none⟩ = some (.string ⟨#[109, 111, 114, 101]⟩) ∧ w'.cell? ⟨b1, o1 + kl * 5 + 2, none⟩ = some (.int .i64 7) ∧ w'.cell? ⟨b1, o1 + kl * 5 + 3, none⟩ = some (.string ⟨#[]⟩) ∧ w'.cell? ⟨b1, o1 + kl * 5 + 4, none⟩ = some (.slice ta 0 tc) ∧ w'.cell? ⟨wr.heap.size, 0, none⟩ = some (.int .i64 4) ∧ w'.cell? ⟨wr.heap.size, 1, none⟩ = some (.string ⟨#[109, 111, 114, 101]⟩) ∧ w'.cell? ⟨wr.heap.size, 2, none⟩ = some (.int .i64 7) ∧ w'.cell? ⟨wr.heap.size, 3, none⟩ = some (.string ⟨#[]⟩) ∧ w'.cell? ⟨wr.heap.size, 4, none⟩ = some (.slice none 0 0)) (go_keep)
          (first | (go_at_call 11; refine hS.mono ?_; rintro e w11 ⟨rfl, hb11⟩; have p0 := (hb11.cell (p := ⟨b1, o1 + kl * 5, none⟩) lt1).trans c0; have p1 := (hb11.cell (p := ⟨b1, o1 + kl * 5 + 1, none⟩) lt1).trans c1; have p2 := (hb11.cell (p := ⟨b1, o1 + kl * 5 + 2, none⟩) lt1).trans c2; have p3 := (hb11.cell (p := ⟨b1, o1 + kl * 5 + 3, none⟩) lt1).trans c3; have p4 := (hb11.cell (p := ⟨b1, o1 + kl * 5 + 4, none⟩) lt1).trans c4; have q0 := (hb11.cell (p := ⟨wr.heap.size, 0, none⟩) lt2).trans d0; have q1 := (hb11.cell (p := ⟨wr.heap.size, 1, none⟩) lt2).trans d1; have q2 := (hb11.cell (p := ⟨wr.heap.size, 2, none⟩) lt2).trans d2; have q3 := (hb11.cell (p := ⟨wr.heap.size, 3, none⟩) lt2).trans d3; have q4 := (hb11.cell (p := ⟨wr.heap.size, 4, none⟩) lt2).trans d4))
        all_goals
          have HB11 := hide0 (HBF.out.drew.trans (hb11.mono (by show w.heap.size ≤ w10.heap.size; exact hsE)))
          clear hb11 p0 p1 p2 p3 p4 q0 q1 q2 q3 q4 c0 c1 c2 c3 c4 d0 d1 d2 d3 d4 hS
          go_wp2
          go_ret
          exact ⟨rfl, HB11.out⟩
end Go.Proofs.Ytdjllnhahhjgmab
namespace Go.Proofs.Ytdjllnhahhjgmab
open Go.ChangeShapes Go.WideShapes Go.ChangeAt Go.WideMaps Go.WideElems Go.RowKit Chron
theorem bytesInt2 : Try.prog.bytesOf 3 = 8 := by kernel_rfl
set_option maxRecDepth 100000 in
theorem ints_two {H : Type} {enc : TypeId × Value → H} {W : World} {base b0 : Nat} {held : Bool} {v : Value} {d : DataW H} {p : List MemPlace} (hval : Value.okWide Try.prog W .any b0 22 v)
    (h : DataW.Trod enc Try.prog W base (fun _ => true) held 22 v d p) (hw : ∀ n ∈ d.weights Try.prog 22, n ≤ reachBytes) :
    ∃ (a : Option Addr) (n cap : Nat), v = .slice a n cap ∧ IntsAt W a n ∧ n ≤ cap ∧ n ≤ maxLen ∧ n ≤ 1000000000000000 := by
  obtain ⟨a0, len0, cap0, rfl⟩ := okWide_slice Try.underlying22 hval
  obtain ⟨fuel, hf⟩ := h
  rcases open_ints Try.underlying22 Try.underlying3 (by kernel_rfl) hf with ⟨hcs, _⟩ | ⟨x, l, c, zs, hcs, _, hl, hm, hz, hx, hcell, hwz⟩
  · simp [Value.cells] at hcs
    obtain ⟨rfl, rfl, rfl⟩ := hcs
    exact ⟨none, 0, 0, rfl, fun i hi => by omega, Nat.le_refl _, Nat.zero_le _, Nat.zero_le _⟩
  · simp [Value.cells] at hcs
    obtain ⟨rfl, rfl, rfl⟩ := hcs
    have hzl : zs.length = cap0 := by simpa using hz
    simp only [Prod.mk.injEq] at hx
    obtain ⟨rfl, _⟩ := hx
    have hlen : len0 * 8 ≤ reachBytes := by
      have h9 := hw (((lits .i64 (zs.take len0) : List (DataW H)).length + (lits .i64 (zs.drop len0) : List (DataW H)).length) * Try.prog.bytesOf 3) (by simp [DataW.weights, Try.underlying22])
      rw [bytesInt2] at h9
      simp only [lits, List.length_map, List.length_take, List.length_drop] at h9
      omega
    have hr := reachBytes_lt
    refine ⟨some x, len0, cap0, rfl, fun i hi => ?_, hl, Nat.le_trans hl hm, by omega⟩
    obtain ⟨b, off, rfl, hc⟩ := ints_at hcell (by omega : 0 < zs.length)
    refine ⟨b, off, zs.getD i 0, rfl, hc i (by omega), ?_⟩
    have hmem : zs.getD i 0 ∈ zs := by
      rw [List.getD_eq_getElem?_getD, List.getElem?_eq_getElem (by omega)]; exact List.getElem_mem _
    exact (bounds_i64 (hwz _ hmem)).1
end Go.Proofs.Ytdjllnhahhjgmab
