/- Walks and plain facts, in the order in which they lean on one another. -/
import Derived.Test.YtdjllnhahhjgmabW12
import Derived.Test.YtdjllnhahhjgmabW04
namespace Chron
open Go Go.RowKit
theorem cut_plain {cs : List Chunk} (hg : GoodC 0 cs) (n : Nat) : ∃ a b, cs = a ++ b ∧ GoodC 0 a ∧ readB ((fileB noB cs).take n) = (evsOf a, (fileB noB a).length, true) ∧ ((fileB noB cs).take n).take (fileB noB a).length = fileB noB a ∧ (n = (fileB noB cs).length → b = []) := by
  obtain ⟨a, b, p, e1, e2, e3, e4, e5, e6⟩ := fileB_cut cs [] n hg
  have e2' : (fileB noB cs).take n = fileB noB a ++ p := e2
  have hga : GoodC 0 a := by rw [e1] at hg; exact (GoodC.append.1 hg).1
  refine ⟨a, b, e1, hga, ?_, ?_, ?_⟩
  · rw [e2']; exact readB_go hga (by simpa using e3)
  · rw [e2']; exact List.take_left
  · intro h
    cases b with
    | nil => rfl
    | cons c r =>
      have h6 := e6 c r rfl
      have hlen : (fileB noB cs).length = (fileB noB a).length + ((entryB c.1 (lastB noB (evsOf a)) c.2).length + (fileB (lastB (lastB noB (evsOf a)) c.2) r).length) := by
        rw [e1, fileB_append]; simp [fileB]
      have h7 : min n (fileB noB cs).length < (fileB noB a).length + (entryB c.1 (lastB noB ([] ++ evsOf a)) c.2).length := h6
      simp only [List.nil_append] at h7
      omega
def moreEv (t : Int) : Ev := ⟨4, ⟨#[109, 111, 114, 101]⟩, t, ⟨#[]⟩, []⟩
theorem more_goes {t : Int} (h0 : 0 ≤ t) (h1 : t ≤ 7) : goesB 2 (moreEv t) = true := by
  have : t = 0 ∨ t = 1 ∨ t = 2 ∨ t = 3 ∨ t = 4 ∨ t = 5 ∨ t = 6 ∨ t = 7 := by omega
  rcases this with rfl | rfl | rfl | rfl | rfl | rfl | rfl | rfl <;> decide +kernel
theorem more_good {cs : List Chunk} {t : Int} (hg : GoodC 0 cs) (h0 : 0 ≤ t) (h1 : t ≤ 7) (hl : (evsOf cs).length < 200) : GoodC 0 (cs ++ [(2, [moreEv t])]) ∧ evsOf (cs ++ [(2, [moreEv t])]) = evsOf cs ++ [moreEv t] := by
  refine ⟨GoodC.append.2 ⟨hg, ⟨fun e he => ?_, by simp, by simp; omega⟩, trivial⟩, by rw [evsOf_append]; simp [evsOf]⟩
  simp at he; subst he; exact more_goes h0 h1
end Chron
namespace Go.Proofs.Ytdjllnhahhjgmab
open Go.RowKit Chron
set_option maxRecDepth 100000 in
set_option maxHeartbeats 1000000 in
theorem lasting_any (a : Option Addr) (n cap : Nat) (a2 : Option Addr) (n2 cap2 : Nat) (c : Int) (w : World) (hI : Hid (IntsAt w a n)) (hn : n ≤ 1000000000000000) (hnc : n ≤ cap) (hI2 : Hid (IntsAt w a2 n2)) (hn2 : n2 ≤ maxLen) (hc : Hid (-9223372036854775808 ≤ c)) :
    Calls Try.prog 3 #[.slice a n cap, .slice a2 n2 cap2, .int .i64 c] w fun e w' => e = .returned (.bool true) ∧ Below w.heap.size w w' := by
  obtain ⟨hn', hv', hHow⟩ := how_fix w a2 n2 cap2 hI2.out hn2
  have HHow := hide0 hHow
  clear hHow hn2
  go_enter Try.func3, Try.ntmps3
  go_wp2_with fail
  refine (events_all 2 (by decide) (by decide) a n cap w hI hn hnc).mono ?_
  rintro e w1 ⟨mv, its, rfl, hl, HM, HW, hb1⟩
  obtain ⟨ma, mc, rfl, t1, hmc, t3⟩ := HM.out.at HW.out
  clear t1 t3
  have HB1 := hide0 hb1
  clear hb1
  go_wp2_with fail
  refine (filled_any ma mc its a2 n2 cap2 hn' hv' w.heap.size w1 HM HW hl (HHow.out.below HB1.out)).mono ?_
  rintro e w2 ⟨p, fv, ev, js, rfl, HA2, HJ2, HB2⟩
  have HG := hide0 (fillC_good (hn := hn') (hv := hv') (fun i => (HHow.out i).1.1) its.length 0 0 (evs its) (fun e he => by obtain ⟨it, hi, rfl⟩ := List.mem_map.1 he; exact HW.out it hi) (by simp [evs]) (by simp [evs]; omega))
  have hfl := fileB_short HG.out.1
  generalize fillC hn' hv' its.length 0 (evs its) = cs at *
  have hs1 := HB1.out.size
  have hs2 := HB2.out.size
  have hOe := open_any [] w2 (by simp)
  rw [readB_nil] at hOe
  simp only [List.take_nil] at hOe
  go_wp2_with fail
  refine hOe.mono ?_
  rintro e w3 ⟨HB3, ⟨h, _⟩ | ⟨_, p3, fv3, ev3, js3, rfl, HA3, HJ3⟩⟩
  · cases h
  have HA2' := hide0 (HA2.out.below HB3.out)
  have hs3 := HB3.out.size
  have hF := file_any p fv ev w1.heap.size (fileB noB cs) w3 HA2'.out.blk HA2'.out.fil HA2'.out.pf
  have hF3 := file_any p3 fv3 ev3 w2.heap.size [] w3 HA3.out.blk HA3.out.fil HA3.out.pf
  clear hOe
  go_wp2_with fail
  refine hF.mono ?_
  rintro e w' ⟨rfl, hw'⟩
  have hw2 := hw'.symm
  subst hw2
  go_wp2_with fail
  refine hF3.mono ?_
  rintro e w' ⟨rfl, hw'⟩
  have hw2 := hw'.symm
  subst hw2
  have hsz : (⟨(fileB noB cs).toArray⟩ : ByteArray).size = (fileB noB cs).length := rfl
  go_wp2_with fail
  refine (pick_any c (((fileB noB cs).length : Int) + 1) w3 hc.out (by omega)).mono ?_
  rintro e w' ⟨⟨pk, rfl, hp0, hp1⟩, hw'⟩
  have hw2 := hw'.symm
  subst hw2
  obtain ⟨L, HL⟩ : ∃ L, Hid ((fileB noB cs).length = L) := ⟨_, rfl⟩
  rw [HL.out] at hp1 hsz hfl
  obtain ⟨nn, hnn, hnL⟩ : ∃ nn : Nat, (L : Int) - pk = nn ∧ nn ≤ L := ⟨(L - pk).toNat, by omega, by omega⟩
  obtain ⟨ca, cb, ec, hga, hrd, htk, hend⟩ := cut_plain HG.out.1 nn
  have hx : (⟨(fileB noB cs).toArray⟩ : ByteArray).extract 0 nn = ⟨((fileB noB cs).take nn).toArray⟩ := extract_mk_take _ nn
  have hO4 := open_any ((fileB noB cs).take nn) w3 (by rw [List.length_take]; omega)
  rw [hrd] at hO4
  simp only [htk] at hO4
  have HE : Hid (evs its = evsOf ca ++ evsOf cb) := by show _ = _; rw [← HG.out.2, ec, evsOf_append]
  have HGA := hide0 hga
  have HND := hide0 hend
  rw [HL.out]
  generalize hFF : (fileB noB cs) = F at *
  clear hrd htk hga hend hF hF3 ec hFF
  go_wp2_with fail
  refine hO4.mono ?_
  rintro e w4 ⟨HB4, ⟨h, _⟩ | ⟨_, p4, fv4, ev4, js4, rfl, HA4, HJ4⟩⟩
  · cases h
  have hs4 := HB4.out.size
  clear hO4
  go_wp2_with fail
  refine (told_any w3.heap.size p4 fv4 ev4 (fileB noB ca) js4 w4 HA4).mono ?_
  rintro e w5 ⟨ka, kc, ks, rfl, HK5, HKE, HB5⟩
  have hs5 := HB5.out.size
  have HKE := hide0 (HKE.out.trans HJ4.out)
  have hlen1 : (evs its).length = its.length := by simp [evs]
  have hlen2 : (evs ks).length = ks.length := by simp [evs]
  rw [HE.out, List.length_append] at hlen1
  rw [HKE.out] at hlen2
  have hkl : ks.length ≤ its.length := by omega
  have hkL : nn = L → ks.length = its.length := fun h => by
    have := HND.out (by rw [HL.out]; exact h)
    rw [this] at hlen1
    simp only [evsOf, List.length_nil] at hlen1
    omega
  obtain ⟨kl, HKL⟩ : ∃ kl, Hid (ks.length = kl) := ⟨_, rfl⟩
  obtain ⟨ml, HML⟩ : ∃ ml, Hid (its.length = ml) := ⟨_, rfl⟩
  rw [HKL.out, HML.out] at hkl hkL
  rw [HML.out] at hl
  rw [HKL.out, HML.out]
  clear hlen1 hlen2 hmc
  have hd : (¬ nn = L) ∨ (nn = L ∧ kl = ml) := by
    by_cases h : nn = L
    · exact .inr ⟨h, hkL h⟩
    · exact .inl h
  clear hkL
  have HKA := hide0 (HK5.out.at (fun it hi => by
    have : it.ev ∈ evs ks := List.mem_map.2 ⟨it, hi, rfl⟩
    rw [HKE.out] at this
    exact HGA.out.is it.ev this))
  have HKM : Hid (EvsAt w5 ka ks) := by
    obtain ⟨x1, x2, x3, x4, _⟩ := HKA.out
    cases x3
    exact x4
  have HMM : Hid (EvsAt w5 ma its) := by
    obtain ⟨x1, x2, x3, x4, _⟩ := HM.out.at HW.out
    cases x3
    exact ((x4.below HB2.out (Nat.le_refl _)).below HB3.out (Nat.le_refl _)).below (HB4.out.trans (HB5.out.mono hs4)) (Nat.le_refl _)
  have HEV : Hid (∀ (i : Nat) (x y : Item), ks[i]? = some x → its[i]? = some y → x.ev = y.ev) := by
    intro i x y hx hy
    have h1 : (evs ks)[i]? = some x.ev := by simp [evs, hx]
    have h2 : (evs its)[i]? = some y.ev := by simp [evs, hy]
    rw [HKE.out] at h1
    rw [HE.out, List.getElem?_append_left (List.getElem?_eq_some_iff.1 h1).1, h1] at h2
    simpa using h2
  have HBB : Hid (Below w.heap.size w w5) := HB1.out.trans ((HB2.out.trans ((HB3.out.trans ((HB4.out.trans (HB5.out.mono hs4)).mono hs3)).mono hs2)).mono hs1)
  have HAB : Hid (ArchO w3.heap.size p4 w5 fv4 ev4 (fileB noB ca) js4) := HA4.out.below HB5.out
  have hk20 : kl ≤ 20 := by omega
  clear HKA HK5 HA4 HB4 HB5 HA3 HA2' HA2 HM HB1 HB2 HB3 HHow HJ3 HJ2 HG hx HE
  rcases hd with hd | hd
  all_goals try (obtain ⟨hd1, hd2⟩ := hd; subst hd1; subst hd2)
  all_goals
    have hnm := Nat.not_lt.2 hkl
    have HKM2 := hide0 hkl
    clear hkl
    go_wp2_with fail
    go_loopw [17] (fun iv wx => ∃ i : Nat, i ≤ kl ∧ iv = .int .i64 i ∧ Hid (Below w5.heap.size w5 wx)) (fun iv _ => kl - (intOf iv).toNat)
    case atStart => exact ⟨0, Nat.zero_le _, rfl, Below.refl _ _⟩
    case round =>
      obtain ⟨i, hi, rfl, HQ⟩ := hrel
      have hsq := HQ.out.size
      by_cases hlt : i < kl
      · obtain ⟨b1, o1, rfl, hc1⟩ := HKM.out.below HQ.out (Nat.le_refl _) (by have := HKL.out; omega)
        obtain ⟨b2, o2, rfl, hc2⟩ := HMM.out.below HQ.out (Nat.le_refl _) (by have := HML.out; have := HKM2.out; omega)
        obtain ⟨⟨⟨kd, tk, tm, bd, ts⟩, ta, tc⟩, hx⟩ : ∃ x, ks[i]? = some x := ⟨_, List.getElem?_eq_getElem (by rw [HKL.out]; exact hlt)⟩
        obtain ⟨⟨ev2, ta2, tc2⟩, hy⟩ : ∃ x, its[i]? = some x := ⟨_, List.getElem?_eq_getElem (by rw [HML.out]; have := HKM2.out; omega)⟩
        have hev := HEV.out i _ _ hx hy
        simp only at hev
        subst hev
        obtain ⟨⟨c0, c1, c2, c3, c4⟩, hok⟩ := hc1 i _ hx
        obtain ⟨⟨d0, d1, d2, d3, d4⟩, hok2⟩ := hc2 i _ hy
        simp only at c0 c1 c2 c3 c4 d0 d1 d2 d3 d4
        have HOK := hide0 hok
        have HOK2 := hide0 hok2
        have hii : (i : Int) < (kl : Int) := by omega
        have hii2 := Nat.lt_of_lt_of_le hlt HKM2.out
        have hS := same_keep ⟨kd, tk, tm, bd, ts⟩ ⟨kd, tk, tm, bd, ts⟩ ta ta2 tc tc2 wr.drew HOK.out.tags HOK2.out.tags (by have := HOK.out.few; unfold maxLen; simp only at this ⊢; omega) (by have := HOK.out.few; unfold maxLen; simp only at this ⊢; omega)
        simp only [evVal, (sameEv_iff (e := ⟨kd, tk, tm, bd, ts⟩) (f := ⟨kd, tk, tm, bd, ts⟩)).2 rfl] at hS
        have lt1 : b1 < wr.drew.heap.size := World.block_lt_of_cell? wr _ c0
        have lt2 : b2 < wr.drew.heap.size := World.block_lt_of_cell? wr _ d0
        clear hc1 hc2 hok hok2 hx hy
        go_wp2_with fail
        go_region_held (fun w' => w'.cell? ⟨b1, o1 + i * 5, none⟩ = some (.int .i64 kd) ∧ w'.cell? ⟨b1, o1 + i * 5 + 1, none⟩ = some (.string tk) ∧ w'.cell? ⟨b1, o1 + i * 5 + 2, none⟩ = some (.int .i64 tm) ∧ w'.cell? ⟨b1, o1 + i * 5 + 3, none⟩ = some (.string bd) ∧ w'.cell? ⟨b1, o1 + i * 5 + 4, none⟩ = some (.slice ta ts.length tc) ∧ w'.cell? ⟨b2, o2 + i * 5, none⟩ = some (.int .i64 kd) ∧ w'.cell? ⟨b2, o2 + i * 5 + 1, none⟩ = some (.string tk) ∧ w'.cell? ⟨b2, o2 + i * 5 + 2, none⟩ = some (.int .i64 tm) ∧ w'.cell? ⟨b2, o2 + i * 5 + 3, none⟩ = some (.string bd) ∧ w'.cell? ⟨b2, o2 + i * 5 + 4, none⟩ = some (.slice ta2 ts.length tc2)) (go_keep)
          (first | (go_at_call 11; refine hS.mono ?_; rintro e w6 ⟨rfl, hb6⟩; have p0 := (hb6.cell (p := ⟨b1, o1 + i * 5, none⟩) lt1).trans c0; have p1 := (hb6.cell (p := ⟨b1, o1 + i * 5 + 1, none⟩) lt1).trans c1; have p2 := (hb6.cell (p := ⟨b1, o1 + i * 5 + 2, none⟩) lt1).trans c2; have p3 := (hb6.cell (p := ⟨b1, o1 + i * 5 + 3, none⟩) lt1).trans c3; have p4 := (hb6.cell (p := ⟨b1, o1 + i * 5 + 4, none⟩) lt1).trans c4; have q0 := (hb6.cell (p := ⟨b2, o2 + i * 5, none⟩) lt2).trans d0; have q1 := (hb6.cell (p := ⟨b2, o2 + i * 5 + 1, none⟩) lt2).trans d1; have q2 := (hb6.cell (p := ⟨b2, o2 + i * 5 + 2, none⟩) lt2).trans d2; have q3 := (hb6.cell (p := ⟨b2, o2 + i * 5 + 3, none⟩) lt2).trans d3; have q4 := (hb6.cell (p := ⟨b2, o2 + i * 5 + 4, none⟩) lt2).trans d4))
        all_goals
          have HQ6 := hide0 (HQ.out.drew.trans (hb6.mono (by show w5.heap.size ≤ wr.heap.size; exact hsq)))
          clear hb6 p0 p1 p2 p3 p4 q0 q1 q2 q3 q4 c0 c1 c2 c3 c4 d0 d1 d2 d3 d4 hS
          go_wp2
          go_roundw
          case rel => exact ⟨i + 1, by omega, by go_num, HQ6⟩
          case measure => simp [intOf]; omega
      · have HQ2 : Hid (Below w5.heap.size w5 ((wr.alloc (.cells #[.int .i64 4, .string ⟨#[109, 111, 114, 101]⟩, .int .i64 7, .string ⟨#[]⟩, .slice none 0 0] 36)).alloc (.cells #[.int .i64 4, .string ⟨#[109, 111, 114, 101]⟩, .int .i64 7, .string ⟨#[]⟩, .slice none 0 0] 36))) := (HQ.out.alloc hsq _).alloc (by simp; omega) _
        have hmb := heap_alloc_new wr (.cells #[.int .i64 4, .string ⟨#[109, 111, 114, 101]⟩, .int .i64 7, .string ⟨#[]⟩, .slice none 0 0] 36)
        have HE1 : Hid (EvsAt ((wr.alloc (.cells #[.int .i64 4, .string ⟨#[109, 111, 114, 101]⟩, .int .i64 7, .string ⟨#[]⟩, .slice none 0 0] 36)).alloc (.cells #[.int .i64 4, .string ⟨#[109, 111, 114, 101]⟩, .int .i64 7, .string ⟨#[]⟩, .slice none 0 0] 36)) (some ⟨wr.heap.size + 1, 0, none⟩) [⟨moreEv 7, none, 0⟩]) := by
          have h := evsAt_one (wr.alloc (.cells #[.int .i64 4, .string ⟨#[109, 111, 114, 101]⟩, .int .i64 7, .string ⟨#[]⟩, .slice none 0 0] 36)) (i := ⟨moreEv 7, none, 0⟩) ⟨tags_none _, short_none, Nat.zero_le _, by decide, by decide⟩
          rw [World.size_alloc] at h
          exact h
        have hap : Hid (∀ q, ReadsOf (some ⟨wr.heap.size + 1, 0, none⟩) [⟨moreEv 7, none, 0⟩] q → ¬ Foot p4 fv4 ev4 js4 q) := by
          rintro q (⟨o, e⟩ | ⟨it, hit, o, e⟩) h
          · cases e
            have := (HAB.out.lt _ h).2
            omega
          · simp at hit; subst hit; cases e
        have HAW := hide0 (HAB.out.below HQ2.out)
        have hj4 : js4.length = kl := by have := congrArg List.length HJ4.out; rw [← HKE.out] at this; simp only [evs, List.length_map] at this; have := HKL.out; omega
        have hflA := fileB_short HGA.out
        have hAp := append_any w3.heap.size p4 2 fv4 ev4 (fileB noB ca) js4 (some ⟨wr.heap.size + 1, 0, none⟩) 1 [⟨moreEv 7, none, 0⟩] _ HAW HE1 (by simp) (by omega) hap
        obtain ⟨hG7, hE7⟩ := more_good (t := 7) HGA.out (by decide) (by decide) (by have h := congrArg List.length HJ4.out; simp only [evs, List.length_map] at h; omega)
        have hr0 : refB 2 js4.length (evs [⟨moreEv 7, none, 0⟩]) = 0 := refB_zero (by decide) (by simp [evs]; omega) (by have := more_goes (t := 7) (by decide) (by decide); simp [evs, this])
        obtain ⟨ay1, ay2⟩ := app_yes (v := 2) (cs := ca) (l := evs js4) (more := evs [⟨moreEv 7, none, 0⟩]) (by simpa [evs] using hr0) (by simp [evs]) HJ4.out.symm
        rw [hr0, ay1, ay2] at hAp
        have HG7 := hide0 hG7
        have HE7 := hide0 hE7
        have HMB : Hid (∀ w8 F', Moved ((wr.alloc (.cells #[.int .i64 4, .string ⟨#[109, 111, 114, 101]⟩, .int .i64 7, .string ⟨#[]⟩, .slice none 0 0] 36)).alloc (.cells #[.int .i64 4, .string ⟨#[109, 111, 114, 101]⟩, .int .i64 7, .string ⟨#[]⟩, .slice none 0 0] 36)) w8 (Foot p4 fv4 ev4 js4) F' → w8.heap[wr.heap.size]? = some (.cells #[.int .i64 4, .string ⟨#[109, 111, 114, 101]⟩, .int .i64 7, .string ⟨#[]⟩, .slice none 0 0] 36)) := fun w8 F' hm =>
          (hm.block wr.heap.size (by simp; omega) (fun h => by have := (HAB.out.lt _ h).2; omega)).trans ((Below.heap_alloc _ _ _ (by simp)).trans hmb)
        clear hr0 ay1 ay2 hap HE1 hmb hG7 hE7
        go_wp2_with fail
        refine hAp.mono ?_
        rintro e w8 ⟨rfl, fv8, ev8, js8, HA8, HJ8, HM8⟩
        have HA8 := hide0 HA8
        have HJ8 := hide0 HJ8
        have hF8 := file_any p4 fv8 ev8 w3.heap.size _ w8 HA8.out.blk HA8.out.fil HA8.out.pf
        have hsz8 := HQ2.out.size
        have HB8 := hide0 ((HBB.out.trans (HQ2.out.mono (by have := HBB.out.size; omega))).trans (HM8.below (n := w.heap.size) (by have := HBB.out.size; omega) (fun q hq => by have := (HAW.out.lt q hq).1; omega)))
        have HM8b := hide0 (HMB.out w8 _ HM8)
        clear hAp HM8 HAW HMB
        go_wp2_with fail
        refine hF8.mono ?_
        rintro e w' ⟨rfl, hw'⟩
        have hw2 := hw'.symm
        subst hw2
        have hfl8 := fileB_short HG7.out
        have hO9 := open_any (fileB noB (ca ++ [(2, evs [⟨moreEv 7, none, 0⟩])])) w8 (by have h : (fileB noB (ca ++ [(2, evs [⟨moreEv 7, none, 0⟩])])).length ≤ 83800 := hfl8; omega)
        rw [show readB (fileB noB (ca ++ [(2, evs [⟨moreEv 7, none, 0⟩])])) = (evsOf (ca ++ [(2, [moreEv 7])]), (fileB noB (ca ++ [(2, evs [⟨moreEv 7, none, 0⟩])])).length, true) from readB_file HG7.out] at hO9
        go_wp2_with fail
        refine hO9.mono ?_
        rintro e w9 ⟨HB9, ⟨h, _⟩ | ⟨_, p9, fv9, ev9, js9, rfl, HA9, HJ9⟩⟩
        · cases h
        go_wp2_with fail
        refine (told_any w8.heap.size p9 fv9 ev9 _ js9 w9 HA9).mono ?_
        rintro e w10 ⟨xa, xc, xs, rfl, HX, HXE, HB10⟩
        have HXE := hide0 ((HXE.out.trans HJ9.out).trans HE7.out)
        have hxl : xs.length = kl + 1 := by
          have h := congrArg List.length HXE.out
          rw [List.length_append, ← HKE.out] at h
          simp only [evs, List.length_map, List.length_singleton] at h
          have := HKL.out
          omega
        have hs9 := HB9.out.size
        have hs10 := HB10.out.size
        have HXA : Hid (EvsAt w10 xa xs) := by
          obtain ⟨x1, x2, x3, x4, _⟩ := HX.out.at (fun it hi => by
            have : it.ev ∈ evs xs := List.mem_map.2 ⟨it, hi, rfl⟩
            rw [HXE.out, ← HE7.out] at this
            exact HG7.out.is it.ev this)
          cases x3
          exact x4
        obtain ⟨b1, o1, rfl, hc1⟩ := HXA.out (by omega)
        obtain ⟨⟨ev2, ta, tc⟩, hx⟩ : ∃ x, xs[kl]? = some x := ⟨_, List.getElem?_eq_getElem (by omega)⟩
        have hev : ev2 = moreEv 7 := by
          have h1 : (evs xs)[kl]? = some ev2 := by simp [evs, hx]
          have hkk : (evsOf ca).length = kl := by rw [← HKE.out]; simpa [evs] using HKL.out
          rw [HXE.out, List.getElem?_append_right (by omega), hkk] at h1
          simp at h1
          exact h1.symm
        subst hev
        obtain ⟨⟨c0, c1, c2, c3, c4⟩, hok⟩ := hc1 kl _ hx
        simp only [moreEv, List.length_nil] at c0 c1 c2 c3 c4
        have HOK := hide0 hok
        have hmb := ((HB10.out.block wr.heap.size (by have := (Array.getElem?_eq_some_iff.1 HM8b.out).1; omega)).trans (HB9.out.block wr.heap.size (Array.getElem?_eq_some_iff.1 HM8b.out).1)).trans HM8b.out
        obtain ⟨d0, d1, d2, d3, d4, dz⟩ := res_cells hmb
        have HBF := hide0 (HB8.out.trans ((HB9.out.trans (HB10.out.mono hs9)).mono HB8.out.size))
        have hS := same_keep (moreEv 7) (moreEv 7) ta none tc 0 w10.drew HOK.out.tags (tags_none _) (by show 0 ≤ maxLen; omega) (by show 0 ≤ maxLen; omega)
        simp only [evVal, (sameEv_iff (e := moreEv 7) (f := moreEv 7)).2 rfl] at hS
        simp only [moreEv, List.length_nil] at hS
        have lt1 : b1 < w10.drew.heap.size := World.block_lt_of_cell? w10 _ c0
        have lt2 : wr.heap.size < w10.drew.heap.size := World.block_lt_of_cell? w10 _ d0
        have hsE := HBF.out.size
        rw [hxl]
        clear hc1 hok hx hmb dz HX HA9 HB9 HB10 HM8b hxl hO9 hF8
        go_wp2_with fail
        go_region_held (fun w' => w'.cell? ⟨b1, o1 + kl * 5, none⟩ = some (.int .i64 4) ∧ w'.cell? ⟨b1, o1 + kl * 5 + 1, none⟩ = some (.string ⟨#[109, 111, 114, 101]⟩) ∧ w'.cell? ⟨b1, o1 + kl * 5 + 2, none⟩ = some (.int .i64 7) ∧ w'.cell? ⟨b1, o1 + kl * 5 + 3, none⟩ = some (.string ⟨#[]⟩) ∧ w'.cell? ⟨b1, o1 + kl * 5 + 4, none⟩ = some (.slice ta 0 tc) ∧ w'.cell? ⟨wr.heap.size, 0, none⟩ = some (.int .i64 4) ∧ w'.cell? ⟨wr.heap.size, 1, none⟩ = some (.string ⟨#[109, 111, 114, 101]⟩) ∧ w'.cell? ⟨wr.heap.size, 2, none⟩ = some (.int .i64 7) ∧ w'.cell? ⟨wr.heap.size, 3, none⟩ = some (.string ⟨#[]⟩) ∧ w'.cell? ⟨wr.heap.size, 4, none⟩ = some (.slice none 0 0)) (go_keep)
          (first | (go_at_call 11; refine hS.mono ?_; rintro e w11 ⟨rfl, hb11⟩; have p0 := (hb11.cell (p := ⟨b1, o1 + kl * 5, none⟩) lt1).trans c0; have p1 := (hb11.cell (p := ⟨b1, o1 + kl * 5 + 1, none⟩) lt1).trans c1; have p2 := (hb11.cell (p := ⟨b1, o1 + kl * 5 + 2, none⟩) lt1).trans c2; have p3 := (hb11.cell (p := ⟨b1, o1 + kl * 5 + 3, none⟩) lt1).trans c3; have p4 := (hb11.cell (p := ⟨b1, o1 + kl * 5 + 4, none⟩) lt1).trans c4; have q0 := (hb11.cell (p := ⟨wr.heap.size, 0, none⟩) lt2).trans d0; have q1 := (hb11.cell (p := ⟨wr.heap.size, 1, none⟩) lt2).trans d1; have q2 := (hb11.cell (p := ⟨wr.heap.size, 2, none⟩) lt2).trans d2; have q3 := (hb11.cell (p := ⟨wr.heap.size, 3, none⟩) lt2).trans d3; have q4 := (hb11.cell (p := ⟨wr.heap.size, 4, none⟩) lt2).trans d4))
        all_goals
          have HB11 := hide0 (HBF.out.drew.trans (hb11.mono (by show w.heap.size ≤ w10.heap.size; exact hsE)))
          clear hb11 p0 p1 p2 p3 p4 q0 q1 q2 q3 q4 c0 c1 c2 c3 c4 d0 d1 d2 d3 d4 hS
          go_wp2
          go_ret
          exact ⟨rfl, HB11.out⟩
end Go.Proofs.Ytdjllnhahhjgmab
namespace Go.Proofs.Ytdjllnhahhjgmab
open Go.RowKit Chron
theorem refB_five {v : Int} {n : Nat} {l : List Ev} (hv : 1 ≤ v ∧ v ≤ 3) (hn : 200 < n + l.length) : refB v n l = 5 := by
  have h1 : ¬ isVer v = false := by simp [isVer]; omega
  unfold refB
  rw [if_neg h1, if_pos hn]
theorem more_at (wr : World) (t : Int) : EvsAt ((wr.alloc (.cells #[.int .i64 4, .string ⟨#[109, 111, 114, 101]⟩, .int .i64 t, .string ⟨#[]⟩, .slice none 0 0] 36)).alloc (.cells #[.int .i64 4, .string ⟨#[109, 111, 114, 101]⟩, .int .i64 t, .string ⟨#[]⟩, .slice none 0 0] 36)) (some ⟨wr.heap.size + 1, 0, none⟩) [⟨moreEv t, none, 0⟩] := by
  have h := evsAt_one (wr.alloc (.cells #[.int .i64 4, .string ⟨#[109, 111, 114, 101]⟩, .int .i64 t, .string ⟨#[]⟩, .slice none 0 0] 36)) (i := ⟨moreEv t, none, 0⟩) ⟨tags_none _, short_none, Nat.zero_le _, (by show (4 : Nat) ≤ _; decide), (by show (0 : Nat) ≤ _; decide)⟩
  rw [World.size_alloc] at h
  exact h
theorem MadeO.evsAt {N : Nat} {w : World} {a : Option Addr} {c : Nat} {its : List Item} (h : MadeO N w (.slice a its.length c) its) (hg : ∀ e ∈ evs its, isB e = true) : EvsAt w a its := by
  obtain ⟨x1, x2, x3, x4, _⟩ := h.at (fun it hi => hg it.ev (List.mem_map.2 ⟨it, hi, rfl⟩))
  cases x3
  exact x4
set_option maxRecDepth 100000 in
set_option maxHeartbeats 1000000 in
theorem goes_any (N p : Nat) (fv ev : Value) (file : List UInt8) (its : List Item) (w : World) (hA : Hid (ArchO N p w fv ev file its)) (hf : file.length ≤ 100000000) :
    Calls Try.prog 14 #[.pointer (some ⟨p, 0, none⟩)] w fun e w' => e = .returned (.bool true) ∧ Hid (Below N w w') := by
  have hNw : N ≤ w.heap.size := by have := hA.out.lt p (.inl rfl); omega
  have HGD : Hid (∀ e ∈ evs its, isB e = true) := fun e he => by obtain ⟨it, hi, rfl⟩ := List.mem_map.1 he; exact hA.out.good it hi
  go_enter Try.func14, Try.ntmps14
  go_wp2_with fail
  refine (told_any N p fv ev file its w hA).mono ?_
  rintro e w1 ⟨ka, kc, ks, rfl, HK, HKE, HB1⟩
  have HA1 := hide0 (hA.out.below HB1.out)
  have hs1 := HB1.out.size
  have hkl : ks.length = its.length := by have := congrArg List.length HKE.out; simpa [evs] using this
  have hits := hA.out.few
  obtain ⟨ea, ec, rfl, t1, t2, t3⟩ := HA1.out.evs.at HA1.out.good
  clear t1 t2 t3
  have hLn := len_any p fv ea its.length ec w1 HA1.out.blk
  obtain ⟨kl, HKL⟩ : ∃ kl, Hid (its.length = kl) := ⟨_, rfl⟩
  rw [HKL.out] at hkl hits
  rw [show (Value.int IntKind.i64 (its.length : Int)) = .int .i64 (kl : Int) by rw [HKL.out]] at hLn
  have HKA : Hid (EvsAt w1 ka ks) := HK.out.evsAt (fun e he => HGD.out e (by rw [← HKE.out]; exact he))
  have HKLs := hide0 hkl
  rw [hkl]
  clear hkl
  go_wp2_with fail
  refine hLn.mono ?_
  rintro e w' ⟨rfl, hw'⟩
  have hw2 := hw'.symm
  subst hw2
  have HQ2 : Hid (Below w1.heap.size w1 ((w1.alloc (.cells #[.int .i64 4, .string ⟨#[109, 111, 114, 101]⟩, .int .i64 0, .string ⟨#[]⟩, .slice none 0 0] 36)).alloc (.cells #[.int .i64 4, .string ⟨#[109, 111, 114, 101]⟩, .int .i64 0, .string ⟨#[]⟩, .slice none 0 0] 36))) := ((Below.refl _ _).alloc (Nat.le_refl _) _).alloc (by simp) _
  have hap : Hid (∀ q, ReadsOf (some ⟨w1.heap.size + 1, 0, none⟩) [⟨moreEv 0, none, 0⟩] q → ¬ Foot p fv (.slice ea its.length ec) its q) := by
    rintro q (⟨o, e⟩ | ⟨it, hit, o, e⟩) h
    · cases e
      have := (HA1.out.lt _ h).2
      omega
    · simp at hit; subst hit; cases e
  have hAp := append_any N p 2 fv (.slice ea its.length ec) file its (some ⟨w1.heap.size + 1, 0, none⟩) 1 [⟨moreEv 0, none, 0⟩] _ (HA1.out.below HQ2.out) (more_at w1 0) (by simp) hf hap
  have HMB : Hid (∀ w8 F', Moved ((w1.alloc (.cells #[.int .i64 4, .string ⟨#[109, 111, 114, 101]⟩, .int .i64 0, .string ⟨#[]⟩, .slice none 0 0] 36)).alloc (.cells #[.int .i64 4, .string ⟨#[109, 111, 114, 101]⟩, .int .i64 0, .string ⟨#[]⟩, .slice none 0 0] 36)) w8 (Foot p fv (.slice ea its.length ec) its) F' → w8.heap[w1.heap.size]? = some (.cells #[.int .i64 4, .string ⟨#[109, 111, 114, 101]⟩, .int .i64 0, .string ⟨#[]⟩, .slice none 0 0] 36)) := fun w8 F' hm =>
    (hm.block w1.heap.size (by simp; omega) (fun h => by have := (HA1.out.lt _ h).2; omega)).trans ((Below.heap_alloc _ _ _ (by simp)).trans (heap_alloc_new w1 _))
  have HBN : Hid (∀ w8 F', Moved ((w1.alloc (.cells #[.int .i64 4, .string ⟨#[109, 111, 114, 101]⟩, .int .i64 0, .string ⟨#[]⟩, .slice none 0 0] 36)).alloc (.cells #[.int .i64 4, .string ⟨#[109, 111, 114, 101]⟩, .int .i64 0, .string ⟨#[]⟩, .slice none 0 0] 36)) w8 (Foot p fv (.slice ea its.length ec) its) F' → Below N w w8) := fun w8 F' hm =>
    (HB1.out.mono hNw).trans ((HQ2.out.mono (by omega)).trans (hm.below (by have := HQ2.out.size; omega) (fun q hq => (HA1.out.lt q hq).1)))
  by_cases hmany : 200 ≤ kl
  · have h200 : kl = 200 := by omega
    have hr5 : refB 2 its.length (evs [⟨moreEv 0, none, 0⟩]) = 5 := refB_five (by decide) (by rw [HKL.out]; simp [evs]; omega)
    rw [hr5] at hAp
    subst h200
    go_wp2_with fail
    refine hAp.mono ?_
    rintro e w3 ⟨rfl, fv3, ev3, js3, HA3, HJ3, HM3⟩
    have HF := hide0 (HBN.out w3 _ HM3)
    clear hAp HM3 HA3 HJ3
    go_wp2
    go_ret
    exact ⟨rfl, HF⟩
  · have hr0 : refB 2 its.length (evs [⟨moreEv 0, none, 0⟩]) = 0 := refB_zero (by decide) (by rw [HKL.out]; simp [evs]; omega) (by have := more_goes (t := 0) (by decide) (by decide); simp [evs, this])
    have ay2 : appEvs 2 (evs its) (evs [⟨moreEv 0, none, 0⟩]) = evs its ++ [moreEv 0] := if_pos (by simpa [evs] using hr0)
    rw [hr0, ay2] at hAp
    clear hr0 ay2
    go_wp2_with fail
    refine hAp.mono ?_
    rintro e w3 ⟨rfl, fv3, ev3, js3, HA3, HJ3, HM3⟩
    have HJ3 := hide0 HJ3
    have HA3 := hide0 HA3
    have HB3 := hide0 (HBN.out w3 _ HM3)
    have HM8 := hide0 (HMB.out w3 _ HM3)
    have hs3 : w1.heap.size < w3.heap.size := (Array.getElem?_eq_some_iff.1 HM8.out).1
    have hpw : p < w.heap.size := (hA.out.lt p (.inl rfl)).2
    have HK3 := hide0 (HK.out.keep (w' := w3) (fun q h1 h2 => (HM3.block q (by have := HQ2.out.size; omega) (fun h => by have := (hA.out.lt q h).2; omega)).trans (HQ2.out.block q h2)))
    clear hAp HM3 HMB HBN HQ2 hap HK HKA
    go_wp2_with fail
    refine (migrate_any N p fv3 ev3 _ js3 w3 HA3).mono ?_
    rintro e w4 ⟨rfl, fv4, HA4, HM4⟩
    have HA4 := hide0 HA4
    have HB4 := hide0 (HB3.out.trans (HM4.below (n := N) (by have := HB3.out.size; omega) (fun q hq => by subst hq; exact (hA.out.lt _ (.inl rfl)).1)))
    have HM8 := hide0 ((HM4.block w1.heap.size (by omega) (fun h => by omega)).trans HM8.out)
    have hs4 := HM4.size
    have HK4 := hide0 (HK3.out.keep (w' := w4) (fun q h1 h2 => HM4.block q h2 (fun h => by omega)))
    have hF := file_any p fv4 ev3 N _ w4 HA4.out.blk HA4.out.fil HA4.out.pf
    have hFne : (fileB noB (anewC (evs js3))).isEmpty = false := by
      have := anew_pos (l := evs js3) (by rw [HJ3.out]; simp)
      simpa using this
    clear HM4 HK3 HB3
    generalize fileB noB (anewC (evs js3)) = F4 at *
    go_wp2_with fail
    refine hF.mono ?_
    rintro e w' ⟨rfl, hw'⟩
    have hw2 := hw'.symm
    subst hw2
    go_wp2_with fail
    refine (told_any N p fv4 ev3 F4 js3 w4 HA4).mono ?_
    rintro e w5 ⟨xa, xc, xs, rfl, HX, HXE, HB5⟩
    have HXE := hide0 (HXE.out.trans HJ3.out)
    have hs5 := HB5.out.size
    have hxl : xs.length = kl + 1 := by
      have h := congrArg List.length HXE.out
      rw [List.length_append] at h
      simp only [evs, List.length_map, List.length_singleton] at h
      have := HKL.out
      omega
    have HXA : Hid (EvsAt w5 xa xs) := HX.out.evsAt (fun e he => by
      rw [HXE.out] at he
      rcases List.mem_append.1 he with h | h
      · exact HGD.out e h
      · simp at h; subst h; exact goes_is (more_goes (t := 0) (by decide) (by decide)))
    have HKA : Hid (EvsAt w5 ka ks) := ((HK4.out.evsAt (fun e he => HGD.out e (by rw [← HKE.out]; exact he))).below HB5.out (Nat.le_refl _))
    have HBF := hide0 (HB4.out.trans (HB5.out.mono (by have := HB4.out.size; omega)))
    have hmb := (HB5.out.block w1.heap.size (by omega)).trans HM8.out
    have HMB := hide0 hmb
    have hlt1 : w1.heap.size < w5.heap.size := by omega
    have hN5 := HBF.out.size
    have HXL := hide0 hxl
    rw [hxl]
    clear hxl hF HA4 HK4 HM8 HB4 HB5 HA3 HA1 HB1 hmb HX
    go_wp2_with fail
    go_loopw [9] (fun iv wx => ∃ i : Nat, i ≤ kl ∧ iv = .int .i64 i ∧ Hid (Below w5.heap.size w5 wx)) (fun iv _ => kl - (intOf iv).toNat)
    case atStart => exact ⟨0, Nat.zero_le _, rfl, Below.refl _ _⟩
    case round =>
      obtain ⟨i, hi, rfl, HQ⟩ := hrel
      have hsq := HQ.out.size
      have HBR := hide0 (HBF.out.trans (HQ.out.mono (by omega)))
      by_cases hlt : i < kl
      · obtain ⟨b1, o1, rfl, hc1⟩ := HXA.out.below HQ.out (Nat.le_refl _) (by have := HXL.out; omega)
        obtain ⟨b2, o2, rfl, hc2⟩ := HKA.out.below HQ.out (Nat.le_refl _) (by have := HKLs.out; omega)
        obtain ⟨⟨⟨kd, tk, tm, bd, ts⟩, ta, tc⟩, hx⟩ : ∃ x, xs[i]? = some x := ⟨_, List.getElem?_eq_getElem (by rw [HXL.out]; omega)⟩
        obtain ⟨⟨ev2, ta2, tc2⟩, hy⟩ : ∃ x, ks[i]? = some x := ⟨_, List.getElem?_eq_getElem (by rw [HKLs.out]; exact hlt)⟩
        have hev : (⟨kd, tk, tm, bd, ts⟩ : Ev) = ev2 := by
          have h1 : (evs xs)[i]? = some ⟨kd, tk, tm, bd, ts⟩ := by simp [evs, hx]
          have h2 : (evs ks)[i]? = some ev2 := by simp [evs, hy]
          rw [HKE.out] at h2
          rw [HXE.out, List.getElem?_append_left (List.getElem?_eq_some_iff.1 h2).1, h2] at h1
          simpa using h1.symm
        subst hev
        obtain ⟨⟨c0, c1, c2, c3, c4⟩, hok⟩ := hc1 i _ hx
        obtain ⟨⟨d0, d1, d2, d3, d4⟩, hok2⟩ := hc2 i _ hy
        simp only at c0 c1 c2 c3 c4 d0 d1 d2 d3 d4
        have HOK := hide0 hok
        have HOK2 := hide0 hok2
        have hii : (i : Int) < (kl : Int) := by omega
        have hii2 : i < kl + 1 := by omega
        have hS := same_keep ⟨kd, tk, tm, bd, ts⟩ ⟨kd, tk, tm, bd, ts⟩ ta ta2 tc tc2 wr.drew HOK.out.tags HOK2.out.tags (by have := HOK.out.few; unfold maxLen; simp only at this ⊢; omega) (by have := HOK.out.few; unfold maxLen; simp only at this ⊢; omega)
        simp only [evVal, (sameEv_iff (e := ⟨kd, tk, tm, bd, ts⟩) (f := ⟨kd, tk, tm, bd, ts⟩)).2 rfl] at hS
        have lt1 : b1 < wr.drew.heap.size := World.block_lt_of_cell? wr _ c0
        have lt2 : b2 < wr.drew.heap.size := World.block_lt_of_cell? wr _ d0
        clear hc1 hc2 hok hok2 hx hy
        go_wp2_with fail
        go_region_held (fun w' => w'.cell? ⟨b1, o1 + i * 5, none⟩ = some (.int .i64 kd) ∧ w'.cell? ⟨b1, o1 + i * 5 + 1, none⟩ = some (.string tk) ∧ w'.cell? ⟨b1, o1 + i * 5 + 2, none⟩ = some (.int .i64 tm) ∧ w'.cell? ⟨b1, o1 + i * 5 + 3, none⟩ = some (.string bd) ∧ w'.cell? ⟨b1, o1 + i * 5 + 4, none⟩ = some (.slice ta ts.length tc) ∧ w'.cell? ⟨b2, o2 + i * 5, none⟩ = some (.int .i64 kd) ∧ w'.cell? ⟨b2, o2 + i * 5 + 1, none⟩ = some (.string tk) ∧ w'.cell? ⟨b2, o2 + i * 5 + 2, none⟩ = some (.int .i64 tm) ∧ w'.cell? ⟨b2, o2 + i * 5 + 3, none⟩ = some (.string bd) ∧ w'.cell? ⟨b2, o2 + i * 5 + 4, none⟩ = some (.slice ta2 ts.length tc2)) (go_keep)
          (first | (go_at_call 11; refine hS.mono ?_; rintro e w6 ⟨rfl, hb6⟩; have p0 := (hb6.cell (p := ⟨b1, o1 + i * 5, none⟩) lt1).trans c0; have p1 := (hb6.cell (p := ⟨b1, o1 + i * 5 + 1, none⟩) lt1).trans c1; have p2 := (hb6.cell (p := ⟨b1, o1 + i * 5 + 2, none⟩) lt1).trans c2; have p3 := (hb6.cell (p := ⟨b1, o1 + i * 5 + 3, none⟩) lt1).trans c3; have p4 := (hb6.cell (p := ⟨b1, o1 + i * 5 + 4, none⟩) lt1).trans c4; have q0 := (hb6.cell (p := ⟨b2, o2 + i * 5, none⟩) lt2).trans d0; have q1 := (hb6.cell (p := ⟨b2, o2 + i * 5 + 1, none⟩) lt2).trans d1; have q2 := (hb6.cell (p := ⟨b2, o2 + i * 5 + 2, none⟩) lt2).trans d2; have q3 := (hb6.cell (p := ⟨b2, o2 + i * 5 + 3, none⟩) lt2).trans d3; have q4 := (hb6.cell (p := ⟨b2, o2 + i * 5 + 4, none⟩) lt2).trans d4))
        all_goals
          have HQ6 := hide0 (HQ.out.drew.trans (hb6.mono (by show w5.heap.size ≤ wr.heap.size; exact hsq)))
          clear hb6 p0 p1 p2 p3 p4 q0 q1 q2 q3 q4 c0 c1 c2 c3 c4 d0 d1 d2 d3 d4 hS
          go_wp2
          go_roundw
          case rel => exact ⟨i + 1, by omega, by go_num, HQ6⟩
          case measure => simp [intOf]; omega
      · obtain ⟨b1, o1, rfl, hc1⟩ := HXA.out.below HQ.out (Nat.le_refl _) (by have := HXL.out; omega)
        obtain ⟨⟨ev2, ta, tc⟩, hx⟩ : ∃ x, xs[kl]? = some x := ⟨_, List.getElem?_eq_getElem (by rw [HXL.out]; omega)⟩
        have hev : ev2 = moreEv 0 := by
          have h1 : (evs xs)[kl]? = some ev2 := by simp [evs, hx]
          have hkk : (evs its).length = kl := by simpa [evs] using HKL.out
          rw [HXE.out, List.getElem?_append_right (by omega), hkk] at h1
          simp at h1
          exact h1.symm
        subst hev
        obtain ⟨⟨c0, c1, c2, c3, c4⟩, hok⟩ := hc1 kl _ hx
        simp only [moreEv, List.length_nil] at c0 c1 c2 c3 c4
        have HOK := hide0 hok
        have hmb := (HQ.out.block w1.heap.size hlt1).trans HMB.out
        obtain ⟨d0, d1, d2, d3, d4, dz⟩ := res_cells hmb
        have hS := same_keep (moreEv 0) (moreEv 0) ta none tc 0 wr.drew HOK.out.tags (tags_none _) (by show 0 ≤ maxLen; omega) (by show 0 ≤ maxLen; omega)
        simp only [evVal, (sameEv_iff (e := moreEv 0) (f := moreEv 0)).2 rfl] at hS
        simp only [moreEv, List.length_nil] at hS
        have lt1 : b1 < wr.drew.heap.size := World.block_lt_of_cell? wr _ c0
        have lt2 : w1.heap.size < wr.drew.heap.size := World.block_lt_of_cell? wr _ d0
        have hsE := HBR.out.size
        have hkk1 : kl < kl + 1 := by omega
        clear hc1 hok hx hmb dz
        go_wp2_with fail
        go_region_held (fun w' => w'.cell? ⟨b1, o1 + kl * 5, none⟩ = some (.int .i64 4) ∧ w'.cell? ⟨b1, o1 + kl * 5 + 1, none⟩ = some (.string ⟨#[109, 111, 114, 101]⟩) ∧ w'.cell? ⟨b1, o1 + kl * 5 + 2, none⟩ = some (.int .i64 0) ∧ w'.cell? ⟨b1, o1 + kl * 5 + 3, none⟩ = some (.string ⟨#[]⟩) ∧ w'.cell? ⟨b1, o1 + kl * 5 + 4, none⟩ = some (.slice ta 0 tc) ∧ w'.cell? ⟨w1.heap.size, 0, none⟩ = some (.int .i64 4) ∧ w'.cell? ⟨w1.heap.size, 1, none⟩ = some (.string ⟨#[109, 111, 114, 101]⟩) ∧ w'.cell? ⟨w1.heap.size, 2, none⟩ = some (.int .i64 0) ∧ w'.cell? ⟨w1.heap.size, 3, none⟩ = some (.string ⟨#[]⟩) ∧ w'.cell? ⟨w1.heap.size, 4, none⟩ = some (.slice none 0 0)) (go_keep)
          (first | (go_at_call 11; refine hS.mono ?_; rintro e w6 ⟨rfl, hb6⟩; have p0 := (hb6.cell (p := ⟨b1, o1 + kl * 5, none⟩) lt1).trans c0; have p1 := (hb6.cell (p := ⟨b1, o1 + kl * 5 + 1, none⟩) lt1).trans c1; have p2 := (hb6.cell (p := ⟨b1, o1 + kl * 5 + 2, none⟩) lt1).trans c2; have p3 := (hb6.cell (p := ⟨b1, o1 + kl * 5 + 3, none⟩) lt1).trans c3; have p4 := (hb6.cell (p := ⟨b1, o1 + kl * 5 + 4, none⟩) lt1).trans c4; have q0 := (hb6.cell (p := ⟨w1.heap.size, 0, none⟩) lt2).trans d0; have q1 := (hb6.cell (p := ⟨w1.heap.size, 1, none⟩) lt2).trans d1; have q2 := (hb6.cell (p := ⟨w1.heap.size, 2, none⟩) lt2).trans d2; have q3 := (hb6.cell (p := ⟨w1.heap.size, 3, none⟩) lt2).trans d3; have q4 := (hb6.cell (p := ⟨w1.heap.size, 4, none⟩) lt2).trans d4))
        all_goals
          have HB11 := hide0 (HBR.out.drew.trans (hb6.mono (by show N ≤ wr.heap.size; omega)))
          clear hb6 p0 p1 p2 p3 p4 q0 q1 q2 q3 q4 c0 c1 c2 c3 c4 d0 d1 d2 d3 d4 hS
          go_wp2
          go_ret
          exact ⟨rfl, HB11⟩
end Go.Proofs.Ytdjllnhahhjgmab
