/- Walks and plain facts, in the order in which they lean on one another. -/
import Derived.Test.YtodlcnbknjldnaaGreatDoorW14
import Derived.Test.YtodlcnbknjldnaaGreatDoorW13
import Derived.Test.YtodlcnbknjldnaaGreatDoorW12
namespace Go.Proofs.YtodlcnbknjldnaaGreatDoor
open Go.RowKit Chron
theorem exp_told {es : List Ev} (h : es.length ≤ 20) (he : ∀ e ∈ es, isB e = true) : expB es = (listB (es.map tellB), 0) := by
  rw [expB, if_neg (by omega), if_pos (List.all_eq_true.2 he)]
theorem tale_len {es : List Ev} (h : es.length ≤ 20) (he : ∀ e ∈ es, isB e = true) : 2 ≤ (listB (es.map tellB)).length ∧ (listB (es.map tellB)).length ≤ 30000 := by
  have h1 := jn_len (l := es.map tellB) (m := 1000) (fun x hx => by obtain ⟨e, hem, rfl⟩ := List.mem_map.1 hx; exact tell_len (he e hem))
  have h2 : (es.map tellB).length * 1001 ≤ 20 * 1001 := Nat.mul_le_mul_right _ (by simpa using h)
  simp only [listB, List.length_cons, List.length_append, List.length_nil]
  omega
theorem imp_of {es : List Ev} {L : List UInt8} (h : es.length ≤ 20) (he : ∀ e ∈ es, isB e = true) (hL : L.length ≤ 1048576) (ha : allL L = some es) : impB L = (es, 0) := by
  rw [impB, if_neg (by omega), ha]
  simp only [exp_told h he, if_true]
set_option maxRecDepth 100000 in
set_option maxHeartbeats 4000000 in
theorem tales_any (a : Option Addr) (n cap : Nat) (a2 : Option Addr) (n2 cap2 : Nat) (w : World) (hI : Hid (IntsAt w a n)) (hn : n ≤ 1000000000000000) (hnc : n ≤ cap) (hI2 : Hid (IntsAt w a2 n2)) (hn2 : n2 ≤ maxLen) (G : Hid (Glob w.heap.size w)) (hL : Hid (LaidAt w)) :
    Calls Tryz.prog 4 #[.slice a n cap, .slice a2 n2 cap2] w fun e w' => e = .returned (.bool true) ∧ Below w.heap.size w w' := by
  go_enter Tryz.func4, Tryz.ntmps4
  go_wp2_with fail
  refine (events_any a n cap w hI hn hnc).mono ?_
  rintro e w1 ⟨lv, its, rfl, h20, HM, HIB, hb1⟩
  have hfew : ∀ it ∈ its, Few 1048576 it.ev := fun it hi => few_is (HIB.out it hi)
  obtain ⟨ma, mc, rfl, hE⟩ := HM.out.made.evs hfew
  have HE1 := hide0 hE
  have hel : (evs its).length ≤ 20 := by simpa [evs] using h20
  have heb : ∀ e ∈ evs its, isB e = true := by
    intro e he
    obtain ⟨it, hi, rfl⟩ := List.mem_map.1 he
    exact HIB.out it hi
  have hX := fun W hW hLW => export_any ma mc its W hW (by omega) hLW
  have hxt := exp_told hel heb
  obtain ⟨S, HS, hS2, hS30⟩ : ∃ S : ByteArray, Hid (S.data.toList = listB ((evs its).map tellB) ∧ (⟨(listB ((evs its).map tellB)).toArray⟩ : ByteArray) = S) ∧ 2 ≤ S.size ∧ S.size ≤ 30000 :=
    ⟨⟨(listB ((evs its).map tellB)).toArray⟩, ⟨rfl, rfl⟩, (tale_len hel heb).1, (tale_len hel heb).2⟩
  rw [hxt] at hX
  simp only [HS.out.2] at hX
  have HWF : Hid (wf false S.data.toList = true) := by show _ = _; rw [HS.out.1]; exact wf_list heb
  have hSP := fun W hW => spaced_any S a2 n2 cap2 W hW hn2 hS30 HWF
  have HSI : Hid (impB S.data.toList = (evs its, 0)) := imp_of hel heb (by rw [show S.data.toList.length = S.size from rfl]; omega) (by rw [HS.out.1]; exact told_read heb)
  have HOI : Hid (∀ O : ByteArray, Sp false S.data.toList O.data.toList → O.size ≤ 270000 → impB O.data.toList = (evs its, 0)) := by
    intro O hO hs
    refine imp_of hel heb (by rw [show O.data.toList.length = O.size from rfl]; omega) (SpB.all heb ?_)
    rw [← HS.out.1]; exact hO.b
  obtain ⟨D, hD, HDI, hDs⟩ : ∃ D : ByteArray, S.extract 0 (S.size - 1) = D ∧ Hid (impB D.data.toList = ([], 4)) ∧ D.size ≤ maxLen := by
    refine ⟨_, rfl, ?_, ?_⟩
    · have e1 : (S.extract 0 (S.size - 1)).data.toList = 91 :: jn ((evs its).map tellB) := by
        have h0 := ext_dt S 0 (S.size - 1)
        rw [Nat.zero_add, List.drop_zero, HS.out.1] at h0
        rw [h0]
        have hsz : S.size = (listB ((evs its).map tellB)).length := by rw [← HS.out.1]; rfl
        rw [hsz, listB]
        simp
      show _ = _
      rw [e1, impB, if_neg ?_, cut_none heb]
      have hsz : S.size = (listB ((evs its).map tellB)).length := by rw [← HS.out.1]; rfl
      rw [listB] at hsz
      simp at hsz ⊢
      omega
    · have h0 := congrArg List.length (ext_dt S 0 (S.size - 1))
      rw [Nat.zero_add] at h0
      have h1 : (S.extract 0 (S.size - 1)).size = (List.take (S.size - 1) (List.drop 0 S.data.toList)).length := h0
      rw [h1]
      simp only [List.length_take]
      unfold maxLen
      omega
  have hs1 := hb1.size
  have HL1 := hide0 (hL.out.below hb1 (Nat.le_refl _))
  have HI1 := hide0 (hI2.out.below hb1 (Nat.le_refl _))
  have HB1 := hide0 hb1
  have HXT := hide0 hxt
  clear hb1 hE hfew hel heb hxt HM HIB hL hI2
  go_wp2_with fail
  refine (hX w1 HE1 HL1).mono ?_
  rintro e w2 ⟨rfl, hb2⟩
  have hs2 := hb2.size
  have HE2 := hide0 (HE1.out.below hb2 (Nat.le_refl _))
  have HL2 := hide0 (HL1.out.below hb2 (Nat.le_refl _))
  have HI2 := hide0 (HI1.out.below hb2 (Nat.le_refl _))
  have HB2 := hide0 (HB1.out.trans (hb2.mono hs1))
  clear hb2 HE1 HL1 HI1 HB1
  have hlen2 : ¬ (S.size : Int) < 2 := by omega
  go_wp2_with fail
  refine (hSP w2 HI2).mono ?_
  rintro e w3 ⟨O, rfl, HO, hO, hb3⟩
  have HOI2 := hide0 (HOI.out O HO.out hO)
  have hs3 := hb3.size
  have HE3 := hide0 (HE2.out.below hb3 (Nat.le_refl _))
  have HL3 := hide0 (HL2.out.below hb3 (Nat.le_refl _))
  have HB3 := hide0 (HB2.out.trans (hb3.mono (by omega)))
  clear hb3 HE2 HL2 HI2 HB2 hSP HOI HO hlen2 HWF hX
  go_wp2_with fail
  obtain ⟨w4, HW4⟩ : ∃ w4, Hid (w4 = w3.alloc (.cells #[.string S, .string O] 9)) := ⟨_, rfl⟩
  have hs4 : w4.heap.size = w3.heap.size + 1 := by rw [HW4.out]; simp
  have HB34 : Hid (Below w3.heap.size w3 w4) := by show Below _ _ _; rw [HW4.out]; exact (Below.refl _ _).alloc (Nat.le_refl _) _
  have HE4 := hide0 (HE3.out.below HB34.out (Nat.le_refl _))
  have HL4 := hide0 (HL3.out.below HB34.out (Nat.le_refl _))
  have HB4 := hide0 (HB3.out.trans (HB34.out.mono (by omega)))
  have HT : Hid (∀ k, k < 2 → ∃ T : ByteArray, w4.cell? ⟨w3.heap.size, k, none⟩ = some (.string T) ∧ impB T.data.toList = (evs its, 0) ∧ T.size ≤ 270000) := by
    intro k hk
    have hh := heap_alloc_new w3 (.cells #[.string S, .string O] 9)
    rw [← HW4.out] at hh
    have h2 : k = 0 ∨ k = 1 := by omega
    rcases h2 with rfl | rfl
    · exact ⟨S, by simp only [World.cell?, hh]; rfl, HSI.out, by omega⟩
    · exact ⟨O, by simp only [World.cell?, hh]; rfl, HOI2.out, hO⟩
  clear HE3 HL3 HB3 HOI2 hO
  go_loopw [9] (fun iv wx => ∃ k : Nat, k ≤ 2 ∧ iv = .int .i64 k ∧ Hid (Below w4.heap.size w4 wx)) (fun iv _ => 2 - (intOf iv).toNat)
  case atStart => exact ⟨0, Nat.zero_le _, rfl, by rw [HW4.out]; exact Below.refl _ _⟩
  case round =>
    obtain ⟨k, hk, rfl, HW⟩ := hrel
    have hsr := HW.out.size
    have HBR := hide0 (HB4.out.trans (HW.out.mono (by omega)))
    by_cases hlt : k < 2
    · obtain ⟨T, hT, hTI, hTs⟩ := HT.out k hlt
      have hT := (HW.out.cell (p := ⟨w3.heap.size, k, none⟩) (by show w3.heap.size < w4.heap.size; omega)).trans hT
      have hki : (k : Int) < 2 := by omega
      have G0 : Hid (Glob wr.heap.size wr) := G.out.grow HBR.out
      have hC := import_any T wr G0 (by unfold maxLen; omega)
      rw [hTI] at hC
      simp only at hC
      go_wp2_with fail
      refine hC.mono ?_
      rintro e w5 ⟨lv, rfl, hO, hb5⟩
      obtain ⟨na, nc, js, rfl, hG⟩ := hO.out.got
      have hev : evs js = evs its := by rw [hG.evs, hTI]
      have hjl : js.length = its.length := by have := congrArg List.length hev; simpa [evs] using this
      have HEV := hide0 hev
      have HJL := hide0 hjl
      have hXJ := fun W hW hLW => export_any na nc js W hW (by omega) hLW
      rw [hev, HXT.out, hjl] at hXJ
      simp only [HS.out.2] at hXJ
      have HEJ : Hid (EvsAt w5 na js) := hG.at
      have hs5 := hb5.size
      have HW5 := hide0 (HW.out.trans (hb5.mono hsr))
      rw [hjl]
      clear hC hTI hT hTs hG hO hb5 hev hjl
      go_wp2_with fail
      go_loopw [12] (fun iv wx => ∃ i : Nat, i ≤ its.length ∧ iv = .int .i64 i ∧ Hid (Below w5.heap.size w5 wx)) (fun iv _ => its.length - (intOf iv).toNat)
      case atStart => exact ⟨0, Nat.zero_le _, rfl, Below.refl _ _⟩
      case round =>
        obtain ⟨i, hi, rfl, HQ⟩ := hrel
        have hsq := HQ.out.size
        have HWQ := hide0 (HW5.out.trans (HQ.out.mono (by omega)))
        by_cases hlt2 : i < its.length
        · obtain ⟨b1, o1, rfl, hc1⟩ := HEJ.out.below HQ.out (Nat.le_refl _) (by have := HJL.out; omega)
          obtain ⟨b2, o2, rfl, hc2⟩ := HE4.out.below HWQ.out (Nat.le_refl _) (by omega)
          obtain ⟨⟨⟨kd, tk, tm, bd, ts⟩, ta, tc⟩, hx⟩ : ∃ x, js[i]? = some x := ⟨_, List.getElem?_eq_getElem (by rw [HJL.out]; exact hlt2)⟩
          obtain ⟨⟨ev, ta2, tc2⟩, hy⟩ : ∃ x, its[i]? = some x := ⟨_, List.getElem?_eq_getElem hlt2⟩
          have hev : ev = ⟨kd, tk, tm, bd, ts⟩ := by
            have := congrArg (fun l => l[i]?) HEV.out
            simp only [evs, List.getElem?_map, hx, hy, Option.map_some, Option.some.injEq] at this
            exact this.symm
          subst hev
          obtain ⟨⟨c0, c1, c2, c3, c4⟩, hok⟩ := hc1 i _ hx
          obtain ⟨⟨d0, d1, d2, d3, d4⟩, hok2⟩ := hc2 i _ hy
          simp only at c0 c1 c2 c3 c4 d0 d1 d2 d3 d4
          have HOK := hide0 hok
          have HOK2 := hide0 hok2
          have hii : (i : Int) < (its.length : Int) := by omega
          have hS := same_keep ⟨kd, tk, tm, bd, ts⟩ ⟨kd, tk, tm, bd, ts⟩ ta ta2 tc tc2 wr.drew HOK.out.tags HOK2.out.tags (by have := HOK.out.few; unfold maxLen; simp only at this ⊢; omega) (by have := HOK.out.few; unfold maxLen; simp only at this ⊢; omega)
          simp only [evVal, (sameEv_iff (e := ⟨kd, tk, tm, bd, ts⟩) (f := ⟨kd, tk, tm, bd, ts⟩)).2 rfl] at hS
          have lt1 : b1 < wr.drew.heap.size := World.block_lt_of_cell? wr _ c0
          have lt2 : b2 < wr.drew.heap.size := World.block_lt_of_cell? wr _ d0
          clear hc1 hc2 hok hok2 hx hy
          go_wp2_with fail
          go_region_held (fun w' => w'.cell? ⟨b1, o1 + i * 5, none⟩ = some (.int .i64 kd) ∧ w'.cell? ⟨b1, o1 + i * 5 + 1, none⟩ = some (.string tk) ∧ w'.cell? ⟨b1, o1 + i * 5 + 2, none⟩ = some (.int .i64 tm) ∧ w'.cell? ⟨b1, o1 + i * 5 + 3, none⟩ = some (.string bd) ∧ w'.cell? ⟨b1, o1 + i * 5 + 4, none⟩ = some (.slice ta ts.length tc) ∧ w'.cell? ⟨b2, o2 + i * 5, none⟩ = some (.int .i64 kd) ∧ w'.cell? ⟨b2, o2 + i * 5 + 1, none⟩ = some (.string tk) ∧ w'.cell? ⟨b2, o2 + i * 5 + 2, none⟩ = some (.int .i64 tm) ∧ w'.cell? ⟨b2, o2 + i * 5 + 3, none⟩ = some (.string bd) ∧ w'.cell? ⟨b2, o2 + i * 5 + 4, none⟩ = some (.slice ta2 ts.length tc2)) (go_keep)
            (first | (go_at_call 13; refine hS.mono ?_; rintro e w6 ⟨rfl, hb6⟩; have p0 := (hb6.cell (p := ⟨b1, o1 + i * 5, none⟩) lt1).trans c0; have p1 := (hb6.cell (p := ⟨b1, o1 + i * 5 + 1, none⟩) lt1).trans c1; have p2 := (hb6.cell (p := ⟨b1, o1 + i * 5 + 2, none⟩) lt1).trans c2; have p3 := (hb6.cell (p := ⟨b1, o1 + i * 5 + 3, none⟩) lt1).trans c3; have p4 := (hb6.cell (p := ⟨b1, o1 + i * 5 + 4, none⟩) lt1).trans c4; have q0 := (hb6.cell (p := ⟨b2, o2 + i * 5, none⟩) lt2).trans d0; have q1 := (hb6.cell (p := ⟨b2, o2 + i * 5 + 1, none⟩) lt2).trans d1; have q2 := (hb6.cell (p := ⟨b2, o2 + i * 5 + 2, none⟩) lt2).trans d2; have q3 := (hb6.cell (p := ⟨b2, o2 + i * 5 + 3, none⟩) lt2).trans d3; have q4 := (hb6.cell (p := ⟨b2, o2 + i * 5 + 4, none⟩) lt2).trans d4))
          all_goals
            have HQ6 := hide0 (HQ.out.drew.trans (hb6.mono (by show w5.heap.size ≤ wr.heap.size; exact hsq)))
            clear hb6 p0 p1 p2 p3 p4 q0 q1 q2 q3 q4 c0 c1 c2 c3 c4 d0 d1 d2 d3 d4 hS
            go_wp2
            go_roundw
            case rel => exact ⟨i + 1, by omega, by go_num, HQ6⟩
            case measure => simp [intOf]; omega
        · go_wp2_with fail
          refine (hXJ _ (HEJ.out.below HQ.out (Nat.le_refl _)) (HL4.out.below HWQ.out (Nat.le_refl _))).mono ?_
          rintro e w6 ⟨rfl, hb6⟩
          have HW6 := hide0 (HWQ.out.trans (hb6.mono (by omega)))
          clear hb6
          go_wp2_with fail
          go_roundw
          case rel => exact ⟨k + 1, by omega, by go_num, HW6⟩
          case measure => simp [intOf]; omega
    · go_wp2_with fail
      have GR : Hid (Glob wr.heap.size wr) := G.out.grow HBR.out
      have hC := import_any D wr GR hDs
      rw [HDI.out] at hC
      simp only at hC
      refine hC.mono ?_
      rintro e w5 ⟨lv, rfl, hO, hb5⟩
      obtain ⟨na, nc, js, rfl, hG⟩ := hO.out.got
      have hj0 : js = [] := by
        have h1 := hG.evs
        rw [HDI.out] at h1
        simpa [evs] using h1
      subst hj0
      have HB5 := hide0 (HBR.out.trans (hb5.mono (by omega)))
      clear hC hG hO hb5
      go_wp2_with fail
      go_ret
      exact ⟨rfl, HB5.out⟩
end Go.Proofs.YtodlcnbknjldnaaGreatDoor
