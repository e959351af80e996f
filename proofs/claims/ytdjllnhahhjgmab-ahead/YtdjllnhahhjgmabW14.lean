/- Walks and plain facts, in the order in which they lean on one another. -/
import Derived.Test.YtdjllnhahhjgmabW13
import Derived.Test.YtdjllnhahhjgmabRows
import Derived.Test.YtdjllnhahhjgmabW03
import Derived.WalkKit
import Derived.ProofKit
import Derived.OpenShut
import Derived.ChangeOld
import Derived.Below
import Derived.SizedLaws
namespace Go.Proofs.Ytdjllnhahhjgmab
open Go.RowKit Chron
theorem files_one {F : List UInt8} {C : List Chunk} (hg : GoodC 0 C) (hF : F = fileB noB C) : readB F = (evsOf C, F.length, true) ∧ F.length ≤ 83800 := by
  subst hF
  exact ⟨readB_file hg, fileB_short hg⟩
set_option maxRecDepth 100000 in
set_option maxHeartbeats 2000000 in
theorem ahead_any (text : List UInt8) (a : Option Addr) (n cap : Nat) (a2 : Option Addr) (n2 cap2 : Nat) (anew : Bool) (w : World) (ht : text.length ≤ 281474976710656) (hI : Hid (IntsAt w a n)) (hn : n ≤ 1000000000000000) (hnc : n ≤ cap) (hI2 : Hid (IntsAt w a2 n2)) (hn2 : n2 ≤ maxLen) :
    Calls Try.prog 4 #[.string ⟨text.toArray⟩, .slice a n cap, .slice a2 n2 cap2, .bool anew] w fun e w' => e = .returned (.bool true) ∧ Below w.heap.size w w' := by
  obtain ⟨hn', hv', hHow⟩ := how_fix w a2 n2 cap2 hI2.out hn2
  have HHow := hide0 hHow
  clear hHow hn2
  have hO := open_any text w ht
  obtain ⟨rb1, rb2, rb3, rb4⟩ := readB_any text
  clear rb1 rb2
  have HTK : Hid ((text.take (readB text).2.1).length ≤ 83800) := by show _ ≤ _; rw [List.length_take]; omega
  have HRB : Hid (∀ (F : List UInt8) (C : List Chunk), GoodC 0 C → F = fileB noB C → F = text → readB text = (evsOf C, F.length, true)) := fun F C h1 h2 h3 => by rw [← h3]; exact (files_one h1 h2).1
  generalize readB text = rt at *
  obtain ⟨tl, twh, tok⟩ := rt
  simp only at rb3 rb4
  go_enter Try.func4, Try.ntmps4
  go_wp2_with fail
  refine hO.mono ?_
  rintro e w1 ⟨HB1, ⟨hbad, rfl⟩ | ⟨hgood, px, fvx, evx, jx, rfl, HAx, HJx⟩⟩
  · go_wp2_with fail
    have hs1 := HB1.out.size
    refine (events_all 3 (by decide) (by decide) a n cap w1 (hI.out.below HB1.out (Nat.le_refl _)) hn hnc).mono ?_
    rintro e w2 ⟨mv, its, rfl, hl, HM, HW, hb2⟩
    obtain ⟨ma, mc, rfl, t1, hmc, t3⟩ := HM.out.at HW.out
    clear t1 t3
    have HB2 := hide0 hb2
    have hs2 := hb2.size
    clear hb2
    have HOK : Hid (∀ e ∈ evs its, isB e = true) := fun e he => by obtain ⟨it, hi, rfl⟩ := List.mem_map.1 he; exact HW.out it hi
    have HG0 := hide0 (fillC_good (hn := hn') (hv := hv') (fun i => (HHow.out i).1.1) its.length 0 0 (evs its) HOK.out (by simp [evs]) (by simp [evs]; omega))
    go_wp2_with fail
    refine (filled_any ma mc its a2 n2 cap2 hn' hv' w1.heap.size w2 HM HW hl ((HHow.out.below HB1.out).below HB2.out)).mono ?_
    rintro e w3 ⟨pa, fva, eva, ja, rfl, HAa, HJa, HB3⟩
    have hs3 := HB3.out.size
    have HM3 := hide0 (HM.out.keep (w' := w3) (fun q _ h2 => HB3.out.block q h2))
    go_wp2_with fail
    refine (filled_any ma mc its a2 n2 cap2 hn' hv' w1.heap.size w3 HM3 HW hl (((HHow.out.below HB1.out).below HB2.out).below HB3.out)).mono ?_
    rintro e w4 ⟨pb, fvb, evb, jb, rfl, HAb, HJb, HB4⟩
    have hs4 := HB4.out.size
    have HAa4 := hide0 (HAa.out.below HB4.out)
    have hpa := HAa.out.lt pa (.inl rfl)
    have hpb := HAb.out.lt pb (.inl rfl)
    have HALT := hide0 HAa.out.lt
    generalize fillC hn' hv' its.length 0 (evs its) = C0 at *
    have HME := hide0 (HM.out.evsAt HOK.out)
    clear HM HHow HAa hI hI2
    cases anew
    · obtain ⟨wN, HNE⟩ : ∃ wN, Hid (w4 = wN) := ⟨_, rfl⟩
      have HBx : Hid (Below w2.heap.size w2 wN) := by show Below _ _ _; rw [← HNE.out]; exact HB3.out.trans (HB4.out.mono hs3)
      have hFA := file_any pa fva eva w2.heap.size (fileB noB C0) w4 HAa4.out.blk HAa4.out.fil HAa4.out.pf
      have hFB := file_any pb fvb evb w3.heap.size (fileB noB C0) w4 HAb.out.blk HAb.out.fil HAb.out.pf
      obtain ⟨C, HC⟩ : ∃ C, Hid (GoodC 0 C ∧ evsOf C = evs its ∧ fileB noB C0 = fileB noB C) := ⟨C0, HG0.out.1, HG0.out.2, rfl⟩
      have e4 := HNE.out
      subst e4
      go_wp2_with fail
      rw [HC.out.2.2] at hFA hFB
      generalize hFF : fileB noB C = F at *
      have HFF := hide0 hFF
      clear hFF
      refine hFA.mono ?_
      rintro e w' ⟨rfl, hw'⟩
      have hw2 := hw'.symm
      subst hw2
      go_wp2_with fail
      refine hFB.mono ?_
      rintro e w' ⟨rfl, hw'⟩
      have hw2 := hw'.symm
      subst hw2
      have HBw : Hid (Below w.heap.size w w4) := (HB1.out.trans (HB2.out.mono hs1)).trans (HBx.out.mono (by omega))
      clear hFA hFB HAa4 HAb HALT
      have hFT : (F == text) = false := by
        rw [beq_eq_false_iff_ne]
        intro h
        have h9 := HRB.out F C HC.out.1 HFF.out.symm h
        exact absurd (hbad.symm.trans (congrArg (fun r => r.2.2) h9)) (fun e => by cases e)
      go_wp2_with fail
      go_ret
      exact ⟨rfl, HBw.out⟩
    · go_wp2_with fail
      refine (migrate_any w2.heap.size pa fva eva _ ja w4 HAa4).mono ?_
      rintro e w5 ⟨rfl, fva5, HA5, HM5⟩
      have HA5 := hide0 HA5
      have HAb5 := hide0 (HAb.out.keep (w' := w5) (fun q hq => HM5.block q (HAb.out.lt q hq).2 (fun h => by have := (HAb.out.lt q hq).1; omega)))
      have HB5 : Hid (Below w2.heap.size w2 w5) := (HB3.out.trans (HB4.out.mono hs3)).trans (HM5.below (n := w2.heap.size) (by omega) (fun q hq => by subst hq; exact hpa.1))
      have hs5 := HM5.size
      have HSB := hide0 HM5.sub
      clear HM5
      go_wp2_with fail
      refine (migrate_any w3.heap.size pb fvb evb _ jb w5 HAb5).mono ?_
      rintro e wN ⟨rfl, fvb6, HA6, HM6⟩
      have HA6 := hide0 HA6
      have HBx : Hid (Below w2.heap.size w2 wN) := HB5.out.trans (HM6.below (n := w2.heap.size) (by omega) (fun q hq => by subst hq; omega))
      have HA5N := hide0 (HA5.out.keep (w' := wN) (fun q hq => HM6.block q (HA5.out.lt q hq).2 (fun h => by
        subst h
        rcases hq with h | h | h | h
        · omega
        · rcases HSB.out q (.inr h) with h2 | h2 <;> omega
        · have := (HALT.out q (.inr (.inr (.inl h)))).2; omega
        · have := (HALT.out q (.inr (.inr (.inr h)))).2; omega)))
      rw [HJa.out] at HA5N
      rw [HJb.out] at HA6
      have hFA := file_any pa fva5 eva w2.heap.size _ wN HA5N.out.blk HA5N.out.fil HA5N.out.pf
      have hFB := file_any pb fvb6 evb w3.heap.size _ wN HA6.out.blk HA6.out.fil HA6.out.pf
      obtain ⟨C, HC⟩ : ∃ C, Hid (GoodC 0 C ∧ evsOf C = evs its ∧ fileB noB (anewC (evs its)) = fileB noB C) := ⟨anewC (evs its), anew_good _ 0 HOK.out (by simp [evs]; omega), evsOf_anew _, rfl⟩
      clear HM6 HA5 HAb5 HA6 HA5N HSB HB5
      go_wp2_with fail
      rw [HC.out.2.2] at hFA hFB
      generalize hFF : fileB noB C = F at *
      have HFF := hide0 hFF
      clear hFF
      refine hFA.mono ?_
      rintro e w' ⟨rfl, hw'⟩
      have hw2 := hw'.symm
      subst hw2
      go_wp2_with fail
      refine hFB.mono ?_
      rintro e w' ⟨rfl, hw'⟩
      have hw2 := hw'.symm
      subst hw2
      have HBw : Hid (Below w.heap.size w wN) := (HB1.out.trans (HB2.out.mono hs1)).trans (HBx.out.mono (by omega))
      clear hFA hFB HAa4 HAb HALT
      have hFT : (F == text) = false := by
        rw [beq_eq_false_iff_ne]
        intro h
        have h9 := HRB.out F C HC.out.1 HFF.out.symm h
        exact absurd (hbad.symm.trans (congrArg (fun r => r.2.2) h9)) (fun e => by cases e)
      go_wp2_with fail
      go_ret
      exact ⟨rfl, HBw.out⟩
  · go_wp2_with fail
    have hs1 := HB1.out.size
    refine (events_all 3 (by decide) (by decide) a n cap w1 (hI.out.below HB1.out (Nat.le_refl _)) hn hnc).mono ?_
    rintro e w2 ⟨mv, its, rfl, hl, HM, HW, hb2⟩
    obtain ⟨ma, mc, rfl, t1, hmc, t3⟩ := HM.out.at HW.out
    clear t1 t3
    have HB2 := hide0 hb2
    have hs2 := hb2.size
    clear hb2
    have HOK : Hid (∀ e ∈ evs its, isB e = true) := fun e he => by obtain ⟨it, hi, rfl⟩ := List.mem_map.1 he; exact HW.out it hi
    have HG0 := hide0 (fillC_good (hn := hn') (hv := hv') (fun i => (HHow.out i).1.1) its.length 0 0 (evs its) HOK.out (by simp [evs]) (by simp [evs]; omega))
    go_wp2_with fail
    refine (filled_any ma mc its a2 n2 cap2 hn' hv' w1.heap.size w2 HM HW hl ((HHow.out.below HB1.out).below HB2.out)).mono ?_
    rintro e w3 ⟨pa, fva, eva, ja, rfl, HAa, HJa, HB3⟩
    have hs3 := HB3.out.size
    have HM3 := hide0 (HM.out.keep (w' := w3) (fun q _ h2 => HB3.out.block q h2))
    go_wp2_with fail
    refine (filled_any ma mc its a2 n2 cap2 hn' hv' w1.heap.size w3 HM3 HW hl (((HHow.out.below HB1.out).below HB2.out).below HB3.out)).mono ?_
    rintro e w4 ⟨pb, fvb, evb, jb, rfl, HAb, HJb, HB4⟩
    have hs4 := HB4.out.size
    have HAa4 := hide0 (HAa.out.below HB4.out)
    have hpa := HAa.out.lt pa (.inl rfl)
    have hpb := HAb.out.lt pb (.inl rfl)
    have HALT := hide0 HAa.out.lt
    generalize fillC hn' hv' its.length 0 (evs its) = C0 at *
    have HME := hide0 (HM.out.evsAt HOK.out)
    clear HM HHow HAa hI hI2
    cases anew
    · obtain ⟨wN, HNE⟩ : ∃ wN, Hid (w4 = wN) := ⟨_, rfl⟩
      have HBx : Hid (Below w2.heap.size w2 wN) := by show Below _ _ _; rw [← HNE.out]; exact HB3.out.trans (HB4.out.mono hs3)
      have hFA := file_any pa fva eva w2.heap.size (fileB noB C0) w4 HAa4.out.blk HAa4.out.fil HAa4.out.pf
      have hFB := file_any pb fvb evb w3.heap.size (fileB noB C0) w4 HAb.out.blk HAb.out.fil HAb.out.pf
      obtain ⟨C, HC⟩ : ∃ C, Hid (GoodC 0 C ∧ evsOf C = evs its ∧ fileB noB C0 = fileB noB C) := ⟨C0, HG0.out.1, HG0.out.2, rfl⟩
      have e4 := HNE.out
      subst e4
      go_wp2_with fail
      rw [HC.out.2.2] at hFA hFB
      generalize hFF : fileB noB C = F at *
      have HFF := hide0 hFF
      clear hFF
      refine hFA.mono ?_
      rintro e w' ⟨rfl, hw'⟩
      have hw2 := hw'.symm
      subst hw2
      go_wp2_with fail
      refine hFB.mono ?_
      rintro e w' ⟨rfl, hw'⟩
      have hw2 := hw'.symm
      subst hw2
      have HBw : Hid (Below w.heap.size w w4) := (HB1.out.trans (HB2.out.mono hs1)).trans (HBx.out.mono (by omega))
      clear hFA hFB HAa4 HAb HALT
      have HAxN := hide0 (HAx.out.below (HB2.out.trans (HBx.out.mono hs2)))
      have hsN := HBw.out.size
      by_cases hFT : F = text
      · have hrt := HRB.out F C HC.out.1 HFF.out.symm hFT
        have HJ : Hid (evs jx = evs its) := HJx.out.trans ((congrArg (fun r => r.1) hrt).trans HC.out.2.1)
        have hFT2 : (F == text) = true := by rw [hFT]; exact beq_self_eq_true _
        have HMN := hide0 (HME.out.below HBx.out (Nat.le_refl _))
        clear hrt
        go_wp2_with fail
        refine (told_any w.heap.size px fvx evx _ jx w4 HAxN).mono ?_
        rintro e w7 ⟨ka, kc, ks, rfl, HK, HKE, HB7⟩
        have HKE := hide0 (HKE.out.trans HJ.out)
        have hkl : ks.length = its.length := by have := congrArg List.length HKE.out; simpa [evs] using this
        obtain ⟨ml, HML⟩ : ∃ ml, Hid (its.length = ml) := ⟨_, rfl⟩
        have HKL := hide0 (hkl.trans HML.out)
        have HKA : Hid (EvsAt w7 ka ks) := HK.out.evsAt (fun e he => HOK.out e (by rw [← HKE.out]; exact he))
        have HMM := hide0 (HMN.out.below HB7.out (Nat.le_refl _))
        have HB7w := hide0 (HBw.out.trans (HB7.out.mono hsN))
        have HAx7 := hide0 (HAxN.out.below HB7.out)
        have hs7 := HB7w.out.size
        rw [HKL.out, HML.out]
        rw [HML.out] at hl
        clear hkl hmc HK HB7 HMN
        go_wp2_with fail
        try clear hFT2 hFT
        go_loopw [17] (fun iv wx => ∃ i : Nat, i ≤ ml ∧ iv = .int .i64 i ∧ Hid (Below w7.heap.size w7 wx)) (fun iv _ => ml - (intOf iv).toNat)
        case atStart => exact ⟨0, Nat.zero_le _, rfl, Below.refl _ _⟩
        case round =>
          obtain ⟨i, hi, rfl, HQ⟩ := hrel
          have hsq := HQ.out.size
          by_cases hlt : i < ml
          · obtain ⟨b1, o1, rfl, hc1⟩ := HKA.out.below HQ.out (Nat.le_refl _) (by have := HKL.out; omega)
            obtain ⟨b2, o2, rfl, hc2⟩ := HMM.out.below HQ.out (Nat.le_refl _) (by have := HML.out; omega)
            obtain ⟨⟨⟨kd, tk, tm, bd, ts⟩, ta, tc⟩, hx⟩ : ∃ x, ks[i]? = some x := ⟨_, List.getElem?_eq_getElem (by rw [HKL.out]; exact hlt)⟩
            obtain ⟨⟨ev2, ta2, tc2⟩, hy⟩ : ∃ x, its[i]? = some x := ⟨_, List.getElem?_eq_getElem (by rw [HML.out]; exact hlt)⟩
            have hev : (⟨kd, tk, tm, bd, ts⟩ : Ev) = ev2 := by
              have h1 : (evs ks)[i]? = some ⟨kd, tk, tm, bd, ts⟩ := by simp [evs, hx]
              have h2 : (evs its)[i]? = some ev2 := by simp [evs, hy]
              rw [HKE.out, h2] at h1
              simpa using h1.symm
            subst hev
            obtain ⟨⟨c0, c1, c2, c3, c4⟩, hok⟩ := hc1 i _ hx
            obtain ⟨⟨d0, d1, d2, d3, d4⟩, hok2⟩ := hc2 i _ hy
            simp only at c0 c1 c2 c3 c4 d0 d1 d2 d3 d4
            have HO1 := hide0 hok
            have HO2 := hide0 hok2
            have hii : (i : Int) < (ml : Int) := by omega
            have hS := same_keep ⟨kd, tk, tm, bd, ts⟩ ⟨kd, tk, tm, bd, ts⟩ ta ta2 tc tc2 wr.drew HO1.out.tags HO2.out.tags (by have := HO1.out.few; unfold maxLen; simp only at this ⊢; omega) (by have := HO1.out.few; unfold maxLen; simp only at this ⊢; omega)
            simp only [evVal, (sameEv_iff (e := ⟨kd, tk, tm, bd, ts⟩) (f := ⟨kd, tk, tm, bd, ts⟩)).2 rfl] at hS
            have lt1 : b1 < wr.drew.heap.size := World.block_lt_of_cell? wr _ c0
            have lt2 : b2 < wr.drew.heap.size := World.block_lt_of_cell? wr _ d0
            clear hc1 hc2 hok hok2 hx hy
            go_wp2_with fail
            go_region_held (fun w' => w'.cell? ⟨b1, o1 + i * 5, none⟩ = some (.int .i64 kd) ∧ w'.cell? ⟨b1, o1 + i * 5 + 1, none⟩ = some (.string tk) ∧ w'.cell? ⟨b1, o1 + i * 5 + 2, none⟩ = some (.int .i64 tm) ∧ w'.cell? ⟨b1, o1 + i * 5 + 3, none⟩ = some (.string bd) ∧ w'.cell? ⟨b1, o1 + i * 5 + 4, none⟩ = some (.slice ta ts.length tc) ∧ w'.cell? ⟨b2, o2 + i * 5, none⟩ = some (.int .i64 kd) ∧ w'.cell? ⟨b2, o2 + i * 5 + 1, none⟩ = some (.string tk) ∧ w'.cell? ⟨b2, o2 + i * 5 + 2, none⟩ = some (.int .i64 tm) ∧ w'.cell? ⟨b2, o2 + i * 5 + 3, none⟩ = some (.string bd) ∧ w'.cell? ⟨b2, o2 + i * 5 + 4, none⟩ = some (.slice ta2 ts.length tc2)) (go_keep)
              (first | (go_at_call 11; refine hS.mono ?_; rintro e w6 ⟨rfl, hb6⟩; have p0 := (hb6.cell (p := ⟨b1, o1 + i * 5, none⟩) lt1).trans c0; have p1 := (hb6.cell (p := ⟨b1, o1 + i * 5 + 1, none⟩) lt1).trans c1; have p2 := (hb6.cell (p := ⟨b1, o1 + i * 5 + 2, none⟩) lt1).trans c2; have p3 := (hb6.cell (p := ⟨b1, o1 + i * 5 + 3, none⟩) lt1).trans c3; have p4 := (hb6.cell (p := ⟨b1, o1 + i * 5 + 4, none⟩) lt1).trans c4; have q0 := (hb6.cell (p := ⟨b2, o2 + i * 5, none⟩) lt2).trans d0; have q1 := (hb6.cell (p := ⟨b2, o2 + i * 5 + 1, none⟩) lt2).trans d1; have q2 := (hb6.cell (p := ⟨b2, o2 + i * 5 + 2, none⟩) lt2).trans d2; have q3 := (hb6.cell (p := ⟨b2, o2 + i * 5 + 3, none⟩) lt2).trans d3; have q4 := (hb6.cell (p := ⟨b2, o2 + i * 5 + 4, none⟩) lt2).trans d4))
            all_goals
              have HQ6 := hide0 (HQ.out.drew.trans (hb6.mono (by show w7.heap.size ≤ wr.heap.size; exact hsq)))
              clear hb6 p0 p1 p2 p3 p4 q0 q1 q2 q3 q4 c0 c1 c2 c3 c4 d0 d1 d2 d3 d4 hS
              go_wp2
              go_roundw
              case rel => exact ⟨i + 1, by omega, by go_num, HQ6⟩
              case measure => simp [intOf]; omega
          · go_wp2_with fail
            refine (goes_any w.heap.size px fvx evx _ jx wr (HAx7.out.below HQ.out) (by have := HTK.out; omega)).mono ?_
            rintro e w9 ⟨rfl, HB9⟩
            have HB9w := hide0 ((HB7w.out.trans (HQ.out.mono hs7)).trans HB9.out)
            go_wp2
            go_ret
            exact ⟨rfl, HB9w.out⟩
      · have hFT2 : (F == text) = false := by rw [beq_eq_false_iff_ne]; exact hFT
        go_wp2_with fail
        refine (goes_any w.heap.size px fvx evx _ jx w4 HAxN (by have := HTK.out; omega)).mono ?_
        rintro e w9 ⟨rfl, HB9⟩
        have HB9w := hide0 (HBw.out.trans HB9.out)
        go_wp2
        go_ret
        exact ⟨rfl, HB9w.out⟩
    · go_wp2_with fail
      refine (migrate_any w2.heap.size pa fva eva _ ja w4 HAa4).mono ?_
      rintro e w5 ⟨rfl, fva5, HA5, HM5⟩
      have HA5 := hide0 HA5
      have HAb5 := hide0 (HAb.out.keep (w' := w5) (fun q hq => HM5.block q (HAb.out.lt q hq).2 (fun h => by have := (HAb.out.lt q hq).1; omega)))
      have HB5 : Hid (Below w2.heap.size w2 w5) := (HB3.out.trans (HB4.out.mono hs3)).trans (HM5.below (n := w2.heap.size) (by omega) (fun q hq => by subst hq; exact hpa.1))
      have hs5 := HM5.size
      have HSB := hide0 HM5.sub
      clear HM5
      go_wp2_with fail
      refine (migrate_any w3.heap.size pb fvb evb _ jb w5 HAb5).mono ?_
      rintro e wN ⟨rfl, fvb6, HA6, HM6⟩
      have HA6 := hide0 HA6
      have HBx : Hid (Below w2.heap.size w2 wN) := HB5.out.trans (HM6.below (n := w2.heap.size) (by omega) (fun q hq => by subst hq; omega))
      have HA5N := hide0 (HA5.out.keep (w' := wN) (fun q hq => HM6.block q (HA5.out.lt q hq).2 (fun h => by
        subst h
        rcases hq with h | h | h | h
        · omega
        · rcases HSB.out q (.inr h) with h2 | h2 <;> omega
        · have := (HALT.out q (.inr (.inr (.inl h)))).2; omega
        · have := (HALT.out q (.inr (.inr (.inr h)))).2; omega)))
      rw [HJa.out] at HA5N
      rw [HJb.out] at HA6
      have hFA := file_any pa fva5 eva w2.heap.size _ wN HA5N.out.blk HA5N.out.fil HA5N.out.pf
      have hFB := file_any pb fvb6 evb w3.heap.size _ wN HA6.out.blk HA6.out.fil HA6.out.pf
      obtain ⟨C, HC⟩ : ∃ C, Hid (GoodC 0 C ∧ evsOf C = evs its ∧ fileB noB (anewC (evs its)) = fileB noB C) := ⟨anewC (evs its), anew_good _ 0 HOK.out (by simp [evs]; omega), evsOf_anew _, rfl⟩
      clear HM6 HA5 HAb5 HA6 HA5N HSB HB5
      go_wp2_with fail
      rw [HC.out.2.2] at hFA hFB
      generalize hFF : fileB noB C = F at *
      have HFF := hide0 hFF
      clear hFF
      refine hFA.mono ?_
      rintro e w' ⟨rfl, hw'⟩
      have hw2 := hw'.symm
      subst hw2
      go_wp2_with fail
      refine hFB.mono ?_
      rintro e w' ⟨rfl, hw'⟩
      have hw2 := hw'.symm
      subst hw2
      have HBw : Hid (Below w.heap.size w wN) := (HB1.out.trans (HB2.out.mono hs1)).trans (HBx.out.mono (by omega))
      clear hFA hFB HAa4 HAb HALT
      have HAxN := hide0 (HAx.out.below (HB2.out.trans (HBx.out.mono hs2)))
      have hsN := HBw.out.size
      by_cases hFT : F = text
      · have hrt := HRB.out F C HC.out.1 HFF.out.symm hFT
        have HJ : Hid (evs jx = evs its) := HJx.out.trans ((congrArg (fun r => r.1) hrt).trans HC.out.2.1)
        have hFT2 : (F == text) = true := by rw [hFT]; exact beq_self_eq_true _
        have HMN := hide0 (HME.out.below HBx.out (Nat.le_refl _))
        clear hrt
        go_wp2_with fail
        refine (told_any w.heap.size px fvx evx _ jx wN HAxN).mono ?_
        rintro e w7 ⟨ka, kc, ks, rfl, HK, HKE, HB7⟩
        have HKE := hide0 (HKE.out.trans HJ.out)
        have hkl : ks.length = its.length := by have := congrArg List.length HKE.out; simpa [evs] using this
        obtain ⟨ml, HML⟩ : ∃ ml, Hid (its.length = ml) := ⟨_, rfl⟩
        have HKL := hide0 (hkl.trans HML.out)
        have HKA : Hid (EvsAt w7 ka ks) := HK.out.evsAt (fun e he => HOK.out e (by rw [← HKE.out]; exact he))
        have HMM := hide0 (HMN.out.below HB7.out (Nat.le_refl _))
        have HB7w := hide0 (HBw.out.trans (HB7.out.mono hsN))
        have HAx7 := hide0 (HAxN.out.below HB7.out)
        have hs7 := HB7w.out.size
        rw [HKL.out, HML.out]
        rw [HML.out] at hl
        clear hkl hmc HK HB7 HMN
        go_wp2_with fail
        try clear hFT2 hFT
        go_loopw [17] (fun iv wx => ∃ i : Nat, i ≤ ml ∧ iv = .int .i64 i ∧ Hid (Below w7.heap.size w7 wx)) (fun iv _ => ml - (intOf iv).toNat)
        case atStart => exact ⟨0, Nat.zero_le _, rfl, Below.refl _ _⟩
        case round =>
          obtain ⟨i, hi, rfl, HQ⟩ := hrel
          have hsq := HQ.out.size
          by_cases hlt : i < ml
          · obtain ⟨b1, o1, rfl, hc1⟩ := HKA.out.below HQ.out (Nat.le_refl _) (by have := HKL.out; omega)
            obtain ⟨b2, o2, rfl, hc2⟩ := HMM.out.below HQ.out (Nat.le_refl _) (by have := HML.out; omega)
            obtain ⟨⟨⟨kd, tk, tm, bd, ts⟩, ta, tc⟩, hx⟩ : ∃ x, ks[i]? = some x := ⟨_, List.getElem?_eq_getElem (by rw [HKL.out]; exact hlt)⟩
            obtain ⟨⟨ev2, ta2, tc2⟩, hy⟩ : ∃ x, its[i]? = some x := ⟨_, List.getElem?_eq_getElem (by rw [HML.out]; exact hlt)⟩
            have hev : (⟨kd, tk, tm, bd, ts⟩ : Ev) = ev2 := by
              have h1 : (evs ks)[i]? = some ⟨kd, tk, tm, bd, ts⟩ := by simp [evs, hx]
              have h2 : (evs its)[i]? = some ev2 := by simp [evs, hy]
              rw [HKE.out, h2] at h1
              simpa using h1.symm
            subst hev
            obtain ⟨⟨c0, c1, c2, c3, c4⟩, hok⟩ := hc1 i _ hx
            obtain ⟨⟨d0, d1, d2, d3, d4⟩, hok2⟩ := hc2 i _ hy
            simp only at c0 c1 c2 c3 c4 d0 d1 d2 d3 d4
            have HO1 := hide0 hok
            have HO2 := hide0 hok2
            have hii : (i : Int) < (ml : Int) := by omega
            have hS := same_keep ⟨kd, tk, tm, bd, ts⟩ ⟨kd, tk, tm, bd, ts⟩ ta ta2 tc tc2 wr.drew HO1.out.tags HO2.out.tags (by have := HO1.out.few; unfold maxLen; simp only at this ⊢; omega) (by have := HO1.out.few; unfold maxLen; simp only at this ⊢; omega)
            simp only [evVal, (sameEv_iff (e := ⟨kd, tk, tm, bd, ts⟩) (f := ⟨kd, tk, tm, bd, ts⟩)).2 rfl] at hS
            have lt1 : b1 < wr.drew.heap.size := World.block_lt_of_cell? wr _ c0
            have lt2 : b2 < wr.drew.heap.size := World.block_lt_of_cell? wr _ d0
            clear hc1 hc2 hok hok2 hx hy
            go_wp2_with fail
            go_region_held (fun w' => w'.cell? ⟨b1, o1 + i * 5, none⟩ = some (.int .i64 kd) ∧ w'.cell? ⟨b1, o1 + i * 5 + 1, none⟩ = some (.string tk) ∧ w'.cell? ⟨b1, o1 + i * 5 + 2, none⟩ = some (.int .i64 tm) ∧ w'.cell? ⟨b1, o1 + i * 5 + 3, none⟩ = some (.string bd) ∧ w'.cell? ⟨b1, o1 + i * 5 + 4, none⟩ = some (.slice ta ts.length tc) ∧ w'.cell? ⟨b2, o2 + i * 5, none⟩ = some (.int .i64 kd) ∧ w'.cell? ⟨b2, o2 + i * 5 + 1, none⟩ = some (.string tk) ∧ w'.cell? ⟨b2, o2 + i * 5 + 2, none⟩ = some (.int .i64 tm) ∧ w'.cell? ⟨b2, o2 + i * 5 + 3, none⟩ = some (.string bd) ∧ w'.cell? ⟨b2, o2 + i * 5 + 4, none⟩ = some (.slice ta2 ts.length tc2)) (go_keep)
              (first | (go_at_call 11; refine hS.mono ?_; rintro e w6 ⟨rfl, hb6⟩; have p0 := (hb6.cell (p := ⟨b1, o1 + i * 5, none⟩) lt1).trans c0; have p1 := (hb6.cell (p := ⟨b1, o1 + i * 5 + 1, none⟩) lt1).trans c1; have p2 := (hb6.cell (p := ⟨b1, o1 + i * 5 + 2, none⟩) lt1).trans c2; have p3 := (hb6.cell (p := ⟨b1, o1 + i * 5 + 3, none⟩) lt1).trans c3; have p4 := (hb6.cell (p := ⟨b1, o1 + i * 5 + 4, none⟩) lt1).trans c4; have q0 := (hb6.cell (p := ⟨b2, o2 + i * 5, none⟩) lt2).trans d0; have q1 := (hb6.cell (p := ⟨b2, o2 + i * 5 + 1, none⟩) lt2).trans d1; have q2 := (hb6.cell (p := ⟨b2, o2 + i * 5 + 2, none⟩) lt2).trans d2; have q3 := (hb6.cell (p := ⟨b2, o2 + i * 5 + 3, none⟩) lt2).trans d3; have q4 := (hb6.cell (p := ⟨b2, o2 + i * 5 + 4, none⟩) lt2).trans d4))
            all_goals
              have HQ6 := hide0 (HQ.out.drew.trans (hb6.mono (by show w7.heap.size ≤ wr.heap.size; exact hsq)))
              clear hb6 p0 p1 p2 p3 p4 q0 q1 q2 q3 q4 c0 c1 c2 c3 c4 d0 d1 d2 d3 d4 hS
              go_wp2
              go_roundw
              case rel => exact ⟨i + 1, by omega, by go_num, HQ6⟩
              case measure => simp [intOf]; omega
          · go_wp2_with fail
            refine (goes_any w.heap.size px fvx evx _ jx wr (HAx7.out.below HQ.out) (by have := HTK.out; omega)).mono ?_
            rintro e w9 ⟨rfl, HB9⟩
            have HB9w := hide0 ((HB7w.out.trans (HQ.out.mono hs7)).trans HB9.out)
            go_wp2
            go_ret
            exact ⟨rfl, HB9w.out⟩
      · have hFT2 : (F == text) = false := by rw [beq_eq_false_iff_ne]; exact hFT
        go_wp2_with fail
        refine (goes_any w.heap.size px fvx evx _ jx wN HAxN (by have := HTK.out; omega)).mono ?_
        rintro e w9 ⟨rfl, HB9⟩
        have HB9w := hide0 (HBw.out.trans HB9.out)
        go_wp2
        go_ret
        exact ⟨rfl, HB9w.out⟩
end Go.Proofs.Ytdjllnhahhjgmab
namespace Go.Proofs.Ytdjllnhahhjgmab
open Go.ChangeShapes Go.WideShapes Go.ChangeAt Go.WideMaps Go.WideElems Go.RowKit Chron
theorem bytesInt2 : Try.prog.bytesOf 3 = 8 := by kernel_rfl
set_option maxRecDepth 100000 in
theorem ints_two {H : Type} {enc : TypeId × Value → H} {W : World} {base b0 : Nat} {held : Bool} {v : Value} {d : DataW H} {p : List MemPlace} (hval : Value.okWide Try.prog W .any b0 22 v)
    (h : DataW.Trod enc Try.prog W base (fun _ => true) held 22 v d p) (hw : ∀ n ∈ d.weights Try.prog 22, n ≤ reachBytes) :
    ∃ (a : Option Addr) (n cap : Nat), v = .slice a n cap ∧ IntsAt W a n ∧ n ≤ cap ∧ n ≤ maxLen ∧ n ≤ 1000000000000000 := by
  obtain ⟨a0, len0, cap0, rfl⟩ := okWide_slice Try.underlying22 hval
  obtain ⟨fuel, hf⟩ := h
  rcases open_ints Try.underlying22 Try.underlying3 (by kernel_rfl) hf with ⟨hcs, _⟩ | ⟨x, l, c, zs, hcs, _, hl, hm, hz, hx, hcell, hwz⟩
  · simp [Value.cells] at hcs
    obtain ⟨rfl, rfl, rfl⟩ := hcs
    exact ⟨none, 0, 0, rfl, fun i hi => by omega, Nat.le_refl _, Nat.zero_le _, Nat.zero_le _⟩
  · simp [Value.cells] at hcs
    obtain ⟨rfl, rfl, rfl⟩ := hcs
    have hzl : zs.length = cap0 := by simpa using hz
    simp only [Prod.mk.injEq] at hx
    obtain ⟨rfl, _⟩ := hx
    have hlen : len0 * 8 ≤ reachBytes := by
      have h9 := hw (((lits .i64 (zs.take len0) : List (DataW H)).length + (lits .i64 (zs.drop len0) : List (DataW H)).length) * Try.prog.bytesOf 3) (by simp [DataW.weights, Try.underlying22])
      rw [bytesInt2] at h9
      simp only [lits, List.length_map, List.length_take, List.length_drop] at h9
      omega
    have hr := reachBytes_lt
    refine ⟨some x, len0, cap0, rfl, fun i hi => ?_, hl, Nat.le_trans hl hm, by omega⟩
    obtain ⟨b, off, rfl, hc⟩ := ints_at hcell (by omega : 0 < zs.length)
    refine ⟨b, off, zs.getD i 0, rfl, hc i (by omega), ?_⟩
    have hmem : zs.getD i 0 ∈ zs := by
      rw [List.getD_eq_getElem?_getD, List.getElem?_eq_getElem (by omega)]; exact List.getElem_mem _
    exact (bounds_i64 (hwz _ hmem)).1
end Go.Proofs.Ytdjllnhahhjgmab
