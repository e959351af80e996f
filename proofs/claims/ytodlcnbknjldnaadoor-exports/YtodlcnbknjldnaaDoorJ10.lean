/- Walk of chroniclelaw's loan.kept, events too. -/
import Derived.Test.YtodlcnbknjldnaaDoorJ9
namespace Go.Proofs.YtodlcnbknjldnaaDoor
open Go.RowKit Chron
set_option maxRecDepth 100000 in
set_option maxHeartbeats 2000000 in
theorem kept_any (b G n : Nat) (tv cv : Value) (a : Option Addr) (cap : Nat) (ls : List (Nat × Nat)) (its l : List Item) (w : World)
    (HL : Hid (LoanAt b tv cv (.slice (some ⟨G, 0, none⟩) (n + 8) (n + 8)) (.int .i64 n) (.slice a n cap) ls.length (lentV ls) ls.length (lentN ls) w)) (HK : Hid (LentOk ls w)) (hl : ls.length * 24 ≤ 140737488355328)
    (hn : n * 72 ≤ 140737488351232) (HE : Hid (EvsAt w (some ⟨G, 0, none⟩) its)) (hin : its.length = n) (HB : Hid (∀ k, n ≤ k → k < n + 8 → CellsAt w G (k * 5) badI)) (HA : Hid (EvsAt w a l)) (hln : l.length = n) (heq : Hid (evs its = evs l)) :
    Calls Tryd.prog 7 #[.pointer (some ⟨b, 0, none⟩)] w fun e w' => e = .returned (.bool true) ∧ Below w.heap.size w w' := by
  obtain ⟨d0, d1, d2, d3, d4, df⟩ := res_cells HL.out.blk
  obtain ⟨ta, tc, rfl, htc, _, hT⟩ := row_at HL.out.tags
  obtain ⟨ca, cc, rfl, hcc, _, hC⟩ := row_at HL.out.counts
  have HT := hide0 hT
  have HC := hide0 hC
  clear hT hC
  go_enter Tryd.func7, Tryd.ntmps7
  go_wp2
  go_loopw [3] (fun i wx => ∃ k nq : Nat, k ≤ ls.length ∧ i = .int .i64 k ∧ wx = w.drewN nq) (fun i _ => ls.length - (intOf i).toNat)
  case atStart => exact ⟨0, 0, Nat.zero_le _, rfl, rfl⟩
  case round =>
    obtain ⟨k, nq, hk, rfl, rfl⟩ := hrel
    by_cases hlt : k < ls.length
    · obtain ⟨M, n', hMn⟩ : ∃ M n, ls[k]? = some (M, n) := ⟨ls[k].1, ls[k].2, by simp [hlt]⟩
      obtain ⟨g1, rfl, c1⟩ := HT.out k (.slice (some ⟨M, 0, none⟩) (n' + 8) (n' + 8)) (by simp [lentV, hMn])
      obtain ⟨g2, rfl, c2⟩ := HC.out k (.int .i64 n') (by simp [lentN, hMn])
      obtain ⟨hn', hcells⟩ := HK.out k M n' hMn
      have HCL := hide0 hcells
      have hki : (k : Int) < (ls.length : Int) := by omega
      clear hMn hcells
      go_wp2
      go_loopw [4] (fun i wx => ∃ p nq : Nat, n' ≤ p ∧ p ≤ n' + 8 ∧ i = .int .i64 p ∧ wx = w.drewN nq) (fun i _ => n' + 8 - (intOf i).toNat)
      case atStart => exact ⟨n', nq, Nat.le_refl _, by omega, rfl, rfl⟩
      case round =>
        obtain ⟨p, nq', hp1, hp2, rfl, rfl⟩ := hrel
        by_cases hq : p < n' + 8
        · have cq := HCL.out p hp1 hq
          have hpi : (p : Int) < (n' : Int) + 8 := by omega
          have hbb : (badT.toList == badT.toList) = true := by simp
          go_wp2_with fail
          go_quiet (first | (go_at_call 16; refine quiet_more (badTag_zero _)))
          go_wp2
          go_roundw
          case rel => exact ⟨p + 1, _, by omega, by omega, by go_num, rfl⟩
          case measure => simp [intOf]; omega
        · have hpi : (n' : Int) + 8 ≤ (p : Int) := by omega
          go_wp2
          go_roundw
          case rel => exact ⟨k + 1, nq', by omega, by go_num, rfl⟩
          case measure => simp [intOf]; omega
    · have hki : (ls.length : Int) ≤ (k : Int) := by omega
      go_wp2
      go_loopw [5] (fun i wx => ∃ p : Nat, n ≤ p ∧ p ≤ n + 8 ∧ i = .int .i64 p ∧ Hid (Below w.heap.size w wx)) (fun i _ => n + 8 - (intOf i).toNat)
      case atStart => exact ⟨n, Nat.le_refl _, by omega, rfl, below_drewN (Below.refl _ _) nq⟩
      case round =>
        obtain ⟨p, hp1, hp2, rfl, HW⟩ := hrel
        have HLw : Hid (LoanAt b (.slice ta ls.length tc) (.slice ca ls.length cc) (.slice (some ⟨G, 0, none⟩) (n + 8) (n + 8)) (.int .i64 n) (.slice a n cap) ls.length (lentV ls) ls.length (lentN ls) wr) := HL.out.kept HW.out (Nat.le_refl _)
        obtain ⟨f0, f1, f2, f3, f4, ff⟩ := res_cells HLw.out.blk
        have hsz := HW.out.size
        by_cases hq : p < n + 8
        · obtain ⟨c0, c1, c2, c3, c4⟩ := (HB.out p hp1 hq).below HW.out (Nat.le_refl _)
          simp only [badI, badE, List.length_nil] at c0 c1 c2 c3 c4
          have hpi : (p : Int) < (n : Int) + 8 := by omega
          have hcells : ∀ X, Below w.heap.size w X → X.cell? ⟨b, 2, none⟩ = some (.slice (some ⟨G, 0, none⟩) (n + 8) (n + 8)) ∧ X.cell? ⟨G, p * 5, none⟩ = some (.int .i64 (-1000)) ∧ X.cell? ⟨G, p * 5 + 1, none⟩ = some (.string ⟨#[]⟩) ∧ X.cell? ⟨G, p * 5 + 2, none⟩ = some (.int .i64 0) ∧ X.cell? ⟨G, p * 5 + 3, none⟩ = some (.string badB) ∧ X.cell? ⟨G, p * 5 + 4, none⟩ = some (.slice none 0 0) := by
            intro X hX
            obtain ⟨_, _, e2, _, _, _⟩ := res_cells (HL.out.kept hX (Nat.le_refl _)).blk
            obtain ⟨c0, c1, c2, c3, c4⟩ := (HB.out p hp1 hq).below hX (Nat.le_refl _)
            exact ⟨e2, c0, c1, c2, c3, c4⟩
          have hBE : ∀ X, Hid (Below w.heap.size w X) → Calls Tryd.prog 10 #[.int .i64 0] X fun e X' => e = .returned (.agg #[.int .i64 (-1000), .string ⟨#[]⟩, .int .i64 0, .string badB, .slice none 0 0]) ∧ Hid (Below w.heap.size w X') ∧ X'.cell? ⟨b, 2, none⟩ = some (.slice (some ⟨G, 0, none⟩) (n + 8) (n + 8)) ∧ X'.cell? ⟨G, p * 5, none⟩ = some (.int .i64 (-1000)) ∧ X'.cell? ⟨G, p * 5 + 1, none⟩ = some (.string ⟨#[]⟩) ∧ X'.cell? ⟨G, p * 5 + 2, none⟩ = some (.int .i64 0) ∧ X'.cell? ⟨G, p * 5 + 3, none⟩ = some (.string badB) ∧ X'.cell? ⟨G, p * 5 + 4, none⟩ = some (.slice none 0 0) := by
            intro X hX
            refine (badEvent_zero X).mono ?_
            rintro e X' ⟨rfl, hb⟩
            have h2 := hX.out.trans (hb.mono hX.out.size)
            exact ⟨rfl, h2, hcells _ h2⟩
          have hSM : ∀ X, Hid (Below w.heap.size w X) → Calls Tryd.prog 17 #[.agg #[.int .i64 (-1000), .string ⟨#[]⟩, .int .i64 0, .string badB, .slice none 0 0], .agg #[.int .i64 (-1000), .string ⟨#[]⟩, .int .i64 0, .string badB, .slice none 0 0]] X fun e X' => e = .returned (.bool true) ∧ Hid (Below w.heap.size w X') ∧ X'.cell? ⟨b, 2, none⟩ = some (.slice (some ⟨G, 0, none⟩) (n + 8) (n + 8)) ∧ X'.cell? ⟨G, p * 5, none⟩ = some (.int .i64 (-1000)) ∧ X'.cell? ⟨G, p * 5 + 1, none⟩ = some (.string ⟨#[]⟩) ∧ X'.cell? ⟨G, p * 5 + 2, none⟩ = some (.int .i64 0) ∧ X'.cell? ⟨G, p * 5 + 3, none⟩ = some (.string badB) ∧ X'.cell? ⟨G, p * 5 + 4, none⟩ = some (.slice none 0 0) := by
            intro X hX
            have hS := same_law badE badE none none 0 0 X (fun h => by cases h) (fun h => by cases h) (by decide) (by decide)
            rw [(sameEv_iff (e := badE) (f := badE)).2 rfl] at hS
            refine Calls.mono hS ?_
            rintro e X' ⟨rfl, hb⟩
            have h2 := hX.out.trans (hb.mono hX.out.size)
            exact ⟨rfl, h2, hcells _ h2⟩
          have HWd : Hid (Below w.heap.size w wr.drew) := HW.out.drew
          clear hcells
          go_wp2_with fail
          go_region_held (fun X => X.cell? ⟨b, 2, none⟩ = some (.slice (some ⟨G, 0, none⟩) (n + 8) (n + 8)) ∧ X.cell? ⟨G, p * 5, none⟩ = some (.int .i64 (-1000)) ∧ X.cell? ⟨G, p * 5 + 1, none⟩ = some (.string ⟨#[]⟩) ∧ X.cell? ⟨G, p * 5 + 2, none⟩ = some (.int .i64 0) ∧ X.cell? ⟨G, p * 5 + 3, none⟩ = some (.string badB) ∧ X.cell? ⟨G, p * 5 + 4, none⟩ = some (.slice none 0 0)) (go_keep)
            (first
              | (go_at_call 10; refine (hBE _ (by first | assumption | exact HWd)).mono ?_; rintro e w1 ⟨rfl, HW1, q0, q1, q2, q3, q4, q5⟩)
              | (go_at_call 17; refine (hSM _ (by first | assumption | exact HWd)).mono ?_; rintro e w2 ⟨rfl, HW2, r0, r1, r2, r3, r4, r5⟩))
          all_goals
            clear q0 q1 q2 q3 q4 q5 r0 r1 r2 r3 r4 r5 c0 c1 c2 c3 c4 f0 f1 f2 f3 f4 ff
            go_wp2
            go_roundw
            case rel => exact ⟨p + 1, by omega, by omega, by go_num, HW2⟩
            case measure => simp [intOf]; omega
        · have hpi : (n : Int) + 8 ≤ (p : Int) := by omega
          have hsl : (n : Int) ≤ (n : Int) + 8 := by omega
          have hcells : ∀ X, Below w.heap.size w X → X.cell? ⟨b, 2, none⟩ = some (.slice (some ⟨G, 0, none⟩) (n + 8) (n + 8)) ∧ X.cell? ⟨b, 3, none⟩ = some (.int .i64 n) ∧ X.cell? ⟨b, 4, none⟩ = some (.slice a n cap) := by
            intro X hX
            obtain ⟨_, _, e2, e3, e4, _⟩ := res_cells (HL.out.kept hX (Nat.le_refl _)).blk
            exact ⟨e2, e3, e4⟩
          have hSA : ∀ X, Hid (Below w.heap.size w X) → Calls Tryd.prog 18 #[.slice (some ⟨G, 0, none⟩) n (n + 8), .slice a n cap] X fun e X' => e = .returned (.bool true) ∧ Hid (Below w.heap.size w X') ∧ X'.cell? ⟨b, 2, none⟩ = some (.slice (some ⟨G, 0, none⟩) (n + 8) (n + 8)) ∧ X'.cell? ⟨b, 3, none⟩ = some (.int .i64 n) ∧ X'.cell? ⟨b, 4, none⟩ = some (.slice a n cap) := by
            intro X hX
            have hS := sameAll_any (some ⟨G, 0, none⟩) a (n + 8) cap its l X (HE.out.below hX.out (Nat.le_refl _)) (HA.out.below hX.out (Nat.le_refl _)) heq (by omega)
            rw [hin, hln] at hS
            refine hS.mono ?_
            rintro e X' ⟨rfl, hb⟩
            have h2 := hX.out.trans (hb.mono hX.out.size)
            exact ⟨rfl, h2, hcells _ h2⟩
          have HWd : Hid (Below w.heap.size w wr.drew) := HW.out.drew
          clear hcells
          go_wp2_with fail
          go_region_held (fun X => X.cell? ⟨b, 2, none⟩ = some (.slice (some ⟨G, 0, none⟩) (n + 8) (n + 8)) ∧ X.cell? ⟨b, 3, none⟩ = some (.int .i64 n) ∧ X.cell? ⟨b, 4, none⟩ = some (.slice a n cap)) (go_keep)
            (first
              | (go_at_call 18; refine (hSA _ (by first | assumption | exact HWd)).mono ?_; rintro e w2 ⟨rfl, HW2, r0, r1, r2⟩))
          all_goals
            go_wp2
            go_ret
            exact ⟨rfl, HW2.out⟩
end Go.Proofs.YtodlcnbknjldnaaDoor
