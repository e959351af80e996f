/- Walk of Book.whole. -/
import Derived.Test.YtdjllnhahhjgmaaI4
namespace Go.Proofs.Ytdjllnhahhjgmaa
open Go.RowKit Chron
set_option maxRecDepth 100000 in
set_option maxHeartbeats 1000000 in
theorem whole_any (b : Nat) (tv : Value) (xs : List Value) (B : Nat) (w : World) (HB0 : Hid (BookAt b tv xs B w)) (hx : xs.length ≤ 12000000) :
    Calls Try.prog 17 #[.pointer (some ⟨b, 0, none⟩)] w fun e w' => e = .returned (.bool true) ∧ Below w.heap.size w w' := by
  have HB := hide0 (HB0.out.grow HB0.out.size (Nat.le_refl _))
  obtain ⟨ta, tc, htv, htc, _, hT⟩ := row_at HB.out.tags
  subst htv
  have HT := hide0 hT
  clear hT HB0
  go_enter Try.func17, Try.ntmps17
  go_wp2
  go_loopw [3] (fun i wx => ∃ k : Nat, k ≤ xs.length ∧ i = .int .i64 k ∧ Hid (Below w.heap.size w wx)) (fun i _ => xs.length - (intOf i).toNat)
  case atStart => exact ⟨0, Nat.zero_le _, rfl, Below.refl _ _⟩
  case round =>
    obtain ⟨k, hk, rfl, HW⟩ := hrel
    have HBk := hide0 (HB.out.keep HW.out)
    obtain ⟨d0, d1, df⟩ := book_cells HBk.out.blk
    by_cases hlt : k < xs.length
    · obtain ⟨v, hv⟩ : ∃ v, xs[k]? = some v := ⟨xs[k], by simp [hlt]⟩
      obtain ⟨gt, rfl, c1w⟩ := HT.out k v hv
      have hglt := World.block_lt_of_cell? w _ c1w
      have c1 : wr.cell? ⟨gt, k, none⟩ = some v := (HW.out.cell (p := ⟨gt, k, none⟩) hglt).trans c1w
      have HE := hide0 (HBk.out.full k v hv)
      obtain ⟨a, no, cap, rfl, hno, hnc, HC⟩ : ∃ a no cap, v = .slice a no cap ∧ no ≤ 7 ∧ no ≤ cap ∧ Hid (∀ j, j < no → ∃ g, a = some ⟨g, 0, none⟩ ∧ g < w.heap.size ∧ w.cell? ⟨g, j, none⟩ = some (.string (badB (k / 4)))) := by
        rcases HB.out.full k v hv with rfl | ⟨g, no, cap, ho, h2, h3⟩
        · exact ⟨none, 0, 0, rfl, Nat.zero_le _, Nat.le_refl _, fun j hj => by omega⟩
        · exact ⟨some ⟨g, 0, none⟩, no, cap, ho.val, ho.few, ho.room, fun j hj => ⟨g, rfl, h3, ho.cells j hj⟩⟩
      have hki : (k : Int) < (xs.length : Int) := by omega
      have HC1 := hide0 c1w
      clear HE c1w hv
      go_wp2
      clear d0 d1 df c1 HBk
      go_loopw [4] (fun i wx => ∃ j : Nat, j ≤ no ∧ i = .int .i64 j ∧ Hid (Below w.heap.size w wx)) (fun i _ => no - (intOf i).toNat)
      case atStart => exact ⟨0, Nat.zero_le _, rfl, HW⟩
      case round =>
        obtain ⟨j, hj, rfl, HWj⟩ := hrel
        obtain ⟨d0, d1, df⟩ := book_cells (HB.out.keep HWj.out).blk
        have c1 := (HWj.out.cell (p := ⟨gt, k, none⟩) hglt).trans HC1.out
        have hbs := HWj.out.size
        by_cases hjl : j < no
        · obtain ⟨g, rfl, hgw, c2w⟩ := HC.out j hjl
          have c2 := (HWj.out.cell (p := ⟨g, j, none⟩) hgw).trans c2w
          have hji : (j : Int) < (no : Int) := by omega
          have hblt : b < w.heap.size := HB.out.lt
          have hbt : ∀ (n : Int) (w' : World), Hid (0 ≤ n ∧ n.toNat = k / 4) → Calls Try.prog 29 #[.int .i64 n] w' fun e w'' => e = .returned (.string (badB (k / 4))) ∧ Below w'.heap.size w' w'' := by
            intro n w' hn
            have := badTag_any n w' hn.out.1 (by show n.toNat < 26 ^ 13; rw [hn.out.2]; omega)
            rw [hn.out.2] at this
            exact this
          have hwk : Hid (0 ≤ IntKind.i64.wrap ((k : Int) / 4) ∧ (IntKind.i64.wrap ((k : Int) / 4)).toNat = k / 4) := by show _ ∧ _; rw [wrapI_small (by omega) (by omega)]; exact ⟨by omega, by omega⟩
          have hbb : ((badB (k / 4)).toList == (badB (k / 4)).toList) = true := by simp
          clear c2w
          generalize badB (k / 4) = m at c2 hbt hbb
          go_wp2_with fail
          go_region_held (fun w' => w'.cell? ⟨b, 0, none⟩ = some (.slice (some ⟨gt, 0, none⟩) xs.length tc) ∧ w'.cell? ⟨gt, k, none⟩ = some (.slice (some ⟨g, 0, none⟩) no cap) ∧ w'.cell? ⟨g, j, none⟩ = some (.string m)) (go_keep)
            (first | (go_at_call 29; refine (hbt _ _ hwk).mono ?_; rintro e w2 ⟨rfl, hb2⟩; have q0 := (hb2.cell (p := ⟨b, 0, none⟩) (Nat.lt_of_lt_of_le hblt hbs)).trans d0; have q1 := (hb2.cell (p := ⟨gt, k, none⟩) (Nat.lt_of_lt_of_le hglt hbs)).trans c1; have q2 := (hb2.cell (p := ⟨g, j, none⟩) (Nat.lt_of_lt_of_le hgw hbs)).trans c2))
          all_goals
            have HW2 := hide0 (HWj.out.drew.trans (hb2.mono hbs))
            go_wp2
            go_roundw
            case rel => exact ⟨j + 1, by omega, by go_num, HW2⟩
            case measure => simp [intOf]; omega
        · have hji : (no : Int) ≤ (j : Int) := by omega
          go_wp2
          go_roundw
          case rel => exact ⟨k + 1, by omega, by go_num, HWj⟩
          case measure => simp [intOf]; omega
    · have hki : (xs.length : Int) ≤ (k : Int) := by omega
      go_wp2
      go_loopw [5] (fun i wx => i = .int .i64 0 ∧ Hid (Below w.heap.size w wx)) (fun _ _ => 0)
      case atStart => exact ⟨rfl, HW⟩
      case round =>
        obtain ⟨rfl, HWj⟩ := hrel
        clear d0 d1 df
        obtain ⟨d0, d1, df⟩ := book_cells (HB.out.keep HWj.out).blk
        go_wp2
        go_ret
        exact ⟨rfl, HWj.out⟩
end Go.Proofs.Ytdjllnhahhjgmaa
