/- Walk of canon.quote. -/
import Derived.Test.YtodlcnbknjldnaaDoorJ1
import Derived.Test.YtodlcnbknjldnaaDoorE6
namespace Go.Proofs.YtodlcnbknjldnaaDoor
open Go.RowKit Chron
theorem byteCells_push (l : List UInt8) (c : UInt8) : Lib.byteCells l ++ [.int .u8 (c.toNat : Int)] = Lib.byteCells (l ++ [c]) := by simp [Lib.byteCells]
set_option maxRecDepth 100000 in
set_option maxHeartbeats 1000000 in
theorem quote_any (s : ByteArray) (w : World) (hs : s.size ≤ 65536) :
    Calls Tryd.prog 30 #[.string s] w fun e w' => e = .returned (.string ⟨(qB s.data.toList).toArray⟩) ∧ Below w.heap.size w w' := by
  have HBN := hide0 (builder_new 56 5 w)
  go_enter Tryd.func30, Tryd.ntmps30
  go_wp2_with fail
  refine (Tryd.Builder_WriteByte_k w.heap.size w.heap.size _ 34 _ HBN.out (by rw [Lib.byteCells_length]; decide) (by simp)).mono ?_
  rintro e w1 ⟨rfl, hB1, hb1, _⟩
  have HB1 : Hid (Lib.IsBuilderF 56 5 w.heap.size w.heap.size (Lib.byteCells [34]) w1) := .inr hB1
  have HW1 : Hid (Below w.heap.size w w1) := ((Below.refl _ _).alloc (Nat.le_refl _) _).trans hb1
  clear hB1 hb1 HBN
  go_wp2
  go_loopw [8] (fun i wx => ∃ k : Nat, k ≤ s.size ∧ i = .int .i64 k ∧ Hid (Lib.IsBuilderF 56 5 w.heap.size w.heap.size (Lib.byteCells (34 :: inQ (s.data.toList.take k))) wx) ∧ Hid (Below w.heap.size w wx)) (fun i _ => s.size - (intOf i).toNat)
  case atStart => exact ⟨0, Nat.zero_le _, rfl, HB1, HW1⟩
  case round =>
    obtain ⟨k, hk, rfl, HB, HW⟩ := hrel
    have hlen : (34 :: inQ (s.data.toList.take k) : List UInt8).length ≤ 140000 := by
      have := inQ_len (s.data.toList.take k)
      simp at this ⊢
      omega
    have hsz := HW.out.size
    by_cases hlt : k < s.size
    · have hone : ∀ (l : List UInt8) (X : World), Lib.IsBuilderF 56 5 w.heap.size w.heap.size (Lib.byteCells l) X → l.length ≤ 140001 → w.heap.size ≤ X.heap.size → ∀ (z : Int) (c : UInt8), z = (c.toNat : Int) → Calls Tryd.prog 27 #[.pointer (some ⟨w.heap.size, 0, none⟩), .int .u8 z] X fun e X' => e = .returned .nilIface ∧ Hid (Lib.IsBuilderF 56 5 w.heap.size w.heap.size (Lib.byteCells (l ++ [c])) X') ∧ Below w.heap.size X X' := by
        intro l X hX hl hs z c hz
        subst hz
        refine (Tryd.Builder_WriteByte_k w.heap.size w.heap.size _ _ _ hX (by rw [Lib.byteCells_length]; omega) hs).mono ?_
        rintro e w1 ⟨rfl, hB1, hb1, _⟩
        rw [byteCells_push] at hB1
        exact ⟨rfl, .inr hB1, hb1⟩
      have HO := hide0 hone
      clear hone
      by_cases h34 : (s[k].toNat : Int) = 34 ∨ (s[k].toNat : Int) = 92
      · have HE := hide0 ((inQ_take s k hlt).trans (by rw [esc_yes h34]))
        have hcd : ((s[k].toNat : Int) == 34 || (s[k].toNat : Int) == 92) = true := by simpa using h34
        clear h34
        go_wp2_with fail
        all_goals
          refine (HO.out _ _ HB.out (by omega) hsz 92 92 rfl).mono ?_
          rintro e w2 ⟨rfl, HB2, hb2⟩
          have hs2 := hb2.size
          go_wp2_with fail
          refine (HO.out _ _ HB2.out (by rw [List.length_append]; exact Nat.add_le_add hlen (Nat.le_refl 1)) (by omega) _ s[k] (by omega)).mono ?_
          rintro e w3 ⟨rfl, HB3, hb3⟩
          have HW3 := hide0 ((HW.out.trans hb2).trans hb3)
          clear hb2 hb3
          go_wp2
          go_roundw
          case rel => exact ⟨k + 1, by omega, by go_num, by rw [HE.out]; simpa using HB3, HW3⟩
          case measure => simp [intOf]; omega
      · have h1 : ¬ (s[k].toNat : Int) = 34 := fun h => h34 (.inl h)
        have h2 : ¬ (s[k].toNat : Int) = 92 := fun h => h34 (.inr h)
        have HE := hide0 ((inQ_take s k hlt).trans (by rw [esc_no h1 h2]))
        have hc1 : ((s[k].toNat : Int) == 34) = false := by simp [h1]
        have hc2 : ((s[k].toNat : Int) == 92) = false := by simp [h2]
        clear h34 h1 h2
        go_wp2_with fail
        refine (HO.out _ _ HB.out (by omega) hsz _ s[k] rfl).mono ?_
        rintro e w3 ⟨rfl, HB3, hb3⟩
        have HW3 := hide0 (HW.out.trans hb3)
        clear hb3
        go_wp2
        go_roundw
        case rel => exact ⟨k + 1, by omega, by go_num, by rw [HE.out]; simpa using HB3, HW3⟩
        case measure => simp [intOf]; omega
    · have HA : Hid (qB s.data.toList = 34 :: inQ (s.data.toList.take k) ++ [34]) := by
        rw [List.take_of_length_le (by simp; omega)]; rfl
      go_wp2_with fail
      refine (Tryd.Builder_WriteByte_k w.heap.size w.heap.size _ 34 _ HB.out (by rw [Lib.byteCells_length]; omega) hsz).mono ?_
      rintro e w2 ⟨rfl, hB2, hb2, _⟩
      have hs2 := hb2.size
      have HB2 : Hid (Lib.IsBuilderF 56 5 w.heap.size w.heap.size (Lib.byteCells (qB s.data.toList)) w2) := by
        rw [HA.out]
        have := byteCells_push (34 :: inQ (s.data.toList.take k)) 34
        rw [← this]
        exact .inr hB2
      clear hB2
      go_wp2_with fail
      refine (Tryd.Builder_String_any_k w.heap.size w.heap.size _ _ HB2.out (by omega)).mono ?_
      rintro e w3 ⟨rfl, hB3, hb3, _⟩
      go_wp2
      go_ret
      exact ⟨rfl, (HW.out.trans hb2).trans hb3⟩
end Go.Proofs.YtodlcnbknjldnaaDoor
