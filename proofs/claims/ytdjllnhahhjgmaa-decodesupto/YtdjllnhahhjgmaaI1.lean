/- The owner's marks: badTag of every number; rows that are written full; an append that leaves the old list as it was. -/
import Derived.Test.YtdjllnhahhjgmaaD3
import Derived.Deep.DeepAppendRoom
namespace Go.Proofs.Ytdjllnhahhjgmaa
open Go.RowKit Chron
def badF : Nat → Nat → List UInt8
  | 0, _ => []
  | f + 1, n => if n = 0 then [] else UInt8.ofNat (65 + n % 26) :: badF f (n / 26)
def badB (n : Nat) : ByteArray := ⟨(badT.data.toList ++ badF 14 n).toArray⟩
theorem badF_len (f n : Nat) : (badF f n).length ≤ f := by
  induction f generalizing n with
  | zero => simp [badF]
  | succ f ih => unfold badF; split
                 · simp
                 · have := ih (n / 26); simp; omega
theorem badF_more {f n : Nat} (h : 0 < n) : badF (f + 1) n = UInt8.ofNat (65 + n % 26) :: badF f (n / 26) := by rw [badF, if_neg (by omega)]
theorem badF_zero (f : Nat) : badF f 0 = [] := by cases f <;> simp [badF]
theorem append_one (s : ByteArray) (c : UInt8) : (s ++ ⟨#[c]⟩ : ByteArray).data.toList = s.data.toList ++ [c] := by obtain ⟨⟨s⟩⟩ := s; simp
theorem of_65 (k : Nat) : UInt8.ofNat (65 + k % 26) = 65 + UInt8.ofNat (k % 26) := by apply UInt8.toNat_inj.1; simp
theorem wrap_26 {k n : Nat} (h : n < 26 ^ 13) (hk : k ≤ n) : wrap64 ((k : Int) / 26) = ((k / 26 : Nat) : Int) := by
  have h2 : n < 9223372036854775807 := Nat.lt_of_lt_of_le h (by decide +kernel)
  rw [Chron.wrap_small (by omega) (by omega)]; omega
theorem div_26 {k n g : Nat} (h : k < 26 ^ (g + 1) ∧ k ≤ n) : k / 26 < 26 ^ g ∧ k / 26 ≤ n := by
  obtain ⟨h1, h2⟩ := h
  rw [Nat.pow_succ] at h1
  exact ⟨Nat.div_lt_of_lt_mul (by omega), by omega⟩
theorem pos_26 {k n f : Nat} (h : k < 26 ^ f ∧ k ≤ n) (hk : 0 < k) : ∃ g, f = g + 1 := by
  rcases f with _ | g
  · have := h.1; simp at this; omega
  · exact ⟨g, rfl⟩
theorem mod_26 (k : Nat) : 0 ≤ 65 + (k : Int) % 26 ∧ 65 + (k : Int) % 26 < 256 := by omega
theorem badB_start (n : Nat) : badT.data.toList ++ badF (13 + 1) n = (badB n).data.toList := by rw [badB]
theorem badT_size : badT.size + 13 ≤ 27 := by decide
theorem small_13 {n : Nat} (h : n < 26 ^ 13) : n < 9223372036854775807 := Nat.lt_of_lt_of_le h (by decide +kernel)
theorem wrap_28 {k : Int} {n : Nat} (h : n < 26 ^ 13) (h0 : 0 ≤ k) (hk : k.toNat ≤ n) : ∃ D : Int, wrap64 (k.tdiv 26) = D ∧ 0 ≤ D ∧ Hid (D.toNat = k.toNat / 26) := by
  have h2 := small_13 h
  exact ⟨k / 26, by rw [Int.tdiv_eq_ediv_of_nonneg h0]; exact Chron.wrap_small (by omega) (by omega), by omega, by show (k / 26).toNat = _; omega⟩
set_option maxRecDepth 100000 in
set_option maxHeartbeats 400000 in
theorem badTag_any (n : Int) (w : World) (h0 : 0 ≤ n) (hn : Hid (n.toNat < 26 ^ 13)) :
    Calls Try.prog 29 #[.int .i64 n] w fun e w' => e = .returned (.string (badB n.toNat)) ∧ Below w.heap.size w w' := by
  go_enter Try.func29, Try.ntmps29
  go_wp2
  go_loopw [0, 3] (fun i sv wx => ∃ (k : Int) (f : Nat) (s : ByteArray), 0 ≤ k ∧ i = .int .i64 k ∧ sv = .string s ∧ s.size + f ≤ 27 ∧ Hid (k.toNat < 26 ^ f ∧ k.toNat ≤ n.toNat) ∧ Hid (s.data.toList ++ badF (f + 1) k.toNat = (badB n.toNat).data.toList) ∧ Hid (Below w.heap.size w wx)) (fun i _ _ => (intOf i).toNat)
  case atStart => exact ⟨n, 13, badT, h0, rfl, rfl, badT_size, ⟨hn, Nat.le_refl _⟩, badB_start n.toNat, Below.refl _ _⟩
  case round =>
    obtain ⟨k, f, s, hk0, rfl, rfl, hf, HK, HS, HB⟩ := hrel
    by_cases hk : 0 < k
    · obtain ⟨g, rfl⟩ := pos_26 HK.out (by omega)
      obtain ⟨q, hq, hq0, hq1, HQ⟩ : ∃ q : Int, k % 26 = q ∧ 0 ≤ q ∧ q < 26 ∧ Hid (65 + k.toNat % 26 = (65 + q).toNat) := ⟨k % 26, rfl, by omega, by omega, by show 65 + k.toNat % 26 = (65 + k % 26).toNat; omega⟩
      obtain ⟨D, hD, hD0, HD⟩ := wrap_28 hn.out hk0 HK.out.2
      have hcv := conv_one (65 + q) (by omega) (by omega)
      have hsz := HB.out.size
      have HS2 := hide0 (HS.out)
      rw [badF_more (show 0 < k.toNat by omega), HQ.out, ← HD.out] at HS2
      have HD2 := hide0 (div_26 HK.out)
      rw [← HD.out] at HD2
      have HD3 : Hid (D.toNat < k.toNat) := by have := HD.out; show D.toNat < k.toNat; omega
      go_wp2
      go_roundw
      case rel =>
        refine ⟨D, g, _, hD0, by rw [hD], rfl, ?_, HD2, ?_, HB.out.alloc hsz _⟩
        · rw [ByteArray.size_append]; show s.size + 1 + g ≤ 27; omega
        · show _ = _
          rw [append_one, ← HS2.out, List.append_assoc]; rfl
      case measure => rw [hD]; exact HD3.out
    · have hk0 : k = 0 := by omega
      subst hk0
      have HE : Hid (s = badB n.toNat) := by
        apply bytes_inj; rw [← HS.out]; show _ = _ ++ badF (f + 1) 0; rw [badF_zero, List.append_nil]
      go_wp2
      go_ret
      exact ⟨ret_str HE.out, HB.out⟩
end Go.Proofs.Ytdjllnhahhjgmaa
