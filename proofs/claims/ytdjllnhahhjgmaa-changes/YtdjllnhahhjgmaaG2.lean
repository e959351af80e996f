/- Walks of package delta's small functions. -/
import Derived.Test.YtdjllnhahhjgmaaG1
import Derived.Test.YtdjllnhahhjgmaaE1
namespace Go.Proofs.Ytdjllnhahhjgmaa
open Go.RowKit Chron
theorem hide1 {p : Prop} (h : p) : Hid p := h
theorem byteDiff {x y : UInt8} (h : ¬ x = y) : ((x.toNat : Int) == (y.toNat : Int)) = false := by
  have : ¬ x.toNat = y.toNat := fun e => h (UInt8.toNat_inj.1 e)
  simp; omega
theorem byteSame {x y : UInt8} (h : x = y) : ((x.toNat : Int) == (y.toNat : Int)) = true := by subst h; simp
theorem rev_get (s : ByteArray) (k i : Nat) (h : k < s.size) (hi : i = s.size - 1 - k) : s.data.toList.reverse[k]'(by simpa using h) = s[i]'(by omega) := by
  subst hi; rw [List.getElem_reverse]; rfl
set_option maxRecDepth 100000 in
set_option maxHeartbeats 400000 in
theorem front_any (a b : ByteArray) (w : World) (ha : a.size ≤ 65536) (_hb : b.size ≤ 65536) :
    Calls Try.prog 44 #[.string a, .string b] w fun e w' => e = .returned (.int .i64 (pre a.data.toList b.data.toList : Nat)) ∧ ∃ nq, w' = w.drewN nq := by
  go_enter Try.func44, Try.ntmps44
  go_wp2
  go_loopw [5] (fun m wr => ∃ k nq : Nat, wr = w.drewN nq ∧ k ≤ a.size ∧ m = .int .i64 k ∧ Hid (Akin a.data.toList b.data.toList k)) (fun m _ => a.size - (intOf m).toNat)
  case atStart => exact ⟨0, 0, rfl, Nat.zero_le _, rfl, alike_zero _ _⟩
  case round =>
    obtain ⟨k, nq, rfl, hk, rfl, HA⟩ := hrel
    by_cases hlt : k < a.size ∧ k < b.size
    · obtain ⟨hla, hlb⟩ := hlt
      by_cases he : a[k] = b[k]
      · have HM := hide1 (alike_more HA.out (by simpa using hla) (by simpa using hlb) he)
        have heb := byteSame he
        clear he
        go_wp2_with fail
        go_quiet (fail)
        go_wp2
        go_roundw
        case rel => exact ⟨k + 1, _, rfl, by omega, by go_num, HM⟩
        case measure => simp [intOf]; omega
      · have HO := hide1 (alike_other HA.out (by simpa using hla) (by simpa using hlb) he)
        have heb := byteDiff he
        clear he
        go_wp2_with fail
        go_quiet (fail)
        go_wp2
        go_ret
        exact ⟨ret_int (by rw [HO.out]), _, World.drewN_drewN _ _ _⟩
    · have HE := hide1 (alike_end HA.out (by simpa using hlt))
      by_cases h1 : k < a.size
      · have h2 : ¬ k < b.size := by omega
        clear hlt
        go_wp2_with fail
        go_quiet (fail)
        go_wp2
        go_ret
        exact ⟨ret_int (by rw [HE.out]), _, World.drewN_drewN _ _ _⟩
      · clear hlt
        go_wp2_with fail
        go_quiet (fail)
        go_wp2
        go_ret
        exact ⟨ret_int (by rw [HE.out]), _, World.drewN_drewN _ _ _⟩
set_option maxRecDepth 100000 in
set_option maxHeartbeats 400000 in
theorem end_any (a b : ByteArray) (w : World) (ha : a.size ≤ 65536) (hb : b.size ≤ 65536) :
    Calls Try.prog 45 #[.string a, .string b] w fun e w' => e = .returned (.int .i64 (pre a.data.toList.reverse b.data.toList.reverse : Nat)) ∧ ∃ nq, w' = w.drewN nq := by
  go_enter Try.func45, Try.ntmps45
  go_wp2
  go_loopw [5] (fun m wr => ∃ k nq : Nat, wr = w.drewN nq ∧ k ≤ a.size ∧ m = .int .i64 k ∧ Hid (Akin a.data.toList.reverse b.data.toList.reverse k)) (fun m _ => a.size - (intOf m).toNat)
  case atStart => exact ⟨0, 0, rfl, Nat.zero_le _, rfl, alike_zero _ _⟩
  case round =>
    obtain ⟨k, nq, rfl, hk, rfl, HA⟩ := hrel
    by_cases hlt : k < a.size ∧ k < b.size
    · obtain ⟨hla, hlb⟩ := hlt
      obtain ⟨i, hi, hi2⟩ : ∃ i : Nat, (a.size : Int) - 1 - k = i ∧ i < a.size := ⟨a.size - 1 - k, by omega, by omega⟩
      obtain ⟨j, hj, hj2⟩ : ∃ j : Nat, (b.size : Int) - 1 - k = j ∧ j < b.size := ⟨b.size - 1 - k, by omega, by omega⟩
      have hga := rev_get a k i hla (by omega)
      have hgb := rev_get b k j hlb (by omega)
      by_cases he : a[i] = b[j]
      · have HM := hide1 (alike_more HA.out (by simpa using hla) (by simpa using hlb) (by rw [hga, hgb]; exact he))
        have heb := byteSame he
        clear he hga hgb
        go_wp2_with fail
        go_quiet (fail)
        go_wp2
        go_roundw
        case rel => exact ⟨k + 1, _, rfl, by omega, by go_num, HM⟩
        case measure => simp [intOf]; omega
      · have HO := hide1 (alike_other HA.out (by simpa using hla) (by simpa using hlb) (by rw [hga, hgb]; exact he))
        have heb := byteDiff he
        clear he hga hgb
        go_wp2_with fail
        go_quiet (fail)
        go_wp2
        go_ret
        exact ⟨ret_int (by rw [HO.out]), _, World.drewN_drewN _ _ _⟩
    · have HE := hide1 (alike_end HA.out (by simpa using hlt))
      by_cases h1 : k < a.size
      · have h2 : ¬ k < b.size := by omega
        clear hlt
        go_wp2_with fail
        go_quiet (fail)
        go_wp2
        go_ret
        exact ⟨ret_int (by rw [HE.out]), _, World.drewN_drewN _ _ _⟩
      · clear hlt
        go_wp2_with fail
        go_quiet (fail)
        go_wp2
        go_ret
        exact ⟨ret_int (by rw [HE.out]), _, World.drewN_drewN _ _ _⟩
end Go.Proofs.Ytdjllnhahhjgmaa
