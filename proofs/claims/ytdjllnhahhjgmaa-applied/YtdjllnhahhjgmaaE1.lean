/- Walks of the small functions of package event and wire. -/
import Derived.Test.YtdjllnhahhjgmaaProg
import Derived.Test.YtdjllnhahhjgmaaP
import Derived.WalkKit
import Derived.WalkSpells
import Derived.WalkLawsBesides
import Derived.BigQuiet
import Derived.Deep.QuietTactic
namespace Go.Proofs.Ytdjllnhahhjgmaa
open Go.RowKit Chron

theorem ret_int {k : IntKind} {a b : Int} (h : a = b) : Ending.returned (.int k a) = .returned (.int k b) := by rw [h]
theorem ret_bool {a b : Bool} (h : a = b) : Ending.returned (.bool a) = .returned (.bool b) := by rw [h]
theorem ret_str {a b : ByteArray} (h : a = b) : Ending.returned (.string a) = .returned (.string b) := by rw [h]

set_option maxHeartbeats 400000 in
theorem isVersion_any (v : Int) (w : World) :
    Calls Try.prog 25 #[.int .i64 v] w fun e w' => e = .returned (.bool (isVer v)) ∧ w' = w := by
  go_enter Try.func25, Try.ntmps25
  go_wp2
  all_goals
    go_ret
    exact ⟨ret_bool (by unfold isVer; first | (rw [decide_eq_true (p := 1 ≤ v) ‹_›]; simp) | (rw [decide_eq_false (p := 1 ≤ v) (by omega)]; rfl)), rfl⟩

set_option maxHeartbeats 400000 in
theorem kindShift_any (v : Int) (w : World) :
    Calls Try.prog 55 #[.int .i64 v] w fun e w' => e = .returned (.int .i64 (shift v)) ∧ w' = w := by
  go_enter Try.func55, Try.ntmps55
  go_wp2
  · go_ret
    have h : (v == 2) = true := by assumption
    exact ⟨ret_int (shift_two (by simpa using h)).symm, rfl⟩
  · go_ret
    have h : (v == 2) = false := by assumption
    exact ⟨ret_int (shift_not (by simpa using h)).symm, rfl⟩

set_option maxHeartbeats 400000 in
theorem isPlain_any (c : Int) (w : World) :
    Calls Try.prog 70 #[.int .u8 c] w fun e w' => e = .returned (.bool (decide (32 ≤ c ∧ c ≤ 126))) ∧ w' = w := by
  go_enter Try.func70, Try.ntmps70
  go_wp2
  all_goals
    go_ret
    exact ⟨ret_bool (by rw [Bool.eq_iff_iff]; simp; omega), rfl⟩

set_option maxHeartbeats 400000 in
theorem isLine_any (s : ByteArray) (w : World) (hs : s.size ≤ maxLen) :
    Calls Try.prog 61 #[.string s] w fun e w' => e = .returned (.bool (lineB s)) ∧ w' = w := by
  unfold maxLen at hs
  go_enter Try.func61, Try.ntmps61
  go_wp2
  · go_ret
    have h : 60 < s.size := by omega
    exact ⟨ret_bool (line_long h).symm, rfl⟩
  · have h60 : s.size ≤ 60 := by omega
    go_loop [9] (fun i => ∃ k : Nat, k ≤ s.size ∧ i = .int .i64 k ∧ (s.data.toList.take k).all byteOk = true) (fun i => s.size - (intOf i).toNat)
    case atStart => exact ⟨0, Nat.zero_le _, rfl, rfl⟩
    case round =>
      obtain ⟨k, hk, rfl, hall⟩ := hrel
      have HA : Hid ((s.data.toList.take k).all byteOk = true) := hall
      clear hall
      by_cases hlt : k < s.size
      · have hP := fun w => isPlain_any (s[k].toNat : Int) w
        by_cases hb : 32 ≤ (s[k].toNat : Int) ∧ (s[k].toNat : Int) ≤ 126
        · rw [decide_eq_true hb] at hP
          have HB : Hid _ := hb
          clear hb
          go_wp2_with (go_at_call 70; refine (hP _).mono ?_; rintro e w' ⟨rfl, rfl⟩)
          go_round
          case rel => exact ⟨k + 1, by omega, by go_num, all_step s k hlt HA.out HB.out.1 HB.out.2⟩
          case measure => simp [intOf]; omega
        · rw [decide_eq_false hb] at hP
          have HB : Hid _ := hb
          clear hb
          go_wp2_with (go_at_call 70; refine (hP _).mono ?_; rintro e w' ⟨rfl, rfl⟩)
          go_ret
          exact ⟨ret_bool (all_fails s k hlt (by have h9 : ¬ (32 ≤ (s[k].toNat : Int) ∧ (s[k].toNat : Int) ≤ 126) := HB; omega)).symm, rfl⟩
      · go_wp2
        go_ret
        exact ⟨ret_bool (line_done h60 (by omega) HA.out).symm, rfl⟩

set_option maxHeartbeats 400000 in
theorem isName_any (s : ByteArray) (w : World) (hs : s.size ≤ maxLen) :
    Calls Try.prog 60 #[.string s] w fun e w' => e = .returned (.bool (nameB s)) ∧ w' = w := by
  go_enter Try.func60, Try.ntmps60
  go_wp2_with (go_at_call 61; refine (isLine_any _ _ hs).mono ?_; rintro e w' ⟨rfl, rfl⟩)
  · go_ret
    have h : s.toList = [] := by assumption
    exact ⟨ret_bool (by simp [nameB, h]), rfl⟩
  · go_ret
    exact ⟨rfl, rfl⟩
end Go.Proofs.Ytdjllnhahhjgmaa
