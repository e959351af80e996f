/- Walks of package wire's readers. -/
import Derived.Test.YtdjllnhahhjgmaaE1
namespace Go.Proofs.Ytdjllnhahhjgmaa
open Go.RowKit Chron
def rdVal : Option (Nat × List UInt8) → Value
  | none => .tuple #[.int .i64 0, .string ⟨#[]⟩, .bool false]
  | some (n, r) => .tuple #[.int .i64 n, .string ⟨r.toArray⟩, .bool true]
theorem ret_some {l : List UInt8} {n : Nat} {r : List UInt8} {x : Int} {y : ByteArray} (h : readNum l = some (n, r)) (hx : x = (n : Int)) (hy : y = ⟨r.toArray⟩) :
    Ending.returned (.tuple #[.int .i64 x, .string y, .bool true]) = .returned (rdVal (readNum l)) := by rw [h, hx, hy]; rfl
theorem ret_none {l : List UInt8} (h : readNum l = none) :
    Ending.returned (.tuple #[.int .i64 0, .string ⟨#[]⟩, .bool false]) = .returned (rdVal (readNum l)) := by rw [h]; rfl
set_option maxRecDepth 100000 in
set_option maxHeartbeats 400000 in
theorem readNumber_any (s : ByteArray) (w : World) (hs : s.size ≤ maxLen) :
    Calls Try.prog 42 #[.string s] w fun e w' => e = .returned (rdVal (readNum s.data.toList)) ∧ ∃ nq, w' = w.drewN nq := by
  unfold maxLen at hs
  go_enter Try.func42, Try.ntmps42
  go_wp2
  go_loop [2, 5] (fun m i => ∃ k : Nat, ∃ n : Nat, k ≤ 9 ∧ k ≤ s.size ∧ i = .int .i64 k ∧ m = .int .i64 n ∧ Hid (Reads s.data.toList n k)) (fun _ i => 9 - (intOf i).toNat)
  case atStart => exact ⟨0, 0, by omega, Nat.zero_le _, rfl, rfl, reads_start _⟩
  case round =>
    obtain ⟨k, n, hk9, hks, rfl, rfl, HR⟩ := hrel
    by_cases hlt : k < s.size ∧ k < 9
    · obtain ⟨hlt, hlt9⟩ := hlt
      by_cases hc : 128 ≤ (s[k].toNat : Int)
      · go_wp2
        go_round
        case rel => exact ⟨k + 1, _, by omega, by omega, by go_num, by rw [or_step s[k] hlt9 HR.out.1], reads_more HR.out hlt9 hlt hc⟩
        case measure => simp [intOf]; omega
      · by_cases hz : ((s[k].toNat : Int) == 0) = true ∧ 0 < k
        · obtain ⟨hz, hk0⟩ := hz
          go_wp2
          go_ret3
          exact ⟨ret_none (reads_zero HR.out hlt9 hlt (by have := hz; simpa using this) hk0), 0, rfl⟩
        · have hz' : ¬ (s[k].toNat = 0 ∧ 0 < k) := by simpa using hz
          have HL : Hid _ := reads_last HR.out hlt9 hlt (by omega) hz'
          have HO : Hid _ := or_step s[k] hlt9 HR.out.1
          by_cases hk0 : 0 < k
          · have hz1 : ((s[k].toNat : Int) == 0) = false := by simp; omega
            clear hz hz'
            go_wp2_with fail
            go_quiet (fail)
            go_wp2
            go_ret3
            exact ⟨ret_some HL.out HO.out (extract_end _ _), _, rfl⟩
          · have hk0' : k = 0 := by omega
            subst hk0'
            clear hz hz'
            by_cases hz1 : ((s[0].toNat : Int) == 0) = true
            · go_wp2_with fail
              go_quiet (fail)
              go_wp2
              go_ret3
              exact ⟨ret_some HL.out (by have := HO.out; simpa using this) (extract_end _ _), _, rfl⟩
            · have hz2 : ((s[0].toNat : Int) == 0) = false := by simpa using hz1
              clear hz1
              go_wp2_with fail
              go_quiet (fail)
              go_wp2
              go_ret3
              exact ⟨ret_some HL.out (by have := HO.out; simpa using this) (extract_end _ _), _, rfl⟩
    · have HE : Hid _ := reads_end HR.out hlt
      by_cases h9 : k < 9
      · have : ¬ k < s.size := by omega
        go_wp2
        go_ret3
        exact ⟨ret_none HE.out, 0, rfl⟩
      · go_wp2
        all_goals
          go_ret3
          exact ⟨ret_none HE.out, 0, rfl⟩

/- a text within bytes, and what is behind it -/
def txVal : Option (List UInt8 × List UInt8) → Value
  | none => .tuple #[.string ⟨#[]⟩, .string ⟨#[]⟩, .bool false]
  | some (t, r) => .tuple #[.string ⟨t.toArray⟩, .string ⟨r.toArray⟩, .bool true]
theorem ret_tx {l : List UInt8} {t r : List UInt8} {x y : ByteArray} (h : readTx l = some (t, r)) (hx : x = ⟨t.toArray⟩) (hy : y = ⟨r.toArray⟩) :
    Ending.returned (.tuple #[.string x, .string y, .bool true]) = .returned (txVal (readTx l)) := by rw [h, hx, hy]; rfl
set_option maxRecDepth 100000 in
set_option maxHeartbeats 400000 in
theorem readText_any (s : ByteArray) (w : World) (hs : s.size ≤ maxLen) :
    Calls Try.prog 64 #[.string s] w fun e w' => e = .returned (txVal (readTx s.data.toList)) ∧ ∃ nq, w' = w.drewN nq := by
  have hR := readNumber_any s w hs
  rcases hq : readNum s.data.toList with _ | ⟨n, r⟩
  · rw [hq] at hR
    have HQ : Hid _ := hq
    clear hq
    go_enter Try.func64, Try.ntmps64
    go_wp2_with fail
    refine hR.mono ?_
    rintro e w' ⟨rfl, nq, rfl⟩
    simp only [rdVal]
    go_wp2
    go_ret3
    exact ⟨by rw [readTx, HQ.out]; rfl, nq, rfl⟩
  · rw [hq] at hR
    have HQ : Hid _ := hq
    have hrl : r.length ≤ s.size := by have := readNum_len hq; simpa using this
    unfold maxLen at hs
    clear hq
    by_cases hn : n ≤ r.length
    · go_enter Try.func64, Try.ntmps64
      go_wp2_with fail
      refine hR.mono ?_
      rintro e w' ⟨rfl, nq, rfl⟩
      simp only [rdVal]
      go_wp2_with fail
      go_quiet (fail)
      go_wp2
      go_ret3
      exact ⟨ret_tx (readTx_some HQ.out hn) (extract_mk_take _ _) (extract_mk_drop _ _), _, World.drewN_drewN _ _ _⟩
    · go_enter Try.func64, Try.ntmps64
      go_wp2_with fail
      refine hR.mono ?_
      rintro e w' ⟨rfl, nq, rfl⟩
      simp only [rdVal]
      go_wp2
      go_ret3
      exact ⟨by rw [readTx, HQ.out]; simp [hn]; rfl, nq, rfl⟩
end Go.Proofs.Ytdjllnhahhjgmaa
