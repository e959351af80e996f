/- Walks of chronicleref's numberAt and textAt. -/
import Derived.Test.YtdjllnhahhjgmaaC1
import Derived.Test.YtdjllnhahhjgmaaV
namespace Go.Proofs.Ytdjllnhahhjgmaa
open Go.RowKit Chron
def atVal (L : Nat) : Option (Nat × List UInt8) → Value
  | none => .tuple #[.int .i64 0, .int .i64 (-1)]
  | some (n, r) => .tuple #[.int .i64 n, .int .i64 ((L - r.length : Nat) : Int)]
theorem ret_at {l : List UInt8} {n : Nat} {r : List UInt8} {L : Nat} {x y : Int} (h : readNum l = some (n, r)) (hx : x = (n : Int)) (hy : y = ((L - r.length : Nat) : Int)) :
    Ending.returned (.tuple #[.int .i64 x, .int .i64 y]) = .returned (atVal L (readNum l)) := by rw [h, hx, hy]; rfl
theorem ret_at_none {l : List UInt8} {L : Nat} (h : readNum l = none) : Ending.returned (.tuple #[.int .i64 0, .int .i64 (-1)]) = .returned (atVal L (readNum l)) := by rw [h]; rfl
def tailB (s : ByteArray) (p : Nat) : ByteArray := ⟨(s.data.toList.drop p).toArray⟩
theorem tail_list (s : ByteArray) (p : Nat) : (tailB s p).data.toList = s.data.toList.drop p := rfl
theorem tail_size (s : ByteArray) (p : Nat) : (tailB s p).size = s.size - p := by
  have h : (tailB s p).size = (tailB s p).data.toList.length := rfl
  rw [h, tail_list, List.length_drop]; rfl
theorem tail_get (s : ByteArray) (p k : Nat) (h : k < (tailB s p).size) (h' : p + k < s.size) : (tailB s p)[k] = s[p + k] := by
  have h1 : (tailB s p)[k] = (s.data.toList.drop p)[k]'(by rw [List.length_drop]; have : s.data.toList.length = s.size := rfl; omega) := rfl
  have h2 : s[p + k] = s.data.toList[p + k]'(by have : s.data.toList.length = s.size := rfl; omega) := rfl
  rw [h1, h2, List.getElem_drop]
theorem mul_step {n k : Nat} (c : Nat) (hk : k < 9) (hn : n < 128 ^ k) : n + c % 128 * 128 ^ k < 9223372036854775808 := by
  have h8 := pow_le8 hk
  have hm : c % 128 * 128 ^ k ≤ 127 * 128 ^ 8 := Nat.mul_le_mul (by omega) h8
  omega
theorem group_step {n k x : Nat} (c : Nat) (hk : k < 9) (hn : n < 128 ^ k) (hx : x = 128 ^ k) : ∃ d y z : Nat, (c : Int).tmod 128 = (d : Int) ∧ wrap64 ((d : Int) * (x : Int)) = (y : Int) ∧ wrap64 ((n : Int) + (y : Int)) = (z : Int) ∧ Hid (z = n + c % 128 * 128 ^ k) := by
  have hms := mul_step c hk hn
  rw [← hx] at hms ⊢
  refine ⟨c % 128, c % 128 * x, n + c % 128 * x, ?_, ?_, ?_, rfl⟩
  · rw [Int.tmod_eq_emod_of_nonneg (by omega)]; omega
  · rw [← Int.natCast_mul, Chron.wrap_small (by omega) (by omega)]
  · rw [← Int.natCast_add, Chron.wrap_small (by omega) (by omega)]
theorem pow_less {k : Nat} (h : k < 8) : (128 : Nat) ^ k ≤ 562949953421312 := Nat.le_trans (Nat.pow_le_pow_right (by omega) (show k ≤ 7 by omega)) (by decide)
set_option maxRecDepth 100000 in
set_option maxHeartbeats 400000 in
theorem numberAt_any (s : ByteArray) (p : Nat) (w : World) (hs : s.size ≤ 281474976710656) (hp : p ≤ s.size) :
    Calls Try.prog 47 #[.string s, .int .i64 p] w fun e w' => e = .returned (atVal s.size (readNum (s.data.toList.drop p))) ∧ w' = w := by
  go_enter Try.func47, Try.ntmps47
  go_wp2
  go_loop [6, 7, 8, 9] (fun m u i _ => ∃ k n x : Nat, k ≤ 9 ∧ p + k ≤ s.size ∧ i = .int .i64 k ∧ m = .int .i64 n ∧ u = .int .i64 x ∧ Hid (k < 9 → x = 128 ^ k) ∧ Hid (Reads (s.data.toList.drop p) n k)) (fun _ _ i _ => 9 - (intOf i).toNat)
  case atStart => exact ⟨0, 0, 1, by omega, by omega, rfl, rfl, rfl, fun _ => rfl, reads_start _⟩
  case round =>
    obtain ⟨k, n, x, hk9, hks, rfl, rfl, rfl, HX, HR⟩ := hrel
    by_cases hlt : p + k < s.size ∧ k < 9
    · obtain ⟨hlt, hlt9⟩ := hlt
      have hSl : k < (tailB s p).size := by rw [tail_size]; omega
      have hS := tail_get s p k hSl hlt
      have HR' : Hid (Reads (tailB s p).data.toList n k) := by rw [tail_list]; exact HR
      have hpk : (p : Int) + k < (s.size : Int) := by omega
      obtain ⟨c, hcw, hc256, HC⟩ : ∃ c : Nat, wrap64 (s[p + k].toNat : Int) = (c : Int) ∧ c < 256 ∧ Hid (c = (tailB s p)[k].toNat) := ⟨s[p + k].toNat, Chron.wrap_small (by omega) (by have := s[p + k].toNat_lt; omega), s[p + k].toNat_lt, by show _ = _; rw [hS]⟩
      have HXY := hide0 (HX.out hlt9)
      obtain ⟨d, y, z, hd, hy, hz9, HZ⟩ := group_step (n := n) (k := k) (x := x) c hlt9 HR.out.1 HXY.out
      clear hS
      by_cases hc : 128 ≤ c
      · have hci : 128 ≤ (c : Int) := by omega
        have HM : Hid (Reads (s.data.toList.drop p) z (k + 1)) := by
          have h := reads_more HR'.out hlt9 hSl (by rw [← HC.out]; exact hci)
          rw [tail_list, ← HC.out] at h
          rw [HZ.out]; exact h
        by_cases hk8 : k < 8
        · have hx7 : x ≤ 562949953421312 := by rw [HXY.out]; exact pow_less hk8
          go_wp2
          go_round
          case rel => exact ⟨k + 1, z, x * 128, by omega, by omega, by go_num, by rw [hz9], by go_num, fun _ => by rw [Nat.pow_succ, ← HXY.out], HM⟩
          case measure => simp [intOf]; omega
        · go_wp2
          go_round
          case rel => exact ⟨k + 1, z, x, by omega, by omega, by go_num, by rw [hz9], rfl, fun h => by omega, HM⟩
          case measure => simp [intOf]; omega
      · have hci : (c : Int) < 128 := by omega
        by_cases hz : c = 0 ∧ 0 < k
        · obtain ⟨hz, hk0⟩ := hz
          subst hz
          have HE : Hid (readNum (s.data.toList.drop p) = none) := by
            have h := reads_zero HR'.out hlt9 hSl HC.out.symm hk0
            rwa [tail_list] at h
          have hk0i : 0 < (k : Int) := by omega
          go_wp2
          go_ret2
          exact ⟨ret_at_none HE.out, rfl⟩
        · have HL : Hid (readNum (s.data.toList.drop p) = some (z, s.data.toList.drop (p + k + 1))) := by
            have h := reads_last HR'.out hlt9 hSl (by rw [← HC.out]; exact hci) (by rw [← HC.out]; exact hz)
            rw [tail_list, ← HC.out, List.drop_drop] at h
            rw [HZ.out, h]; rfl
          have hlen : ((s.size - (s.data.toList.drop (p + k + 1)).length : Nat) : Int) = p + k + 1 := by
            rw [List.length_drop]; have : s.data.toList.length = s.size := rfl; omega
          have HLEN := hide0 hlen
          clear hlen
          by_cases hk0 : 0 < k
          · have hz1 : ((c : Int) == 0) = false := by simp; omega
            clear hz
            go_wp2
            go_ret2
            exact ⟨ret_at HL.out hz9 HLEN.out.symm, rfl⟩
          · have hk0i : ¬ 0 < (k : Int) := by omega
            clear hz
            by_cases hcz : c = 0
            · have hz1 : ((c : Int) == 0) = true := by simp [hcz]
              clear hcz
              go_wp2
              go_ret2
              exact ⟨ret_at HL.out hz9 HLEN.out.symm, rfl⟩
            · have hz1 : ((c : Int) == 0) = false := by simp [hcz]
              clear hcz
              go_wp2
              go_ret2
              exact ⟨ret_at HL.out hz9 HLEN.out.symm, rfl⟩
    · have HE : Hid (readNum (s.data.toList.drop p) = none) := by
        have h := reads_end (s := tailB s p) (n := n) (k := k) (by rw [tail_list]; exact HR.out) (by rw [tail_size]; omega)
        rwa [tail_list] at h
      by_cases h9 : k < 9
      · have : ¬ (p : Int) + k < (s.size : Int) := by omega
        go_wp2
        go_ret2
        exact ⟨ret_at_none HE.out, rfl⟩
      · go_wp2
        all_goals
          go_ret2
          exact ⟨ret_at_none HE.out, rfl⟩
def tAtVal (L : Nat) : Option (List UInt8 × List UInt8) → Value
  | none => .tuple #[.string ⟨#[]⟩, .int .i64 (-1)]
  | some (t, r) => .tuple #[.string ⟨t.toArray⟩, .int .i64 ((L - r.length : Nat) : Int)]
theorem ret_tat {l : List UInt8} {t r : List UInt8} {L : Nat} {x : ByteArray} {y : Int} (h : readTx l = some (t, r)) (hx : x = ⟨t.toArray⟩) (hy : y = ((L - r.length : Nat) : Int)) :
    Ending.returned (.tuple #[.string x, .int .i64 y]) = .returned (tAtVal L (readTx l)) := by rw [h, hx, hy]; rfl
theorem ret_tat_none {l : List UInt8} {L : Nat} (h : readTx l = none) : Ending.returned (.tuple #[.string ⟨#[]⟩, .int .i64 (-1)]) = .returned (tAtVal L (readTx l)) := by rw [h]; rfl
theorem suffix_drop {l x r : List UInt8} (h : l = x ++ r) : l.drop (l.length - r.length) = r := by subst h; simp
theorem num_suffix {l : List UInt8} {p n : Nat} {r : List UInt8} (h : readNum (l.drop p) = some (n, r)) : l.drop (l.length - r.length) = r ∧ r.length ≤ l.length := by
  have h1 := readNum_num h
  have h2 : l = (l.take p ++ num n) ++ r := by rw [List.append_assoc, ← h1, List.take_append_drop]
  exact ⟨suffix_drop h2, by rw [h2]; simp; omega⟩
theorem extract_drop_take (s : ByteArray) (f n : Nat) : s.extract f (f + n) = ⟨((s.data.toList.drop f).take n).toArray⟩ := by
  apply bytes_inj
  simp [ByteArray.data_extract, Array.toList_extract, List.extract]
set_option maxRecDepth 100000 in
set_option maxHeartbeats 400000 in
theorem textAt_any (s : ByteArray) (p : Nat) (w : World) (hs : s.size ≤ 281474976710656) (hp : p ≤ s.size) :
    Calls Try.prog 39 #[.string s, .int .i64 p] w fun e w' => e = .returned (tAtVal s.size (readTx (s.data.toList.drop p))) ∧ w' = w := by
  have hN := numberAt_any s p w hs hp
  rcases hq : readNum (s.data.toList.drop p) with _ | ⟨n, r⟩
  · rw [hq] at hN
    have HQ := hide0 hq
    clear hq
    go_enter Try.func39, Try.ntmps39
    go_wp2_with fail
    refine hN.mono ?_
    rintro e w' ⟨rfl, rfl⟩
    simp only [atVal]
    go_wp2
    go_ret2
    exact ⟨ret_tat_none (by rw [readTx, HQ.out]), rfl⟩
  · rw [hq] at hN
    have HQ := hide0 hq
    obtain ⟨hsd, hrl⟩ := num_suffix hq
    have hsz : s.data.toList.length = s.size := rfl
    rw [hsz] at hsd hrl
    obtain ⟨f, hf, hfr⟩ : ∃ f : Nat, s.size - r.length = f ∧ f + r.length = s.size := ⟨_, rfl, by omega⟩
    rw [hf] at hsd
    have HSD := hide0 hsd
    have HF := hide0 hf
    simp only [atVal, hf] at hN
    clear hq hsd hf hsz
    by_cases hn : n ≤ r.length
    · have hni : (n : Int) ≤ (s.size : Int) - (f : Int) := by omega
      have HT := hide0 (readTx_some HQ.out hn)
      go_enter Try.func39, Try.ntmps39
      go_wp2_with fail
      refine hN.mono ?_
      rintro e w' ⟨rfl, rfl⟩
      go_wp2
      go_ret2
      exact ⟨ret_tat HT.out (by rw [← HSD.out]; exact extract_drop_take _ _ _) (by simp; omega), rfl⟩
    · have hni : (s.size : Int) - (f : Int) < (n : Int) := by omega
      go_enter Try.func39, Try.ntmps39
      go_wp2_with fail
      refine hN.mono ?_
      rintro e w' ⟨rfl, rfl⟩
      go_wp2
      go_ret2
      exact ⟨ret_tat_none (by rw [readTx, HQ.out]; simp [hn]), rfl⟩
end Go.Proofs.Ytdjllnhahhjgmaa
