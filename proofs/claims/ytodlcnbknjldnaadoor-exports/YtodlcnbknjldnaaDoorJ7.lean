/- Walks of chronicleref's quoted, words, decimal. -/
import Derived.Test.YtodlcnbknjldnaaDoorJ4
namespace Go.Proofs.YtodlcnbknjldnaaDoor
open Go.RowKit Chron
theorem cut_one (s : ByteArray) (k : Nat) (h : k < s.size) : (s.data.toList.drop k).take 1 = [s[k]] := by
  have hl : k < s.data.toList.length := by simpa using h
  rw [List.drop_eq_getElem_cons hl]; rfl
set_option maxRecDepth 100000 in
set_option maxHeartbeats 1000000 in
theorem quoted_any (s : ByteArray) (w : World) (hs : s.size ≤ 65536) :
    Calls Tryd.prog 13 #[.string s] w fun e w' => e = .returned (.string ⟨(qB s.data.toList).toArray⟩) ∧ w' = w := by
  go_enter Tryd.func13, Tryd.ntmps13
  go_wp2
  go_loop [3, 4] (fun o i => ∃ (k : Nat) (out : ByteArray), k ≤ s.size ∧ i = .int .i64 k ∧ o = .string out ∧ Hid (out.data.toList = 34 :: inQ (s.data.toList.take k))) (fun _ i => s.size - (intOf i).toNat)
  case atStart => exact ⟨0, _, Nat.zero_le _, rfl, rfl, rfl⟩
  case round =>
    obtain ⟨k, out, hk, rfl, rfl, HO⟩ := hrel
    have hlen : out.size ≤ 140000 := by
      have h1 := inQ_len (s.data.toList.take k)
      have h2 := congrArg List.length HO.out
      simp at h1 h2
      omega
    by_cases hlt : k < s.size
    · have HC := hide0 (cut_one s k hlt)
      by_cases h34 : (s[k].toNat : Int) = 34 ∨ (s[k].toNat : Int) = 92
      · have HE := hide0 ((inQ_take s k hlt).trans (by rw [esc_yes h34]))
        have hcd : ((s[k].toNat : Int) == 34 || (s[k].toNat : Int) == 92) = true := by simpa using h34
        clear h34
        go_wp2
        all_goals
          go_round
          case rel => exact ⟨k + 1, _, by omega, by go_num, rfl, by
            show _ = _
            rw [HE.out]
            simp [HO.out, HC.out]⟩
          case measure => simp [intOf]; omega
      · have h1 : ¬ (s[k].toNat : Int) = 34 := fun h => h34 (.inl h)
        have h2 : ¬ (s[k].toNat : Int) = 92 := fun h => h34 (.inr h)
        have HE := hide0 ((inQ_take s k hlt).trans (by rw [esc_no h1 h2]))
        have hc1 : ((s[k].toNat : Int) == 34) = false := by simp [h1]
        have hc2 : ((s[k].toNat : Int) == 92) = false := by simp [h2]
        clear h34 h1 h2
        go_wp2
        go_round
        case rel => exact ⟨k + 1, _, by omega, by go_num, rfl, by
          show _ = _
          rw [HE.out]
          simp [HO.out, HC.out]⟩
        case measure => simp [intOf]; omega
    · go_wp2
      go_ret
      refine ⟨ret_str (bytes_inj ?_), rfl⟩
      simp [HO.out, qB]
      rw [List.take_of_length_le (by simp; omega)]
def wordCells : Array Value := #[.string ⟨#[98, 101, 103, 117, 110]⟩, .string ⟨#[100, 111, 110, 101]⟩, .string ⟨#[102, 97, 105, 108, 101, 100]⟩, .string ⟨#[110, 111, 116, 101, 100]⟩]
set_option maxRecDepth 100000 in
theorem words_any (w : World) : Calls Tryd.prog 14 #[] w fun e w' => e = .returned (.slice (some ⟨w.heap.size, 0, none⟩) 4 4) ∧ w' = w.alloc (.cells #[.string ⟨#[98, 101, 103, 117, 110]⟩, .string ⟨#[100, 111, 110, 101]⟩, .string ⟨#[102, 97, 105, 108, 101, 100]⟩, .string ⟨#[110, 111, 116, 101, 100]⟩] 9) := by
  go_enter Tryd.func14, Tryd.ntmps14
  go_wp2
  go_ret
  exact ⟨rfl, rfl⟩
set_option maxRecDepth 100000 in
set_option maxHeartbeats 1000000 in
theorem decimal_ref (f : Nat) : ∀ (n : Int) (w : World), 0 ≤ n → Hid (n.toNat < 10 ^ f) → 0 < f → f ≤ 17 →
    Calls Tryd.prog 15 #[.int .i64 n] w fun e w' => e = .returned (.string ⟨(Lib.decDigits n.toNat).toArray⟩) ∧ Below w.heap.size w w' := by
  induction f with
  | zero => intro n w _ _ h; omega
  | succ f ih =>
    intro n w h0 h1 _ h17
    have hn17 : n.toNat < 10 ^ 17 := Nat.lt_of_lt_of_le h1.out (Nat.pow_le_pow_right (by omega) h17)
    obtain ⟨q, hq, hq0, hq9⟩ : ∃ q : Int, n % 10 = q ∧ 0 ≤ q ∧ q ≤ 9 := ⟨_, rfl, by omega, by omega⟩
    have HB : Hid ((48 + q).toNat = 48 + n.toNat % 10) := by show _ = _; omega
    have hcv := conv_one (48 + q) (by omega) (by omega)
    by_cases hs : n < 10
    · have HN : Hid (Lib.decDigits n.toNat = [UInt8.ofNat (48 + q).toNat]) := by
        show _ = _
        rw [Lib.decDigits, dif_pos (by omega), HB.out, show n.toNat % 10 = n.toNat by omega]
      go_enter Tryd.func15, Tryd.ntmps15
      go_wp2
      go_ret
      exact ⟨ret_str (by rw [HN.out]), (Below.refl _ _).alloc (Nat.le_refl _) _⟩
    · have HN : Hid (Lib.decDigits n.toNat = Lib.decDigits (n.toNat / 10) ++ [UInt8.ofNat (48 + q).toNat]) := by
        show _ = _
        rw [Lib.decDigits, dif_neg (by omega), HB.out]
      have hf0 : 0 < f := by
        have := h1.out
        rcases Nat.eq_zero_or_pos f with h | h
        · subst h; simp at this; omega
        · exact h
      obtain ⟨D, hD, HD⟩ : ∃ D : Int, n / 10 = D ∧ Hid (D = n / 10) := ⟨_, rfl, rfl⟩
      have hdl := digits_len 17 D.toNat (by rw [HD.out]; omega)
      have hnl : (Lib.decDigits D.toNat).length ≤ 17 := by omega
      have hD1 : Hid (D.toNat < 10 ^ f) := by
        have := h1.out
        rw [Nat.pow_succ] at this
        show D.toNat < 10 ^ f
        rw [HD.out, show (n / 10).toNat = n.toNat / 10 by omega]
        exact Nat.div_lt_of_lt_mul (by omega)
      have hD0 : 0 ≤ D := by rw [HD.out]; omega
      have hih := ih D ((w.alloc (.cells #[.int .u8 (48 + q)] 5))) hD0 hD1 hf0 (by omega)
      have HF : Hid (D.toNat = n.toNat / 10) := by show _ = _; rw [HD.out]; omega
      clear ih HD hdl h1 hD1
      go_enter Tryd.func15, Tryd.ntmps15
      go_wp2_with fail
      refine hih.mono ?_
      rintro e w2 ⟨rfl, hb2⟩
      go_wp2
      go_ret
      refine ⟨ret_str ?_, ((Below.refl w.heap.size w).alloc (Nat.le_refl _) _).trans (hb2.mono (by simp))⟩
      rw [HN.out, ← HF.out]; apply bytes_inj; simp
theorem decimal_any (m : Int) (w : World) (h0 : 0 ≤ m) (h1 : m ≤ 1125899906842624) :
    Calls Tryd.prog 15 #[.int .i64 m] w fun e w' => e = .returned (.string ⟨(Lib.itoa m).toArray⟩) ∧ Below w.heap.size w w' := by
  have := decimal_ref 17 m w h0 (by show m.toNat < 10 ^ 17; omega) (by decide) (by decide)
  rwa [Lib.itoa, if_neg (by omega)]
end Go.Proofs.YtodlcnbknjldnaaDoor
