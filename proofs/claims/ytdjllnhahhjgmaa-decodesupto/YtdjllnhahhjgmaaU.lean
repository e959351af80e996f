/- Plain facts: what is read is what would be written. -/
import Derived.Test.YtdjllnhahhjgmaaS
namespace Chron
open Go Go.RowKit
theorem readF_pos : ∀ (f : Nat) (l : List UInt8) (n : Nat) (r : List UInt8), readF f false l = some (n, r) → 1 ≤ n
  | 0, _, _, _, h => by simp [readF] at h
  | f + 1, [], _, _, h => by simp [readF] at h
  | f + 1, c :: l, n, r, h => by
    unfold readF at h
    split at h
    · split at h
      · cases h
      · rename_i hz
        simp only [Option.some.injEq, Prod.mk.injEq] at h
        simp at hz; omega
    · rcases hq : readF f false l with _ | ⟨m, r'⟩
      · rw [hq] at h; cases h
      · rw [hq] at h
        simp only [Option.some.injEq, Prod.mk.injEq] at h
        have := readF_pos f l m r' hq
        omega
theorem readF_num : ∀ (f : Nat) (b : Bool) (l : List UInt8) (n : Nat) (r : List UInt8), readF f b l = some (n, r) → l = numF f n ++ r ∧ n < 128 ^ f
  | 0, _, _, _, _, h => by simp [readF] at h
  | f + 1, _, [], _, _, h => by simp [readF] at h
  | f + 1, b, c :: l, n, r, h => by
    have hc : c.toNat < 256 := c.toNat_lt
    unfold readF at h
    split at h
    · rename_i hlt
      split at h
      · cases h
      · simp only [Option.some.injEq, Prod.mk.injEq] at h
        obtain ⟨rfl, rfl⟩ := h
        refine ⟨?_, ?_⟩
        · rw [numF_small hlt]; simp
        · rw [Nat.pow_succ]; have : 0 < 128 ^ f := Nat.pow_pos (by omega); omega
    · rename_i hge
      rcases hq : readF f false l with _ | ⟨m, r'⟩
      · rw [hq] at h; cases h
      · rw [hq] at h
        simp only [Option.some.injEq, Prod.mk.injEq] at h
        obtain ⟨rfl, rfl⟩ := h
        obtain ⟨h1, h2⟩ := readF_num f false l m r' hq
        have h3 := readF_pos f l m r' hq
        refine ⟨?_, ?_⟩
        · rw [numF_more (by omega), List.cons_append]
          rw [show (c.toNat - 128 + 128 * m) / 128 = m by omega, show 128 + (c.toNat - 128 + 128 * m) % 128 = c.toNat by omega, ← h1]
          simp
        · rw [Nat.pow_succ]; omega
theorem numF_fuel : ∀ (f g n : Nat), 0 < f → f ≤ g → n < 128 ^ f → numF g n = numF f n
  | 0, _, _, h, _, _ => by omega
  | f + 1, 0, _, _, h, _ => by omega
  | f + 1, g + 1, n, _, h, hn => by
    by_cases hs : n < 128
    · rw [numF_small hs, numF_small hs]
    · rw [numF_more (by omega), numF_more (by omega)]
      rw [Nat.pow_succ] at hn
      have hf : 0 < f := by
        rcases Nat.eq_zero_or_pos f with h0 | h0
        · subst h0; simp at hn; omega
        · exact h0
      rw [numF_fuel f g (n / 128) hf (by omega) (Nat.div_lt_of_lt_mul (by omega))]
theorem readNum_num {l : List UInt8} {n : Nat} {r : List UInt8} (h : readNum l = some (n, r)) : l = num n ++ r := by
  obtain ⟨h1, h2⟩ := readF_num 9 true l n r h
  rw [h1, num, numF_fuel 9 10 n (by omega) (by omega) h2]
theorem readTx_text {l t r : List UInt8} (h : readTx l = some (t, r)) : l = text t ++ r := by
  unfold readTx at h
  rcases hq : readNum l with _ | ⟨n, q⟩
  · rw [hq] at h; cases h
  · rw [hq] at h
    simp only at h
    split at h
    · rename_i hle
      simp only [Option.some.injEq, Prod.mk.injEq] at h
      obtain ⟨rfl, rfl⟩ := h
      rw [readNum_num hq, text, List.length_take, Nat.min_eq_left hle, List.append_assoc, List.take_append_drop]
    · cases h
theorem letterOf_kind {c : UInt8} (h : 1 ≤ letterKind c) : letterOf (letterKind c) = c := by
  rw [letterKind_eq] at h ⊢
  split at h
  · rename_i hc; rw [if_pos hc]; subst hc; decide
  · rename_i h1
    rw [if_neg h1]
    split at h
    · rename_i hc; rw [if_pos hc]; subst hc; decide
    · rename_i h2
      rw [if_neg h2]
      split at h
      · rename_i hc; rw [if_pos hc]; subst hc; decide
      · omega
theorem mk_toList (l : List UInt8) : (⟨l.toArray⟩ : ByteArray).toList = l := by rw [ByteArray.toList_eq]
/- what OneWay says of what was read -/
def OneWayB (v : Int) (s : List UInt8) (e : Ev) : Prop :=
  if v = 1 ∧ e.task.toList = [45] then (encB v e).2 = 2 ∧ ∃ c, s = c :: 0 :: e.body.toList
  else encB v e = (s, 0)
theorem dash_goes {e : Ev} (h : e.task.toList = [45]) : goesB 1 e = false := by
  simp [goesB, fitsB, dashB, h]
theorem rd_oneWay {v : Int} {s : List UInt8} (hv : isVer v = true) (h : (rdB v s).2 = true) : OneWayB v s (rdB v s).1 := by
  by_cases h1 : v = 1
  · subst h1
    rw [rdB, if_pos rfl] at h ⊢
    match s, h with
    | [], h => simp [rdLetter] at h
    | c :: r, h =>
      rcases hq : readTx r with _ | ⟨t, b⟩
      · simp [rdLetter, hq] at h
      · have htx := readTx_text hq
        by_cases ht : t = []
        · simp only [rdLetter, hq, if_pos ht] at h ⊢
          have hd : (⟨#[45]⟩ : ByteArray).toList = [45] := by rw [ByteArray.toList_eq]
          rw [OneWayB, if_pos ⟨rfl, hd⟩]
          refine ⟨?_, c, ?_⟩
          · rw [encB, if_neg (by simp [hv]), if_pos (dash_goes hd)]
          · rw [htx, ht]
            show c :: (text [] ++ b) = c :: 0 :: (⟨b.toArray⟩ : ByteArray).toList
            rw [mk_toList]; rfl
        · simp only [rdLetter, hq, if_neg ht] at h ⊢
          have hg := goes_one h
          have hk := is_known (goes_is h)
          have hnd : ¬ (⟨t.toArray⟩ : ByteArray).toList = [45] := by
            have := hg.2.2.2
            simpa [dashB] using this
          rw [OneWayB, if_neg (by rintro ⟨_, h2⟩; exact hnd h2)]
          rw [encB, if_neg (by simp [hv]), if_neg (by simp [h]), if_pos rfl, letterB]
          simp only
          rw [letterOf_kind hk.k1, htx]
          rfl
  · rw [rdB, if_neg h1] at h ⊢
    simp only [okOf, Bool.and_eq_true, decide_eq_true_eq, beq_iff_eq] at h
    rw [OneWayB, if_neg (by rintro ⟨h2, _⟩; exact h1 h2)]
    exact Prod.ext h.2 h.1
theorem first_two : encB 2 ⟨4, ⟨#[45]⟩, 0, ⟨#[]⟩, []⟩ = ([1, 3, 2, 1, 45], 0) := by decide +kernel
theorem pick_neg {c n : Int} (h0 : -9223372036854775808 ≤ c) (hc : c < 0) (hn : 0 < n) : 0 ≤ (wrap64 (-wrap64 (c + 1))).tmod n ∧ (wrap64 (-wrap64 (c + 1))).tmod n < n := by
  have e1 : wrap64 (c + 1) = c + 1 := by unfold wrap64; omega
  have e2 : wrap64 (-(c + 1)) = -(c + 1) := by unfold wrap64; omega
  rw [e1, e2]
  exact ⟨Int.tmod_nonneg _ (by omega), Int.tmod_lt_of_pos _ hn⟩
end Chron
