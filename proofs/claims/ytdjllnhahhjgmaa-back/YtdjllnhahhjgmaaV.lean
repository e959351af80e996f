/- Plain facts: what is written is read. -/
import Derived.Test.YtdjllnhahhjgmaaU
namespace Chron
open Go Go.RowKit
theorem readF_of : ∀ (f : Nat) (b : Bool) (n : Nat) (r : List UInt8), 0 < f → n < 128 ^ f → (b = true ∨ 1 ≤ n) → readF f b (numF f n ++ r) = some (n, r)
  | 0, _, _, _, h, _, _ => by omega
  | f + 1, b, n, r, _, hn, hb => by
    by_cases hs : n < 128
    · rw [numF_small hs]
      have e : (UInt8.ofNat n).toNat = n := by simp; omega
      simp only [List.cons_append, List.nil_append, readF, e]
      rw [if_pos hs, if_neg]
      rintro ⟨h0, hf⟩
      rcases hb with hb | hb
      · rw [hb] at hf; cases hf
      · omega
    · rw [numF_more (by omega)]
      have e : (UInt8.ofNat (128 + n % 128)).toNat = 128 + n % 128 := by simp; omega
      rw [Nat.pow_succ] at hn
      have hf : 0 < f := by
        rcases Nat.eq_zero_or_pos f with h0 | h0
        · subst h0; simp at hn; omega
        · exact h0
      simp only [List.cons_append, readF, e]
      rw [if_neg (by omega), readF_of f false (n / 128) r hf (Nat.div_lt_of_lt_mul (by omega)) (Or.inr (by omega))]
      simp only [Option.some.injEq, Prod.mk.injEq, and_true]
      omega
theorem readNum_of {n : Nat} (hn : n < 128 ^ 9) (r : List UInt8) : readNum (num n ++ r) = some (n, r) := by
  rw [num, numF_fuel 9 10 n (by omega) (by omega) hn]
  exact readF_of 9 true n r (by omega) hn (Or.inl rfl)
theorem readTx_of {t : List UInt8} (ht : t.length ≤ 60) (r : List UInt8) : readTx (text t ++ r) = some (t, r) := by
  rw [readTx, text, List.append_assoc, readNum_of (by omega)]
  simp only
  rw [if_pos (by simp)]
  simp
theorem num_tag {tag : Nat} (h : tag ≤ 5) : num tag = [UInt8.ofNat tag] := by rw [num, numF_small (by omega)]
theorem hp_yes {tag : Nat} (r : List UInt8) : hp tag (num tag ++ r) = true ∧ nx tag (num tag ++ r) = r := by
  have h1 : Lib.hasPrefix (num tag ++ r) (num tag) = true := by
    rw [Lib.hasPrefix, List.isPrefixOf_iff_prefix]; exact List.prefix_append _ _
  refine ⟨h1, ?_⟩
  rw [nx, Lib.trimPrefix, if_pos h1]; simp
theorem hp_no {tag : Nat} {s : List UInt8} (h : hp tag s = false) : nx tag s = s := by
  rw [nx, Lib.trimPrefix, if_neg]; rw [hp] at h; simp [h]
theorem hp_other {tag other : Nat} (h1 : tag ≤ 5) (h2 : other ≤ 5) (hne : tag ≠ other) (r : List UInt8) : hp tag (num other ++ r) = false := by
  rw [hp, Lib.hasPrefix, num_tag h1, num_tag h2]
  have : UInt8.ofNat tag ≠ UInt8.ofNat other := by
    intro h
    have := congrArg UInt8.toNat h
    simp at this
    omega
  show ((UInt8.ofNat tag == UInt8.ofNat other) && _) = false
  rw [beq_false_of_ne this]; rfl
theorem hp_nil {tag : Nat} (h1 : tag ≤ 5) : hp tag [] = false := by rw [hp, Lib.hasPrefix, num_tag h1]; rfl
theorem tagsF_of : ∀ (f : Nat) (ts : List ByteArray), ts.length ≤ f → Lines ts → tagsF f (tagParts ts) = ts
  | 0, ts, h, _ => by
    have : ts = [] := List.length_eq_zero_iff.1 (by omega)
    subst this; rfl
  | f + 1, [], _, _ => by
    rw [tagsF, if_neg]; rw [show tagParts [] = [] from rfl, hp_nil (by omega)]; simp
  | f + 1, t :: ts, h, hl => by
    have ht : t.data.toList.length ≤ 60 := by have := hl t (by simp); simpa using this
    have e : tagParts (t :: ts) = num 5 ++ (text t.data.toList ++ tagParts ts) := by simp [tagParts, tagPart]
    have ih := tagsF_of f ts (by simpa using h) (fun x hx => hl x (by simp [hx]))
    rw [tagsF, e, if_pos (hp_yes _).1, (hp_yes _).2, txOf, txRest, readTx_of ht]
    simp only
    rw [ih]
/- what lies behind the time, the body, and the tags -/
theorem noTime {ts : List ByteArray} {b : ByteArray} : hp 3 (bodyPart b ++ tagParts ts) = false := by
  unfold bodyPart
  split
  · cases ts with
    | nil => exact hp_nil (by omega)
    | cons t ts => rw [List.nil_append, show tagParts (t :: ts) = num 5 ++ (text t.data.toList ++ tagParts ts) by simp [tagParts, tagPart]]; exact hp_other (by omega) (by omega) (by omega) _
  · rw [List.append_assoc]; exact hp_other (by omega) (by omega) (by omega) _
theorem noBody {ts : List ByteArray} : hp 4 (tagParts ts) = false := by
  cases ts with
  | nil => exact hp_nil (by omega)
  | cons t ts => rw [show tagParts (t :: ts) = num 5 ++ (text t.data.toList ++ tagParts ts) by simp [tagParts, tagPart]]; exact hp_other (by omega) (by omega) (by omega) _
theorem mk_data (s : ByteArray) : (⟨s.data.toList.toArray⟩ : ByteArray) = s := rfl
theorem time_of {m : Int} {r : List UInt8} (h0 : 0 ≤ m) (h1 : m ≤ 1125899906842624) (hr : hp 3 r = false) : timeOf (timePart m ++ r) = m ∧ behindNum 3 (timePart m ++ r) = r := by
  by_cases hm : m = 0
  · rw [timePart, if_pos hm, List.nil_append, timeOf, behindNum, if_neg (by simp [hr]), if_neg (by simp [hr]), hp_no hr]; exact ⟨hm.symm, rfl⟩
  · rw [timePart, if_neg hm, List.append_assoc, timeOf, behindNum, if_pos (hp_yes _).1, if_pos (hp_yes _).1, (hp_yes _).2, numOf, numRest, readNum_of (time_small h1)]
    exact ⟨by simp only; omega, rfl⟩
theorem body_of {b : ByteArray} {r : List UInt8} (hb : b.size ≤ 60) (hr : hp 4 r = false) : textOf 4 (bodyPart b ++ r) = b ∧ behindText 4 (bodyPart b ++ r) = r := by
  by_cases hm : b.toList = []
  · rw [bodyPart, if_pos hm, List.nil_append, textOf, behindText, if_neg (by simp [hr]), if_neg (by simp [hr]), hp_no hr]
    refine ⟨?_, rfl⟩
    apply bytes_inj; rw [ByteArray.toList_eq] at hm; rw [hm]
  · rw [bodyPart, if_neg hm, List.append_assoc, textOf, behindText, if_pos (hp_yes _).1, if_pos (hp_yes _).1, (hp_yes _).2, txOf, txRest, readTx_of (by simpa using hb)]
    exact ⟨rfl, rfl⟩
theorem rdFields_of {v : Int} {e : Ev} (hk : Known e) : rdFields v (fieldsB v e) = e := by
  obtain ⟨k, t, m, b, ts⟩ := e
  obtain ⟨h1, h4, ht, _, h0, hm, hb, hf, hl⟩ := hk
  simp only at h1 h4 ht h0 hm hb hf hl
  have hsh := shift_bd v
  have e1 : fieldsB v ⟨k, t, m, b, ts⟩ = num 1 ++ (num (k - shift v).toNat ++ (num 2 ++ (text t.data.toList ++ (timePart m ++ (bodyPart b ++ tagParts ts))))) := by
    simp [fieldsB, front, List.append_assoc]
  have a1 : behindNum 1 (fieldsB v ⟨k, t, m, b, ts⟩) = num 2 ++ (text t.data.toList ++ (timePart m ++ (bodyPart b ++ tagParts ts))) := by
    rw [e1, behindNum, if_pos (hp_yes _).1, (hp_yes _).2, numRest, readNum_of (by omega)]
  have a2 : kindOf v (fieldsB v ⟨k, t, m, b, ts⟩) = k := by
    rw [e1, kindOf, if_pos (hp_yes _).1, (hp_yes _).2, numOf, readNum_of (by omega)]
    simp only
    rw [wrap_small (by omega) (by omega)]; omega
  have a3 : textOf 2 (num 2 ++ (text t.data.toList ++ (timePart m ++ (bodyPart b ++ tagParts ts)))) = t ∧ behindText 2 (num 2 ++ (text t.data.toList ++ (timePart m ++ (bodyPart b ++ tagParts ts)))) = timePart m ++ (bodyPart b ++ tagParts ts) := by
    rw [textOf, behindText, if_pos (hp_yes _).1, if_pos (hp_yes _).1, (hp_yes _).2, txOf, txRest, readTx_of (by simpa using ht)]
    exact ⟨rfl, rfl⟩
  have a4 := time_of (r := bodyPart b ++ tagParts ts) h0 hm noTime
  have a5 := body_of (r := tagParts ts) hb noBody
  have a6 := tagsF_of 4 ts hf hl
  simp only [rdFields]
  rw [a2, a1, a3.1, a3.2, a4.1, a4.2, a5.1, a5.2, a6]
theorem letterKind_of {k : Int} (h1 : 1 ≤ k) (h3 : k ≤ 4) (h4 : ¬ k = 4) : letterKind (letterOf k) = k := by
  have : k = 1 ∨ k = 2 ∨ k = 3 := by omega
  rcases this with rfl | rfl | rfl <;> decide
theorem data_nil {s : ByteArray} (h : s.toList ≠ []) : ¬ s.data.toList = [] := by rw [ByteArray.toList_eq] at h; exact h
theorem rd_of {v : Int} {e : Ev} (h : goesB v e = true) : rdB v (encB v e).1 = (e, true) := by
  have hv := goes_ver h
  have hk := is_known (goes_is h)
  by_cases h1 : v = 1
  · subst h1
    have hg := goes_one h
    obtain ⟨k, t, m, b, ts⟩ := e
    have e1 : (encB 1 ⟨k, t, m, b, ts⟩).1 = letterOf k :: (text t.data.toList ++ b.data.toList) := by
      rw [encB, if_neg (by simp [hv]), if_neg (by simp [h]), if_pos rfl]; rfl
    have htx := readTx_of (t := t.data.toList) (by have := hk.task; simpa using this) b.data.toList
    have hts : ts = [] := List.length_eq_zero_iff.1 hg.2.2.1
    have hm : m = 0 := hg.2.1
    rw [e1, rdB, if_pos rfl]
    simp only [rdLetter, htx]
    rw [if_neg (data_nil hk.named), letterKind_of hk.k1 hk.k4 hg.1]
    subst hts hm
    exact Prod.ext rfl h
  · have e1 : encB v e = (fieldsB v e, 0) := by rw [encB, if_neg (by simp [hv]), if_neg (by simp [h]), if_neg h1]
    rw [rdB, if_neg h1, okOf, e1, rdFields_of hk, e1]
    simp
theorem dec_of {v : Int} {e : Ev} (h : goesB v e = true) : (encB v e).2 = 0 ∧ decB v (encB v e).1 = (e, 0) := by
  have hv := goes_ver h
  refine ⟨?_, ?_⟩
  · rw [encB, if_neg (by simp [hv]), if_neg (by simp [h])]; split <;> rfl
  · rw [decB, if_neg (by simp [hv]), rd_of h]; simp
theorem enc_pos {v : Int} {e : Ev} (h : goesB v e = true) : 0 < (encB v e).1.length := by
  have hv := goes_ver h
  rw [encB, if_neg (by simp [hv]), if_neg (by simp [h])]
  split
  · simp [letterB]
  · simp [fieldsB, front, num_tag]
/- with a byte less it is another event, or none -/
theorem dec_less {v : Int} {e : Ev} (h : goesB v e = true) (s : List UInt8) (hs : s.length < (encB v e).1.length) : (decB v s).1 ≠ e ∧ ((decB v s).2 = 3 ∨ (decB v s).2 = 0) := by
  have hv := goes_ver h
  have hk := is_known (goes_is h)
  by_cases hr : (rdB v s).2 = true
  · have hd : decB v s = ((rdB v s).1, 0) := by rw [decB, if_neg (by simp [hv]), if_neg (by simp [hr])]
    refine ⟨?_, Or.inr (by rw [hd])⟩
    rw [hd]
    intro he
    have ho := rd_oneWay hv hr
    simp only at he
    rw [he, OneWayB] at ho
    split at ho
    · rename_i hc
      obtain ⟨hc1, hc2⟩ := hc
      subst hc1
      rw [dash_goes hc2] at h; cases h
    · rw [ho] at hs; simp at hs
  · have hd : decB v s = (zeroEv, 3) := by rw [decB, if_neg (by simp [hv]), if_pos (by simpa using hr)]
    refine ⟨?_, Or.inl (by rw [hd])⟩
    rw [hd]
    intro he
    have := hk.k1
    rw [← he] at this
    simp [zeroEv] at this
end Chron
