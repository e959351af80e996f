/- Plain facts: the events that Back makes. -/
import Derived.Test.YtdjllnhahhjgmaaV
namespace Chron
open Go Go.RowKit
def lineN (s : ByteArray) (n : Nat) : Prop := s.size ≤ n ∧ s.data.toList.all byteOk = true
theorem lineN_line {s : ByteArray} {n : Nat} (h : lineN s n) (hn : n ≤ 60) : lineB s = true := by
  simp only [lineB, h.2, Bool.and_true, decide_eq_true_eq]; exact Nat.le_trans h.1 hn
def TagsI (acc : List ByteArray) : Prop := ∀ i, (h : i < acc.length) → ∃ r : List UInt8, acc[i].data.toList = UInt8.ofNat (97 + i) :: r ∧ r.length ≤ 20 ∧ r.all byteOk = true
theorem tagsI_push {acc : List ByteArray} {x : ByteArray} (h : TagsI acc) (hx : ∃ r : List UInt8, x.data.toList = UInt8.ofNat (97 + acc.length) :: r ∧ r.length ≤ 20 ∧ r.all byteOk = true) : TagsI (acc ++ [x]) := by
  intro i hi
  by_cases h1 : i < acc.length
  · rw [List.getElem_append_left h1]; exact h i h1
  · have : i = acc.length := by simp at hi; omega
    subst this
    rw [List.getElem_append_right (by omega)]
    simpa using hx
theorem tagsI_ok {acc : List ByteArray} (h : TagsI acc) (h4 : acc.length ≤ 4) : tagsB acc = true := by
  refine tags_all (k := acc.length) h4 (Nat.le_refl _) ?_
  intro j hj
  obtain ⟨r, h1, h2, h3⟩ := h j hj
  have e0 : acc[j]?.getD ByteArray.empty = acc[j] := by rw [List.getElem?_eq_getElem hj]; rfl
  have hb : byteOk (UInt8.ofNat (97 + j)) = true := by simp [byteOk]; omega
  have hname : nameB acc[j] = true := by
    rw [nameB, ByteArray.toList_eq, h1]
    have hsz : acc[j].size = r.length + 1 := by
      have : acc[j].data.toList.length = acc[j].size := by simp
      rw [← this, h1]; rfl
    simp only [List.isEmpty_cons, Bool.not_false, Bool.true_and, lineB, h1, List.all_cons, hb, h3, hsz, Bool.and_true, decide_eq_true_eq]
    omega
  rw [tagOk, e0, hname, Bool.true_and, Bool.or_eq_true]
  rcases Nat.eq_zero_or_pos j with hj0 | hj0
  · left; simp [hj0]
  · right
    obtain ⟨r', g1, _, _⟩ := h (j - 1) (by omega)
    have e1 : acc[j - 1]?.getD ByteArray.empty = acc[j - 1] := by rw [List.getElem?_eq_getElem (by omega)]; rfl
    rw [e1, ByteArray.toList_eq, ByteArray.toList_eq, h1, g1, Op.bytesLess]
    have : UInt8.ofNat (97 + (j - 1)) < UInt8.ofNat (97 + j) := by
      rw [UInt8.lt_iff_toNat_lt]; simp; omega
    simp only [this, decide_true, Bool.true_or]
theorem task_name {s : ByteArray} {n : Nat} (h : lineN s n) (hn : n ≤ 40) : nameB (⟨#[116]⟩ ++ s) = true ∧ dashB (⟨#[116]⟩ ++ s) = false := by
  have e : (⟨#[116]⟩ ++ s : ByteArray).data.toList = 116 :: s.data.toList := by obtain ⟨⟨s⟩⟩ := s; simp
  have hsz : (⟨#[116]⟩ ++ s : ByteArray).size = s.size + 1 := by
    rw [ByteArray.size_append]; show 1 + s.size = _; omega
  refine ⟨?_, ?_⟩
  · rw [nameB, ByteArray.toList_eq, e]
    have hb : byteOk 116 = true := by decide
    have hl : s.size + 1 ≤ 60 := by have := h.1; omega
    simp only [lineB, e, hsz, List.all_cons, hb, h.2]
    simp; omega
  · rw [dashB, ByteArray.toList_eq, e]; simp
theorem event_goes {v k : Int} {e : Ev} {s b : ByteArray} (hs : lineN s 40) (hb : lineN b 60) (ht : e.task = ⟨#[116]⟩ ++ s) (hbd : e.body = b) (h1 : 1 ≤ e.kind) (h4 : e.kind ≤ 4)
    (hm0 : 0 ≤ e.time) (hm1 : e.time < 1125899906842625) (htg : tagsB e.tags = true) (hv : 1 ≤ v) (hvk : v ≤ k) (hk : k ≤ 3) (hone : v = 1 → e.kind ≤ 3 ∧ e.time = 0) (htwo : v ≤ 2 → e.tags = []) : goesB k e = true := by
  have hn := task_name hs (Nat.le_refl _)
  have hl := lineN_line hb (Nat.le_refl _)
  have hi : isB e = true := by
    simp only [isB, Bool.and_eq_true, decide_eq_true_eq]
    rw [ht, hbd]
    exact ⟨h1, h4, hn.1, hm0, by omega, hl, htg⟩
  have hf : fitsB k e = true := by
    simp only [fitsB, Bool.and_eq_true, Bool.or_eq_true, Bool.not_eq_true', Bool.and_eq_false_iff, decide_eq_true_eq, decide_eq_false_iff_not]
    refine ⟨?_, ?_⟩
    · by_cases h : v ≤ 2
      · right; rw [htwo h]; simp
      · left; omega
    · by_cases h : 1 < k
      · exact Or.inl h
      · have hv1 : v = 1 := by omega
        have h3 := hone hv1
        exact Or.inr ⟨h3.2, by omega, by rw [ht]; exact hn.2⟩
  simp only [goesB, Bool.and_eq_true]
  exact ⟨by simp [isVer]; omega, hi, hf⟩
end Chron
