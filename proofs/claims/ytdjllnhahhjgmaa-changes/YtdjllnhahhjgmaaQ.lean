/- The bytes of events, as plain functions. -/
import Derived.Test.YtdjllnhahhjgmaaP
namespace Chron
open Go Go.RowKit
/- the bytes of an event -/
def timePart (m : Int) : List UInt8 := if m = 0 then [] else num 3 ++ num m.toNat
def bodyPart (b : ByteArray) : List UInt8 := if b.toList = [] then [] else num 4 ++ text b.data.toList
def tagPart (t : ByteArray) : List UInt8 := num 5 ++ text t.data.toList
def tagParts (ts : List ByteArray) : List UInt8 := (ts.map tagPart).flatten
def front (j : Nat) (t : ByteArray) : List UInt8 := num 1 ++ num j ++ (num 2 ++ text t.data.toList)
def fieldsB (v : Int) (e : Ev) : List UInt8 := front (e.kind - shift v).toNat e.task ++ timePart e.time ++ bodyPart e.body ++ tagParts e.tags
def Lines (ts : List ByteArray) : Prop := ∀ t ∈ ts, t.size ≤ 60
theorem text_len (l : List UInt8) : (text l).length ≤ l.length + 10 := by have := num_len l.length; simp [text]; omega
theorem front_len (j : Nat) (t : ByteArray) (h : t.size ≤ 60) : (front j t).length ≤ 100 := by
  have h1 := num_len 1; have h2 := num_len 2; have h3 := num_len j; have h4 := text_len t.data.toList
  have h5 : t.data.toList.length = t.size := by simp
  simp only [front, List.length_append]; omega
theorem timePart_len (m : Int) : (timePart m).length ≤ 20 := by
  have h1 := num_len 3; have h2 := num_len m.toNat
  unfold timePart; split <;> simp; omega
theorem bodyPart_len (b : ByteArray) (h : b.size ≤ 60) : (bodyPart b).length ≤ 80 := by
  have h1 := num_len 4; have h4 := text_len b.data.toList
  have h5 : b.data.toList.length = b.size := by simp
  unfold bodyPart; split
  · simp
  · simp only [List.length_append]; omega
theorem tagPart_len (t : ByteArray) (h : t.size ≤ 60) : (tagPart t).length ≤ 80 := by
  have h1 := num_len 5; have h4 := text_len t.data.toList
  have h5 : t.data.toList.length = t.size := by simp
  simp only [tagPart, List.length_append]; omega
theorem tagParts_len : ∀ (ts : List ByteArray), Lines ts → (tagParts ts).length ≤ 80 * ts.length
  | [], _ => by simp [tagParts]
  | t :: ts, h => by
    have h1 := tagPart_len t (h t (by simp))
    have h2 := tagParts_len ts (fun x hx => h x (by simp [hx]))
    simp only [tagParts, List.map_cons, List.flatten_cons, List.length_append, List.length_cons] at h2 ⊢
    omega
theorem tagParts_snoc (ts : List ByteArray) (k : Nat) (h : k < ts.length) : tagParts (ts.take (k + 1)) = tagParts (ts.take k) ++ tagPart (ts[k]?.getD ByteArray.empty) := by
  rw [List.take_succ_eq_append_getElem h]
  simp only [tagParts, List.map_append, List.map_cons, List.map_nil, List.flatten_append, List.flatten_cons, List.flatten_nil, List.append_nil]
  rw [List.getElem?_eq_getElem h]; rfl
theorem Lines.take {ts : List ByteArray} (h : Lines ts) (k : Nat) : Lines (ts.take k) := fun t ht => h t (List.mem_of_mem_take ht)
theorem Lines.get {ts : List ByteArray} (h : Lines ts) {i : Nat} (hi : i < ts.length) : (ts[i]?.getD ByteArray.empty).size ≤ 60 := by
  rw [List.getElem?_eq_getElem hi]; exact h _ (List.getElem_mem hi)
def letterOf (k : Int) : UInt8 := if k = 1 then 98 else if k = 2 then 100 else 102
def letterB (e : Ev) : List UInt8 := letterOf e.kind :: text e.task.data.toList ++ e.body.data.toList
def encB (v : Int) (e : Ev) : List UInt8 × Int :=
  if isVer v = false then ([], 1) else if goesB v e = false then ([], 2) else if v = 1 then (letterB e, 0) else (fieldsB v e, 0)
theorem letter_cases {k : Int} (h1 : 1 ≤ k) (h4 : k ≤ 4) (h : ¬ k = 4) : k = 1 ∧ letterOf k = 98 ∨ k = 2 ∧ letterOf k = 100 ∨ k = 3 ∧ letterOf k = 102 := by
  have : k = 1 ∨ k = 2 ∨ k = 3 := by omega
  rcases this with rfl | rfl | rfl <;> simp [letterOf]
theorem letter_eq {e b : ByteArray} {c : UInt8} {x : List UInt8} (he : e.data.toList = [c]) : e ++ ⟨x.toArray⟩ ++ b = ⟨(c :: x ++ b.data.toList).toArray⟩ := by
  apply bytes_inj
  obtain ⟨⟨e⟩⟩ := e; obtain ⟨⟨b⟩⟩ := b
  simp at he; subst he; simp
/- what is known of an event -/
structure Known (e : Ev) : Prop where
  k1 : 1 ≤ e.kind
  k4 : e.kind ≤ 4
  task : e.task.size ≤ 60
  named : e.task.toList ≠ []
  t0 : 0 ≤ e.time
  t1 : e.time ≤ 1125899906842624
  body : e.body.size ≤ 60
  few : e.tags.length ≤ 4
  lines : Lines e.tags
theorem line_size {s : ByteArray} (h : lineB s = true) : s.size ≤ 60 := by simp [lineB] at h; exact h.1
theorem name_size {s : ByteArray} (h : nameB s = true) : s.size ≤ 60 := by simp only [nameB, Bool.and_eq_true] at h; exact line_size h.2
theorem name_ne {s : ByteArray} (h : nameB s = true) : s.toList ≠ [] := by simp [nameB] at h; exact h.1
theorem tags_known {ts : List ByteArray} (h : tagsB ts = true) : ts.length ≤ 4 ∧ Lines ts := by
  simp only [tagsB, Bool.and_eq_true, decide_eq_true_eq, List.all_eq_true, List.mem_range] at h
  refine ⟨h.1, fun t ht => ?_⟩
  obtain ⟨i, hi, rfl⟩ := List.getElem_of_mem ht
  have := h.2 i hi
  simp only [tagOk, Bool.and_eq_true] at this
  have h1 := name_size this.1
  rw [List.getElem?_eq_getElem hi] at h1
  exact h1
theorem is_known {e : Ev} (h : isB e = true) : Known e := by
  simp only [isB, Bool.and_eq_true, decide_eq_true_eq] at h
  obtain ⟨h1, h2, h3, h4, h5, h6, h7⟩ := h
  exact ⟨h1, h2, name_size h3, name_ne h3, h4, h5, line_size h6, (tags_known h7).1, (tags_known h7).2⟩
theorem goes_is {v : Int} {e : Ev} (h : goesB v e = true) : isB e = true := by simp only [goesB, Bool.and_eq_true] at h; exact h.2.1
theorem goes_ver {v : Int} {e : Ev} (h : goesB v e = true) : isVer v = true := by simp only [goesB, Bool.and_eq_true] at h; exact h.1
theorem goes_one {e : Ev} (h : goesB 1 e = true) : ¬ e.kind = 4 ∧ e.time = 0 ∧ e.tags.length = 0 ∧ dashB e.task = false := by
  simp [goesB, fitsB] at h
  obtain ⟨_, _, h1, h2, h3, h4⟩ := h
  exact ⟨h3, h2, by rw [h1]; rfl, h4⟩
theorem time_small {m : Int} (h : m ≤ 1125899906842624) : m.toNat < 128 ^ 9 := by omega
end Chron
