/- Events as a text, as plain functions: no program is named here. -/
import Derived.Test.YtodlcnbknjldnaaDoorQ
import Derived.Lib.ItoaNum
namespace Chron
open Go Go.RowKit
def escB (c : UInt8) : List UInt8 := if c = 34 ∨ c = 92 then [92, c] else [c]
def inQ (s : List UInt8) : List UInt8 := s.flatMap escB
def qB (s : List UInt8) : List UInt8 := 34 :: (inQ s ++ [34])
theorem escB_len (c : UInt8) : (escB c).length ≤ 2 := by unfold escB; split <;> simp
theorem inQ_len (s : List UInt8) : (inQ s).length ≤ 2 * s.length := by
  induction s with
  | nil => simp [inQ]
  | cons c s ih => have := escB_len c; simp only [inQ, List.flatMap_cons, List.length_append, List.length_cons] at *; omega
theorem qB_len (s : List UInt8) : (qB s).length ≤ 2 * s.length + 2 := by have := inQ_len s; simp [qB]; omega
theorem inQ_take (s : ByteArray) (k : Nat) (h : k < s.size) : inQ (s.data.toList.take (k + 1)) = inQ (s.data.toList.take k) ++ escB s[k] := by
  rw [take_snoc s k h, inQ, inQ, List.flatMap_append]; simp
theorem esc_yes {c : UInt8} (h : (c.toNat : Int) = 34 ∨ (c.toNat : Int) = 92) : escB c = [92, c] := by
  have : c = 34 ∨ c = 92 := by
    rcases h with h | h
    · exact .inl (UInt8.toNat_inj.1 (by simpa using (by omega : c.toNat = 34)))
    · exact .inr (UInt8.toNat_inj.1 (by simpa using (by omega : c.toNat = 92)))
  simp [escB, this]
theorem esc_no {c : UInt8} (h1 : ¬ (c.toNat : Int) = 34) (h2 : ¬ (c.toNat : Int) = 92) : escB c = [c] := by
  have : ¬ (c = 34 ∨ c = 92) := by
    rintro (rfl | rfl)
    · exact h1 rfl
    · exact h2 rfl
  simp [escB, this]
/- texts with a comma between two -/
def jn : List (List UInt8) → List UInt8
  | [] => []
  | x :: r => x ++ r.flatMap (fun y => 44 :: y)
theorem jn_snoc {l : List (List UInt8)} (h : l ≠ []) (y : List UInt8) : jn (l ++ [y]) = jn l ++ 44 :: y := by
  match l, h with
  | x :: r, _ => simp [jn]
theorem jn_one (y : List UInt8) : jn [y] = y := by simp [jn]
theorem jn_len {l : List (List UInt8)} {m : Nat} (h : ∀ x ∈ l, x.length ≤ m) : (jn l).length ≤ l.length * (m + 1) := by
  match l with
  | [] => simp [jn]
  | x :: r =>
    have hr : ∀ r : List (List UInt8), (∀ y ∈ r, y.length ≤ m) → (r.flatMap (fun y => (44 : UInt8) :: y)).length ≤ r.length * (m + 1) := by
      intro r
      induction r with
      | nil => simp
      | cons y r ih =>
        intro h
        have h1 := h y (by simp)
        have h2 := ih (fun z hz => h z (by simp [hz]))
        simp only [List.flatMap_cons, List.length_append, List.length_cons]
        rw [Nat.add_mul]
        omega
    have h1 := h x (by simp)
    have h2 := hr r (fun y hy => h y (by simp [hy]))
    simp only [jn, List.length_append, List.length_cons]
    rw [Nat.add_mul]
    omega
theorem jn_take_zero {l : List (List UInt8)} {y : List UInt8} (h : l[0]? = some y) : jn (l.take 1) = y := by
  match l, h with
  | x :: r, h => simp at h; subst h; simp [jn]
theorem jn_take {l : List (List UInt8)} {k : Nat} {y : List UInt8} (h : l[k]? = some y) (h0 : 0 < k) : jn (l.take (k + 1)) = jn (l.take k) ++ 44 :: y := by
  have hk := (List.getElem?_eq_some_iff.1 h).1
  have hy : l[k] = y := by rw [List.getElem?_eq_getElem hk] at h; exact Option.some.inj h
  rw [List.take_succ_eq_append_getElem hk, hy, jn_snoc]
  intro e
  have := congrArg List.length e
  rw [List.length_take, List.length_nil] at this
  omega
def listB (l : List (List UInt8)) : List UInt8 := 91 :: (jn l ++ [93])
def wordB (k : Int) : List UInt8 := if k = 1 then [98, 101, 103, 117, 110] else if k = 2 then [100, 111, 110, 101] else if k = 3 then [102, 97, 105, 108, 101, 100] else [110, 111, 116, 101, 100]
def lit1 : List UInt8 := [123, 34, 98, 111, 100, 121, 34, 58]
def lit2 : List UInt8 := [44, 34, 107, 105, 110, 100, 34, 58]
def lit3 : List UInt8 := [44, 34, 116, 97, 103, 115, 34, 58]
def lit4 : List UInt8 := [44, 34, 116, 97, 115, 107, 34, 58]
def lit5 : List UInt8 := [44, 34, 116, 105, 109, 101, 34, 58]
def tagsT (ts : List ByteArray) : List (List UInt8) := ts.map fun t => qB t.data.toList
def tellB (e : Ev) : List UInt8 := lit1 ++ qB e.body.data.toList ++ lit2 ++ qB (wordB e.kind) ++ lit3 ++ listB (tagsT e.tags) ++ lit4 ++ qB e.task.data.toList ++ lit5 ++ Lib.itoa e.time ++ [125]
def expB (l : List Ev) : List UInt8 × Int := if 200 < l.length then ([], 5) else if l.all isB then (listB (l.map tellB), 0) else ([], 2)
theorem tagsT_at {ts : List ByteArray} {k : Nat} (h : k < ts.length) : (tagsT ts)[k]? = some (qB (ts[k]?.getD ByteArray.empty).data.toList) := by simp [tagsT, h]
theorem tagsT_len (ts : List ByteArray) : (tagsT ts).length = ts.length := by simp [tagsT]
theorem tagsT_short {ts : List ByteArray} (h : ∀ t ∈ ts, t.size ≤ 60) : ∀ x ∈ tagsT ts, x.length ≤ 122 := by
  intro x hx
  simp only [tagsT, List.mem_map] at hx
  obtain ⟨t, ht, rfl⟩ := hx
  have := qB_len t.data.toList
  have := h t ht
  simp at *
  omega
theorem digits_len (f : Nat) : ∀ u, u < 10 ^ f → (Lib.decDigits u).length ≤ max f 1 := by
  induction f with
  | zero => intro u h; rw [Lib.decDigits, dif_pos (by omega)]; simp
  | succ f ih =>
    intro u h
    rw [Lib.decDigits]
    split
    · simp only [List.length_singleton]; omega
    · have := ih (u / 10) (by rw [Nat.pow_succ] at h; exact Nat.div_lt_of_lt_mul (by omega))
      rename_i h9
      rcases Nat.eq_zero_or_pos f with rfl | hf
      · simp at h; omega
      · simp; omega
theorem itoa_len {m : Int} (h0 : 0 ≤ m) (h1 : m ≤ 1125899906842624) : (Lib.itoa m).length ≤ 16 := by
  have := digits_len 16 m.toNat (by omega)
  rw [Lib.itoa, if_neg (by omega)]; omega
theorem word_len (k : Int) : (wordB k).length ≤ 6 := by unfold wordB; split; · simp
                                                        split; · simp
                                                        split <;> simp
theorem word_q (k : Int) : qB (wordB k) = 34 :: (wordB k ++ [34]) := by
  unfold wordB; split; · decide
  split; · decide
  split <;> decide
theorem tell_len {e : Ev} (h : isB e = true) : (tellB e).length ≤ 1000 := by
  obtain ⟨h1, h4, htk, _, ht0, ht1, hbd, hfew, hlines⟩ := is_known h
  have a1 := qB_len e.body.data.toList
  have a2 := qB_len e.task.data.toList
  have a3 := qB_len (wordB e.kind)
  have a4 := word_len e.kind
  have a5 := itoa_len ht0 ht1
  have a6 := jn_len (tagsT_short hlines)
  rw [tagsT_len] at a6
  have a7 : e.tags.length * 123 ≤ 4 * 123 := Nat.mul_le_mul_right _ hfew
  have b1 : e.body.data.toList.length = e.body.size := by simp
  have b2 : e.task.data.toList.length = e.task.size := by simp
  rw [b1] at a1
  rw [b2] at a2
  simp only [tellB, listB, List.length_append, List.length_cons, List.length_nil, lit1, lit2, lit3, lit4, lit5] at *
  omega
end Chron
