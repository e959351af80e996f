/- Changes between two texts as plain functions, and what a change makes of a text. -/
import Derived.Test.YtdjllnhahhjgmaaV
namespace Chron
open Go Go.RowKit
/- how many bytes two lists begin with alike -/
def pre : List UInt8 → List UInt8 → Nat
  | x :: a, y :: b => if x = y then pre a b + 1 else 0
  | _, _ => 0
theorem pre_le : ∀ (a b : List UInt8), pre a b ≤ a.length ∧ pre a b ≤ b.length
  | [], _ => by simp [pre]
  | _ :: _, [] => by simp [pre]
  | x :: a, y :: b => by
    have := pre_le a b
    simp only [pre]
    split
    · simp; omega
    · simp
theorem pre_take : ∀ (a b : List UInt8), a.take (pre a b) = b.take (pre a b)
  | [], _ => by simp [pre]
  | _ :: _, [] => by simp [pre]
  | x :: a, y :: b => by
    have := pre_take a b
    simp only [pre]
    split
    · next h => subst h; simp [this]
    · simp
theorem pre_ge : ∀ (n : Nat) (a b : List UInt8), n ≤ a.length → n ≤ b.length → a.take n = b.take n → n ≤ pre a b
  | 0, _, _, _, _, _ => Nat.zero_le _
  | n + 1, [], _, h, _, _ => by simp at h
  | n + 1, _ :: _, [], _, h, _ => by simp at h
  | n + 1, x :: a, y :: b, h1, h2, h => by
    simp at h h1 h2
    have := pre_ge n a b h1 h2 h.2
    simp only [pre, if_pos h.1]
    omega
/- n bytes have been found alike -/
structure Akin (a b : List UInt8) (n : Nat) : Prop where
  le : n ≤ a.length ∧ n ≤ b.length
  eq : pre a b = n + pre (a.drop n) (b.drop n)
theorem alike_zero (a b : List UInt8) : Akin a b 0 := ⟨⟨Nat.zero_le _, Nat.zero_le _⟩, by simp⟩
theorem alike_more {a b : List UInt8} {n : Nat} (h : Akin a b n) (h1 : n < a.length) (h2 : n < b.length) (he : a[n] = b[n]) : Akin a b (n + 1) := by
  refine ⟨⟨h1, h2⟩, ?_⟩
  rw [h.eq, List.drop_eq_getElem_cons h1, List.drop_eq_getElem_cons h2, pre, if_pos he]
  omega
theorem alike_other {a b : List UInt8} {n : Nat} (h : Akin a b n) (h1 : n < a.length) (h2 : n < b.length) (he : ¬ a[n] = b[n]) : pre a b = n := by
  rw [h.eq, List.drop_eq_getElem_cons h1, List.drop_eq_getElem_cons h2, pre, if_neg he]; rfl
theorem alike_end {a b : List UInt8} {n : Nat} (h : Akin a b n) (he : ¬ (n < a.length ∧ n < b.length)) : pre a b = n := by
  rw [h.eq]
  by_cases h1 : n < a.length
  · rw [List.drop_of_length_le (l := b) (by omega)]
    cases a.drop n <;> simp [pre]
  · rw [List.drop_of_length_le (l := a) (by omega)]; simp [pre]
/- the front and the end that two texts have alike -/
def fr (o n : List UInt8) : Nat := pre o n
def en (o n : List UInt8) : Nat := pre (o.drop (fr o n)).reverse (n.drop (fr o n)).reverse
def mid (o n : List UInt8) : List UInt8 := (n.drop (fr o n)).take (n.length - fr o n - en o n)
def makeB (o n : List UInt8) : List UInt8 × Int :=
  if 65536 < o.length ∨ 65536 < n.length then ([], 3) else (num (fr o n) ++ num (en o n) ++ mid o n, 0)
def joinB (o : List UInt8) (f e : Nat) (m : List UInt8) : List UInt8 × Int :=
  if f + e ≤ o.length ∧ f + m.length + e ≤ 65536 then (o.take f ++ m ++ o.drop (o.length - e), 0) else ([], 3)
def applyB (o c : List UInt8) : List UInt8 × Int :=
  if 65536 < o.length ∨ 65536 < c.length then ([], 3) else
  match readNum c with
  | none => ([], 3)
  | some (f, r) => match readNum r with
    | none => ([], 3)
    | some (e, m) => joinB o f e m
theorem fr_le (o n : List UInt8) : fr o n ≤ o.length ∧ fr o n ≤ n.length := pre_le o n
theorem en_le (o n : List UInt8) : en o n ≤ o.length - fr o n ∧ en o n ≤ n.length - fr o n := by
  have := pre_le (o.drop (fr o n)).reverse (n.drop (fr o n)).reverse
  simpa [en] using this
theorem take_rev (l : List UInt8) (k : Nat) : l.reverse.take k = (l.drop (l.length - k)).reverse := by
  rw [List.take_reverse]
theorem en_tail (o n : List UInt8) : o.drop (o.length - en o n) = n.drop (n.length - en o n) := by
  have h := pre_take (o.drop (fr o n)).reverse (n.drop (fr o n)).reverse
  rw [show pre (o.drop (fr o n)).reverse (n.drop (fr o n)).reverse = en o n from rfl, take_rev, take_rev, List.reverse_inj, List.drop_drop, List.drop_drop, List.length_drop, List.length_drop] at h
  have h1 := en_le o n
  have h2 := fr_le o n
  rw [show fr o n + (o.length - fr o n - en o n) = o.length - en o n by omega, show fr o n + (n.length - fr o n - en o n) = n.length - en o n by omega] at h
  exact h
theorem mid_len (o n : List UInt8) : (mid o n).length = n.length - fr o n - en o n := by
  have h1 := en_le o n
  simp [mid]
theorem num_three {k : Nat} (h : k ≤ 65536) : (num k).length ≤ 3 := by
  rw [num, numF_fuel 3 10 k (by omega) (by omega) (by omega)]
  exact numF_len 3 k
theorem make_len {o n : List UInt8} (ho : o.length ≤ 65536) (hn : n.length ≤ 65536) : (makeB o n).1.length ≤ 6 + (mid o n).length := by
  have h1 := fr_le o n
  have h2 := en_le o n
  have h3 := num_three (k := fr o n) (by omega)
  have h4 := num_three (k := en o n) (by omega)
  rw [makeB, if_neg (by omega)]
  simp
  omega
theorem make_ok {o n : List UInt8} (ho : o.length ≤ 65536) (hn : n.length ≤ 65536) : (makeB o n).2 = 0 := by
  rw [makeB, if_neg (by omega)]
theorem parts_join (o n : List UInt8) : o.take (fr o n) ++ mid o n ++ o.drop (o.length - en o n) = n := by
  have h1 := en_le o n
  have h2 := fr_le o n
  rw [en_tail, show o.take (fr o n) = n.take (fr o n) from pre_take o n, mid]
  have e : n.drop (n.length - en o n) = (n.drop (fr o n)).drop (n.length - fr o n - en o n) := by
    rw [List.drop_drop]; congr 1; omega
  rw [e, List.append_assoc, List.take_append_drop, List.take_append_drop]
theorem apply_make {o n : List UInt8} (ho : o.length ≤ 65536) (hn : n.length ≤ 65536) (hc : (makeB o n).1.length ≤ 65536) : applyB o (makeB o n).1 = (n, 0) := by
  have h1 := en_le o n
  have h2 := fr_le o n
  have h3 := mid_len o n
  rw [applyB, if_neg (by omega), makeB, if_neg (by omega)]
  show (match readNum (num (fr o n) ++ num (en o n) ++ mid o n) with | none => _ | some (f, r) => _) = _
  rw [List.append_assoc, readNum_of (Nat.lt_of_le_of_lt h2.1 (by omega))]
  show (match readNum (num (en o n) ++ mid o n) with | none => _ | some (e, m) => joinB o (fr o n) e m) = _
  rw [readNum_of (Nat.lt_of_le_of_lt h1.1 (by omega))]
  show joinB o (fr o n) (en o n) (mid o n) = _
  rw [joinB, if_pos (by omega), parts_join]
theorem make_same {o : List UInt8} (ho : o.length ≤ 65536) : (makeB o o).1.length ≤ 6 := by
  have h1 := pre_ge o.length o o (Nat.le_refl _) (Nat.le_refl _) rfl
  have h2 := make_len ho ho
  have h3 := mid_len o o
  have : fr o o = pre o o := rfl
  omega
/- a text that begins with a bytes of another and ends with b bytes of it -/
theorem make_edited {o x : List UInt8} {a b : Nat} (hab : a + b ≤ o.length) (ho : o.length ≤ 65536) (he : (o.take a ++ x ++ o.drop (o.length - b)).length ≤ 65536) :
    (makeB o (o.take a ++ x ++ o.drop (o.length - b))).1.length ≤ 6 + x.length := by
  generalize hn : o.take a ++ x ++ o.drop (o.length - b) = n at he ⊢
  have hl : n.length = a + x.length + b := by rw [← hn]; simp; omega
  have h1 := en_le o n
  have h2 := fr_le o n
  have h3 := mid_len o n
  have h4 := make_len ho he
  have hf : a ≤ fr o n := by
    refine pre_ge a o n (by omega) (by omega) ?_
    rw [← hn, List.append_assoc, List.take_append_of_le_length (by simp; omega), List.take_take, Nat.min_self]
  have hk : ∀ k, k ≤ b → k ≤ o.length - fr o n → k ≤ n.length - fr o n → k ≤ en o n := by
    intro k hkb hko hkn
    refine pre_ge k _ _ (by simp; omega) (by simp; omega) ?_
    rw [take_rev, take_rev, List.reverse_inj, List.drop_drop, List.drop_drop, List.length_drop, List.length_drop]
    rw [show fr o n + (o.length - fr o n - k) = o.length - k by omega, show fr o n + (n.length - fr o n - k) = n.length - k by omega]
    have e : n.length - k = (o.take a ++ x).length + (b - k) := by rw [hl]; simp; omega
    rw [e, ← hn, ← List.drop_drop, List.drop_left, List.drop_drop]
    congr 1; omega
  have := hk (min b (min (o.length - fr o n) (n.length - fr o n))) (by omega) (by omega) (by omega)
  omega
end Chron
