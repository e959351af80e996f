/- Walks and plain facts, in the order in which they lean on one another. -/
import Derived.Test.YtodlcnbknjldnaaGreatDoorW01
import Derived.Lib.ItoaNum
import Derived.Test.YtodlcnbknjldnaaGreatDoorW02
import Derived.Lib.ConvBytes
import Derived.Lib.AtoiErrMem
import Derived.Lib.IfaceEq
import Derived.Laws.Closers25
import Derived.Laws.Closers25b
import Derived.Shelf.Pu.SyntaxError
import Derived.Deep.RegionWith
namespace Chron
open Go Go.RowKit
def escB (c : UInt8) : List UInt8 := if c = 34 ∨ c = 92 then [92, c] else [c]
def inQ (s : List UInt8) : List UInt8 := s.flatMap escB
def qB (s : List UInt8) : List UInt8 := 34 :: (inQ s ++ [34])
theorem escB_len (c : UInt8) : (escB c).length ≤ 2 := by unfold escB; split <;> simp
theorem inQ_len (s : List UInt8) : (inQ s).length ≤ 2 * s.length := by
  induction s with
  | nil => simp [inQ]
  | cons c s ih => have := escB_len c; simp only [inQ, List.flatMap_cons, List.length_append, List.length_cons] at *; omega
theorem qB_len (s : List UInt8) : (qB s).length ≤ 2 * s.length + 2 := by have := inQ_len s; simp [qB]; omega
theorem inQ_take (s : ByteArray) (k : Nat) (h : k < s.size) : inQ (s.data.toList.take (k + 1)) = inQ (s.data.toList.take k) ++ escB s[k] := by
  rw [take_snoc s k h, inQ, inQ, List.flatMap_append]; simp
theorem esc_yes {c : UInt8} (h : (c.toNat : Int) = 34 ∨ (c.toNat : Int) = 92) : escB c = [92, c] := by
  have : c = 34 ∨ c = 92 := by
    rcases h with h | h
    · exact .inl (UInt8.toNat_inj.1 (by simpa using (by omega : c.toNat = 34)))
    · exact .inr (UInt8.toNat_inj.1 (by simpa using (by omega : c.toNat = 92)))
  simp [escB, this]
theorem esc_no {c : UInt8} (h1 : ¬ (c.toNat : Int) = 34) (h2 : ¬ (c.toNat : Int) = 92) : escB c = [c] := by
  have : ¬ (c = 34 ∨ c = 92) := by
    rintro (rfl | rfl)
    · exact h1 rfl
    · exact h2 rfl
  simp [escB, this]
/- texts with a comma between two -/
def jn : List (List UInt8) → List UInt8
  | [] => []
  | x :: r => x ++ r.flatMap (fun y => 44 :: y)
theorem jn_snoc {l : List (List UInt8)} (h : l ≠ []) (y : List UInt8) : jn (l ++ [y]) = jn l ++ 44 :: y := by
  match l, h with
  | x :: r, _ => simp [jn]
theorem jn_one (y : List UInt8) : jn [y] = y := by simp [jn]
theorem jn_len {l : List (List UInt8)} {m : Nat} (h : ∀ x ∈ l, x.length ≤ m) : (jn l).length ≤ l.length * (m + 1) := by
  match l with
  | [] => simp [jn]
  | x :: r =>
    have hr : ∀ r : List (List UInt8), (∀ y ∈ r, y.length ≤ m) → (r.flatMap (fun y => (44 : UInt8) :: y)).length ≤ r.length * (m + 1) := by
      intro r
      induction r with
      | nil => simp
      | cons y r ih =>
        intro h
        have h1 := h y (by simp)
        have h2 := ih (fun z hz => h z (by simp [hz]))
        simp only [List.flatMap_cons, List.length_append, List.length_cons]
        rw [Nat.add_mul]
        omega
    have h1 := h x (by simp)
    have h2 := hr r (fun y hy => h y (by simp [hy]))
    simp only [jn, List.length_append, List.length_cons]
    rw [Nat.add_mul]
    omega
theorem jn_take_zero {l : List (List UInt8)} {y : List UInt8} (h : l[0]? = some y) : jn (l.take 1) = y := by
  match l, h with
  | x :: r, h => simp at h; subst h; simp [jn]
theorem jn_take {l : List (List UInt8)} {k : Nat} {y : List UInt8} (h : l[k]? = some y) (h0 : 0 < k) : jn (l.take (k + 1)) = jn (l.take k) ++ 44 :: y := by
  have hk := (List.getElem?_eq_some_iff.1 h).1
  have hy : l[k] = y := by rw [List.getElem?_eq_getElem hk] at h; exact Option.some.inj h
  rw [List.take_succ_eq_append_getElem hk, hy, jn_snoc]
  intro e
  have := congrArg List.length e
  rw [List.length_take, List.length_nil] at this
  omega
def listB (l : List (List UInt8)) : List UInt8 := 91 :: (jn l ++ [93])
def wordB (k : Int) : List UInt8 := if k = 1 then [98, 101, 103, 117, 110] else if k = 2 then [100, 111, 110, 101] else if k = 3 then [102, 97, 105, 108, 101, 100] else [110, 111, 116, 101, 100]
def lit1 : List UInt8 := [123, 34, 98, 111, 100, 121, 34, 58]
def lit2 : List UInt8 := [44, 34, 107, 105, 110, 100, 34, 58]
def lit3 : List UInt8 := [44, 34, 116, 97, 103, 115, 34, 58]
def lit4 : List UInt8 := [44, 34, 116, 97, 115, 107, 34, 58]
def lit5 : List UInt8 := [44, 34, 116, 105, 109, 101, 34, 58]
def tagsT (ts : List ByteArray) : List (List UInt8) := ts.map fun t => qB t.data.toList
def tellB (e : Ev) : List UInt8 := lit1 ++ qB e.body.data.toList ++ lit2 ++ qB (wordB e.kind) ++ lit3 ++ listB (tagsT e.tags) ++ lit4 ++ qB e.task.data.toList ++ lit5 ++ Lib.itoa e.time ++ [125]
def expB (l : List Ev) : List UInt8 × Int := if 200 < l.length then ([], 5) else if l.all isB then (listB (l.map tellB), 0) else ([], 2)
theorem tagsT_at {ts : List ByteArray} {k : Nat} (h : k < ts.length) : (tagsT ts)[k]? = some (qB (ts[k]?.getD ByteArray.empty).data.toList) := by simp [tagsT, h]
theorem tagsT_len (ts : List ByteArray) : (tagsT ts).length = ts.length := by simp [tagsT]
theorem tagsT_short {ts : List ByteArray} (h : ∀ t ∈ ts, t.size ≤ 60) : ∀ x ∈ tagsT ts, x.length ≤ 122 := by
  intro x hx
  simp only [tagsT, List.mem_map] at hx
  obtain ⟨t, ht, rfl⟩ := hx
  have := qB_len t.data.toList
  have := h t ht
  simp at *
  omega
theorem digits_len (f : Nat) : ∀ u, u < 10 ^ f → (Lib.decDigits u).length ≤ max f 1 := by
  induction f with
  | zero => intro u h; rw [Lib.decDigits, dif_pos (by omega)]; simp
  | succ f ih =>
    intro u h
    rw [Lib.decDigits]
    split
    · simp only [List.length_singleton]; omega
    · have := ih (u / 10) (by rw [Nat.pow_succ] at h; exact Nat.div_lt_of_lt_mul (by omega))
      rename_i h9
      rcases Nat.eq_zero_or_pos f with rfl | hf
      · simp at h; omega
      · simp; omega
theorem itoa_len {m : Int} (h0 : 0 ≤ m) (h1 : m ≤ 1125899906842624) : (Lib.itoa m).length ≤ 16 := by
  have := digits_len 16 m.toNat (by omega)
  rw [Lib.itoa, if_neg (by omega)]; omega
theorem word_len (k : Int) : (wordB k).length ≤ 6 := by unfold wordB; split; · simp
                                                        split; · simp
                                                        split <;> simp
theorem word_q (k : Int) : qB (wordB k) = 34 :: (wordB k ++ [34]) := by
  unfold wordB; split; · decide
  split; · decide
  split <;> decide
theorem tell_len {e : Ev} (h : isB e = true) : (tellB e).length ≤ 1000 := by
  obtain ⟨h1, h4, htk, _, ht0, ht1, hbd, hfew, hlines⟩ := is_known h
  have a1 := qB_len e.body.data.toList
  have a2 := qB_len e.task.data.toList
  have a3 := qB_len (wordB e.kind)
  have a4 := word_len e.kind
  have a5 := itoa_len ht0 ht1
  have a6 := jn_len (tagsT_short hlines)
  rw [tagsT_len] at a6
  have a7 : e.tags.length * 123 ≤ 4 * 123 := Nat.mul_le_mul_right _ hfew
  have b1 : e.body.data.toList.length = e.body.size := by simp
  have b2 : e.task.data.toList.length = e.task.size := by simp
  rw [b1] at a1
  rw [b2] at a2
  simp only [tellB, listB, List.length_append, List.length_cons, List.length_nil, lit1, lit2, lit3, lit4, lit5] at *
  omega
end Chron
namespace Chron
open Go Go.RowKit
def isBlank (c : UInt8) : Bool := c == 32 || c == 10 || c == 13 || c == 9
def skipL (l : List UInt8) : List UInt8 := l.dropWhile isBlank
theorem skip_suf (l : List UInt8) : skipL l <:+ l := List.dropWhile_suffix _
theorem skip_skip (l : List UInt8) : skipL (skipL l) = skipL l := by
  unfold skipL
  induction l with
  | nil => rfl
  | cons x l ih =>
    by_cases h : isBlank x = true
    · rw [List.dropWhile_cons_of_pos h]; exact ih
    · rw [List.dropWhile_cons_of_neg h, List.dropWhile_cons_of_neg h]
def signL (c : UInt8) (l : List UInt8) : Option (List UInt8) :=
  match skipL l with
  | x :: r => if x = c then some r else none
  | [] => none
theorem sign_some {c : UInt8} {l r : List UInt8} (h : signL c l = some r) : skipL l = c :: r := by
  unfold signL at h
  split at h
  · rename_i x r' e
    split at h
    · rename_i hx
      simp only [Option.some.injEq] at h
      rw [e, hx, h]
    · cases h
  · cases h
theorem sign_none {c : UInt8} {l : List UInt8} (h : signL c l = none) : skipL l = [] ∨ ∃ x r, skipL l = x :: r ∧ x ≠ c := by
  unfold signL at h
  split at h
  · rename_i x r e
    split at h
    · cases h
    · rename_i hx
      exact .inr ⟨x, r, e, hx⟩
  · rename_i e
    exact .inl e
theorem sign_suf {c : UInt8} {l r : List UInt8} (h : signL c l = some r) : r <:+ l ∧ r.length < l.length := by
  have h1 := sign_some h
  have h2 := skip_suf l
  rw [h1] at h2
  refine ⟨(List.suffix_cons c r).trans h2, ?_⟩
  have := h2.length_le
  simp at this
  omega
theorem sign_other {c d : UInt8} {l r : List UInt8} (h : signL c l = some r) (hd : d ≠ c) : signL d l = none := by
  have := sign_some h
  unfold signL
  rw [this]
  simp [Ne.symm hd]
theorem sign_nil (c : UInt8) : signL c [] = none := rfl
def hexD (b : UInt8) : Option Nat :=
  if 48 ≤ b.toNat ∧ b.toNat ≤ 57 then some (b.toNat - 48) else if 97 ≤ b.toNat ∧ b.toNat ≤ 102 then some (b.toNat - 87) else if 65 ≤ b.toNat ∧ b.toNat ≤ 70 then some (b.toNat - 55) else none
theorem hex_lt {b : UInt8} {n : Nat} (h : hexD b = some n) : n < 16 := by
  unfold hexD at h
  split at h
  · simp at h; omega
  · split at h
    · simp at h; omega
    · split at h
      · simp at h; omega
      · cases h
def codedL (l : List UInt8) : Option (UInt8 × List UInt8) :=
  match l with
  | z :: y :: a :: b :: r => if z = 48 ∧ y = 48 then (match hexD a, hexD b with | some m, some n => some (UInt8.ofNat (16 * m + n), r) | _, _ => none) else none
  | _ => none
def plainL : Option (UInt8 × List UInt8) → Option (UInt8 × List UInt8)
  | some (c, r) => if byteOk c then some (c, r) else none
  | none => none
def letterL (l : List UInt8) : Option (UInt8 × List UInt8) :=
  match l with
  | [] => none
  | x :: r => if x = 92 then (match r with
      | [] => none
      | c :: r2 => if c = 34 ∨ c = 92 ∨ c = 47 then some (c, r2) else if c = 117 then plainL (codedL r2) else none) else plainL (some (x, r))
theorem coded_suf {l r : List UInt8} {c : UInt8} (h : codedL l = some (c, r)) : r <:+ l := by
  unfold codedL at h
  split at h
  · rename_i z y a b r'
    split at h
    · split at h
      · simp only [Option.some.injEq, Prod.mk.injEq] at h
        rw [← h.2]
        exact ⟨[z, y, a, b], rfl⟩
      · cases h
    · cases h
  · cases h
theorem plain_some {o : Option (UInt8 × List UInt8)} {c : UInt8} {r : List UInt8} (h : plainL o = some (c, r)) : o = some (c, r) ∧ byteOk c = true := by
  unfold plainL at h
  split at h
  · split at h
    · rename_i hb
      simp only [Option.some.injEq, Prod.mk.injEq] at h
      obtain ⟨rfl, rfl⟩ := h
      exact ⟨rfl, hb⟩
    · cases h
  · cases h
theorem letter_suf {l r : List UInt8} {c : UInt8} (h : letterL l = some (c, r)) : r <:+ l ∧ r.length < l.length := by
  unfold letterL at h
  split at h
  · cases h
  · rename_i x r0
    have key : r <:+ r0 → r <:+ x :: r0 ∧ r.length < (x :: r0).length := fun h => ⟨h.trans (List.suffix_cons _ _), by have := h.length_le; simp; omega⟩
    split at h
    · split at h
      · cases h
      · rename_i c' r2
        split at h
        · simp only [Option.some.injEq, Prod.mk.injEq] at h
          rw [← h.2]
          rw [← h.2] at key
          exact key (List.suffix_cons _ _)
        · split at h
          · exact key ((coded_suf (plain_some h).1).trans (List.suffix_cons _ _))
          · cases h
    · have := (plain_some h).1
      simp only [Option.some.injEq, Prod.mk.injEq] at this
      rw [← this.2]
      rw [← this.2] at key
      exact key List.suffix_rfl
theorem letter_ok {l r : List UInt8} {c : UInt8} (h : letterL l = some (c, r)) : byteOk c = true := by
  unfold letterL at h
  split at h
  · cases h
  · split at h
    · split at h
      · cases h
      · split at h
        · rename_i hc
          simp only [Option.some.injEq, Prod.mk.injEq] at h
          obtain ⟨rfl, _⟩ := h
          rcases hc with rfl | rfl | rfl <;> decide
        · split at h
          · exact (plain_some h).2
          · cases h
    · exact (plain_some h).2
/- what stands in quotes, up to the end of them -/
def inF : Nat → List UInt8 → Option (List UInt8 × List UInt8)
  | 0, _ => none
  | _ + 1, [] => none
  | n + 1, x :: r => if x = 34 then some ([], r) else
    match letterL (x :: r) with
    | none => none
    | some (c, r2) => (inF n r2).map fun p => (c :: p.1, p.2)
theorem inF_eq : ∀ (n m : Nat) (l : List UInt8), l.length < n → l.length < m → inF n l = inF m l
  | 0, _, _, h, _ => absurd h (Nat.not_lt_zero _)
  | _ + 1, 0, _, _, h => absurd h (Nat.not_lt_zero _)
  | _ + 1, _ + 1, [], _, _ => rfl
  | n + 1, m + 1, x :: r, h1, h2 => by
    rw [inF, inF]
    by_cases hx : x = 34
    · rw [if_pos hx, if_pos hx]
    · rw [if_neg hx, if_neg hx]
      cases hl : letterL (x :: r) with
      | none => rfl
      | some p =>
        obtain ⟨c, r2⟩ := p
        have h3 := (letter_suf hl).2
        simp only
        rw [inF_eq n m r2 (by omega) (by omega)]
def inL (l : List UInt8) : Option (List UInt8 × List UInt8) := inF (l.length + 1) l
theorem in_nil : inL [] = none := rfl
theorem in_end (r : List UInt8) : inL (34 :: r) = some ([], r) := by rw [inL, inF, if_pos rfl]
theorem in_step {x c : UInt8} {r r2 : List UInt8} (hx : x ≠ 34) (h : letterL (x :: r) = some (c, r2)) : inL (x :: r) = (inL r2).map fun p => (c :: p.1, p.2) := by
  have h3 := (letter_suf h).2
  rw [inL, inF, if_neg hx, h]
  simp only
  rw [inF_eq _ (r2.length + 1) r2 h3 (by omega), inL]
theorem in_bad {x : UInt8} {r : List UInt8} (hx : x ≠ 34) (h : letterL (x :: r) = none) : inL (x :: r) = none := by
  rw [inL, inF, if_neg hx, h]
theorem in_suf : ∀ (n : Nat) {l s r : List UInt8}, l.length ≤ n → inL l = some (s, r) → r <:+ l ∧ r.length < l.length ∧ s.length < l.length
  | 0, l, s, r, hn, h => by
    have : l = [] := List.eq_nil_of_length_eq_zero (by omega)
    rw [this, in_nil] at h; cases h
  | n + 1, [], s, r, hn, h => by rw [in_nil] at h; cases h
  | n + 1, x :: l, s, r, hn, h => by
    by_cases hx : x = 34
    · subst hx
      rw [in_end] at h
      simp only [Option.some.injEq, Prod.mk.injEq] at h
      obtain ⟨rfl, rfl⟩ := h
      exact ⟨List.suffix_cons _ _, by simp, by simp⟩
    · cases hl : letterL (x :: l) with
      | none => rw [in_bad hx hl] at h; cases h
      | some p =>
        obtain ⟨c, r2⟩ := p
        rw [in_step hx hl] at h
        cases hi : inL r2 with
        | none => rw [hi] at h; cases h
        | some q =>
          obtain ⟨s', r'⟩ := q
          rw [hi] at h
          simp only [Option.map_some, Option.some.injEq, Prod.mk.injEq] at h
          obtain ⟨rfl, rfl⟩ := h
          have h1 := letter_suf hl
          obtain ⟨h2, h3, h4⟩ := in_suf n (by have := h1.2; simp at this hn; omega) hi
          have h5 := h1.2
          simp only [List.length_cons] at h5 ⊢
          exact ⟨h2.trans h1.1, by omega, by omega⟩
def quoteL (l : List UInt8) : Option (List UInt8 × List UInt8) :=
  match signL 34 l with
  | some r => inL r
  | none => none
theorem quote_suf {l s r : List UInt8} (h : quoteL l = some (s, r)) : r <:+ l ∧ r.length < l.length ∧ s.length < l.length := by
  unfold quoteL at h
  split at h
  · rename_i r0 e
    have h1 := sign_suf e
    obtain ⟨h2, h3, h4⟩ := in_suf _ (Nat.le_refl _) h
    have h5 := h1.2
    exact ⟨h2.trans h1.1, by omega, by omega⟩
  · cases h
def isDig (c : UInt8) : Bool := decide (48 ≤ c.toNat) && decide (c.toNat ≤ 57)
def capN (n d : Nat) : Nat := min (10 * n + (d - 48)) 1125899906842625
def numL (ds : List UInt8) : Nat := ds.foldl (fun n d => capN n d.toNat) 0
def badNum (ds : List UInt8) : Bool := ds.isEmpty || (ds.head? == some 48 && ds != [48])
def countL (l : List UInt8) : Option (Nat × List UInt8) :=
  let ds := (skipL l).takeWhile isDig
  if badNum ds then none else some (numL ds, (skipL l).dropWhile isDig)
theorem count_suf {l r : List UInt8} {n : Nat} (h : countL l = some (n, r)) : r <:+ l ∧ r.length < l.length := by
  unfold countL at h
  simp only at h
  split at h
  · cases h
  · rename_i hb
    simp only [Option.some.injEq, Prod.mk.injEq] at h
    obtain ⟨_, rfl⟩ := h
    have h1 := (List.dropWhile_suffix isDig (l := skipL l)).trans (skip_suf l)
    refine ⟨h1, ?_⟩
    have h2 := congrArg List.length (List.takeWhile_append_dropWhile (p := isDig) (l := skipL l))
    have h3 := (skip_suf l).length_le
    have h4 : (skipL l).takeWhile isDig ≠ [] := by
      intro e
      rw [e] at hb
      simp [badNum] at hb
    have h5 := List.length_pos_iff.2 h4
    simp only [List.length_append] at h2
    omega
/- things with a comma between two, up to the bracket -/
def itemsF {α : Type} (one : List UInt8 → Option (α × List UInt8)) : Nat → List UInt8 → Option (List α × List UInt8)
  | 0, _ => none
  | n + 1, l =>
    match one l with
    | none => none
    | some (x, r) =>
      match signL 44 r with
      | some r2 => (itemsF one n r2).map fun p => (x :: p.1, p.2)
      | none => (signL 93 r).map fun r3 => ([x], r3)
theorem itemsF_eq {α : Type} {one : List UInt8 → Option (α × List UInt8)} (hone : ∀ l x r, one l = some (x, r) → r.length < l.length) : ∀ (n m : Nat) (l : List UInt8), l.length < n → l.length < m → itemsF one n l = itemsF one m l
  | 0, _, _, h, _ => absurd h (Nat.not_lt_zero _)
  | _ + 1, 0, _, _, h => absurd h (Nat.not_lt_zero _)
  | n + 1, m + 1, l, h1, h2 => by
    rw [itemsF, itemsF]
    cases h3 : one l with
    | none => rfl
    | some p =>
      obtain ⟨x, r⟩ := p
      have a1 := hone l x r h3
      simp only
      cases h4 : signL 44 r with
      | none => rfl
      | some r2 =>
        have a2 := (sign_suf h4).2
        simp only
        rw [itemsF_eq hone n m r2 (by omega) (by omega)]
def itemsL {α : Type} (one : List UInt8 → Option (α × List UInt8)) (_hone : ∀ l x r, one l = some (x, r) → r.length < l.length) (l : List UInt8) : Option (List α × List UInt8) := itemsF one (l.length + 1) l
theorem items_none {α : Type} {one : List UInt8 → Option (α × List UInt8)} {hone : ∀ l x r, one l = some (x, r) → r.length < l.length} {l : List UInt8} (h : one l = none) : itemsL one hone l = none := by
  rw [itemsL, itemsF, h]
theorem items_more {α : Type} {one : List UInt8 → Option (α × List UInt8)} {hone : ∀ l x r, one l = some (x, r) → r.length < l.length} {l r r2 : List UInt8} {x : α} (h : one l = some (x, r)) (h2 : signL 44 r = some r2) : itemsL one hone l = (itemsL one hone r2).map fun p => (x :: p.1, p.2) := by
  have a1 := hone l x r h
  have a2 := (sign_suf h2).2
  rw [itemsL, itemsF, h]
  simp only [h2]
  rw [itemsF_eq hone l.length (r2.length + 1) r2 (by omega) (by omega), itemsL]
theorem items_last {α : Type} {one : List UInt8 → Option (α × List UInt8)} {hone : ∀ l x r, one l = some (x, r) → r.length < l.length} {l r : List UInt8} {x : α} (h : one l = some (x, r)) (h2 : signL 44 r = none) : itemsL one hone l = (signL 93 r).map fun r3 => ([x], r3) := by
  rw [itemsL, itemsF, h]
  simp only [h2]
theorem items_suf {α : Type} {one : List UInt8 → Option (α × List UInt8)} {hone : ∀ l x r, one l = some (x, r) → r.length < l.length} (hsuf : ∀ l x r, one l = some (x, r) → r <:+ l) : ∀ (n : Nat) {l r : List UInt8} {xs : List α}, l.length ≤ n → itemsL one hone l = some (xs, r) → r <:+ l ∧ r.length < l.length ∧ 0 < xs.length ∧ xs.length ≤ l.length
  | n, l, r, xs, hn, h => by
    cases ho : one l with
    | none => rw [items_none ho] at h; cases h
    | some p =>
      obtain ⟨x, r0⟩ := p
      have h0 := hone l x r0 ho
      have s0 := hsuf l x r0 ho
      cases hs : signL 44 r0 with
      | none =>
        rw [items_last ho hs] at h
        cases h3 : signL 93 r0 with
        | none => rw [h3] at h; cases h
        | some r3 =>
          rw [h3] at h
          simp only [Option.map_some, Option.some.injEq, Prod.mk.injEq] at h
          obtain ⟨rfl, rfl⟩ := h
          have := sign_suf h3
          have := this.2
          exact ⟨(sign_suf h3).1.trans s0, by omega, by simp, by simp; omega⟩
      | some r2 =>
        rw [items_more ho hs] at h
        have hs2 := sign_suf hs
        have hl2 := hs2.2
        cases hi : itemsL one hone r2 with
        | none => rw [hi] at h; cases h
        | some q =>
          obtain ⟨ys, r3⟩ := q
          rw [hi] at h
          simp only [Option.map_some, Option.some.injEq, Prod.mk.injEq] at h
          obtain ⟨rfl, rfl⟩ := h
          match n, hn with
          | 0, hn => omega
          | n + 1, hn =>
            obtain ⟨a1, a2, a3, a4⟩ := items_suf hsuf n (by omega) hi
            exact ⟨(a1.trans hs2.1).trans s0, by omega, by simp, by simp; omega⟩
def listL {α : Type} (one : List UInt8 → Option (α × List UInt8)) (hone : ∀ l x r, one l = some (x, r) → r.length < l.length) (l : List UInt8) : Option (List α × List UInt8) :=
  match signL 91 l with
  | none => none
  | some r => match signL 93 r with
    | some r2 => some ([], r2)
    | none => itemsL one hone r
theorem list_suf {α : Type} {one : List UInt8 → Option (α × List UInt8)} {hone : ∀ l x r, one l = some (x, r) → r.length < l.length} (hsuf : ∀ l x r, one l = some (x, r) → r <:+ l) {l r : List UInt8} {xs : List α} (h : listL one hone l = some (xs, r)) : r <:+ l ∧ r.length < l.length ∧ xs.length ≤ l.length := by
  unfold listL at h
  split at h
  · cases h
  · rename_i r0 e0
    have h0 := sign_suf e0
    have h0' := h0.2
    split at h
    · rename_i r2 e2
      have h2 := sign_suf e2
      have h2' := h2.2
      simp only [Option.some.injEq, Prod.mk.injEq] at h
      obtain ⟨rfl, rfl⟩ := h
      exact ⟨h2.1.trans h0.1, by omega, by simp⟩
    · obtain ⟨a1, a2, _, a4⟩ := items_suf hsuf _ (Nat.le_refl _) h
      exact ⟨a1.trans h0.1, by omega, by omega⟩
theorem quote_one : ∀ l x r, quoteL l = some (x, r) → r.length < l.length := fun _ _ _ h => (quote_suf h).2.1
def tagsL (l : List UInt8) : Option (List (List UInt8) × List UInt8) := listL quoteL quote_one l
def nBody : List UInt8 := [98, 111, 100, 121]
def nKind : List UInt8 := [107, 105, 110, 100]
def nTags : List UInt8 := [116, 97, 103, 115]
def nTask : List UInt8 := [116, 97, 115, 107]
def nTime : List UInt8 := [116, 105, 109, 101]
def kindW (s : List UInt8) : Option Int := if s = wordB 1 then some 1 else if s = wordB 2 then some 2 else if s = wordB 3 then some 3 else if s = wordB 4 then some 4 else none
def ba (l : List UInt8) : ByteArray := ⟨l.toArray⟩
def fieldL (nm : List UInt8) (e : Ev) (l : List UInt8) : Option (Ev × List UInt8) :=
  if nm = nBody then (quoteL l).map fun p => ({ e with body := ba p.1 }, p.2)
  else if nm = nKind then (quoteL l).bind fun p => (kindW p.1).map fun k => ({ e with kind := k }, p.2)
  else if nm = nTags then (tagsL l).map fun p => ({ e with tags := p.1.map ba }, p.2)
  else if nm = nTask then (quoteL l).map fun p => ({ e with task := ba p.1 }, p.2)
  else if nm = nTime then (countL l).map fun p => ({ e with time := (p.1 : Int) }, p.2)
  else none
theorem field_suf {nm l r : List UInt8} {e e' : Ev} (h : fieldL nm e l = some (e', r)) : r <:+ l ∧ r.length < l.length := by
  have hq : ∀ {f : List UInt8 × List UInt8 → Ev}, (quoteL l).map (fun p => (f p, p.2)) = some (e', r) → r <:+ l ∧ r.length < l.length := by
    intro f h
    cases hc : quoteL l with
    | none => rw [hc] at h; cases h
    | some p =>
      rw [hc] at h
      simp only [Option.map_some, Option.some.injEq, Prod.mk.injEq] at h
      rw [← h.2]
      have := quote_suf (s := p.1) (r := p.2) hc
      exact ⟨this.1, this.2.1⟩
  unfold fieldL at h
  split at h
  · exact hq h
  · split at h
    · cases hc : quoteL l with
      | none => rw [hc] at h; cases h
      | some p =>
        rw [hc] at h
        simp only [Option.bind_some] at h
        cases hk : kindW p.1 with
        | none => rw [hk] at h; cases h
        | some k =>
          rw [hk] at h
          simp only [Option.map_some, Option.some.injEq, Prod.mk.injEq] at h
          rw [← h.2]
          have := quote_suf (s := p.1) (r := p.2) hc
          exact ⟨this.1, this.2.1⟩
    · split at h
      · cases hc : tagsL l with
        | none => rw [hc] at h; cases h
        | some p =>
          rw [hc] at h
          simp only [Option.map_some, Option.some.injEq, Prod.mk.injEq] at h
          rw [← h.2]
          have := list_suf (fun l x r h => (quote_suf h).1) (xs := p.1) (r := p.2) hc
          exact ⟨this.1, this.2.1⟩
      · split at h
        · exact hq h
        · split at h
          · cases hc : countL l with
            | none => rw [hc] at h; cases h
            | some p =>
              rw [hc] at h
              simp only [Option.map_some, Option.some.injEq, Prod.mk.injEq] at h
              rw [← h.2]
              exact count_suf (n := p.1) (r := p.2) hc
          · cases h
/- some of an event's names and what they have, a sign ahead of each -/
def stepL (c : UInt8) (e : Ev) (l : List UInt8) : Option (List UInt8 × Ev × List UInt8) :=
  match signL c l with
  | none => none
  | some r => match quoteL r with
    | none => none
    | some (nm, r1) => match signL 58 r1 with
      | none => none
      | some r2 => (fieldL nm e r2).map fun p => (nm, p.1, p.2)
theorem step_suf {c : UInt8} {e e' : Ev} {l nm r : List UInt8} (h : stepL c e l = some (nm, e', r)) : r <:+ l ∧ r.length < l.length := by
  unfold stepL at h
  split at h
  · cases h
  · rename_i r0 e0
    split at h
    · cases h
    · rename_i nm' r1 e1
      split at h
      · cases h
      · rename_i r2 e2
        cases hf : fieldL nm' e r2 with
        | none => rw [hf] at h; cases h
        | some p =>
          rw [hf] at h
          simp only [Option.map_some, Option.some.injEq, Prod.mk.injEq] at h
          obtain ⟨rfl, _, rfl⟩ := h
          have a0 := sign_suf e0
          have a1 := quote_suf e1
          have a2 := sign_suf e2
          have a3 := field_suf (e' := p.1) (r := p.2) hf
          have := a0.2; have := a1.2.1; have := a2.2; have := a3.2
          exact ⟨((a3.1.trans a2.1).trans a1.1).trans a0.1, by omega⟩
def stepsL : Nat → UInt8 → Ev → List (List UInt8) → List UInt8 → Option (Ev × List (List UInt8) × List UInt8)
  | 0, _, e, had, l => some (e, had, l)
  | n + 1, c, e, had, l => match stepL c e l with
    | none => none
    | some (nm, e', r) => stepsL n 44 e' (had ++ [nm]) r
theorem steps_suf : ∀ (n : Nat) {c : UInt8} {e e' : Ev} {had had' : List (List UInt8)} {l r : List UInt8}, stepsL n c e had l = some (e', had', r) → r <:+ l ∧ r.length + n ≤ l.length ∧ had'.length = had.length + n ∧ had <+: had'
  | 0, c, e, e', had, had', l, r, h => by
    simp only [stepsL, Option.some.injEq, Prod.mk.injEq] at h
    obtain ⟨rfl, rfl, rfl⟩ := h
    exact ⟨List.suffix_rfl, Nat.le_refl _, rfl, List.prefix_rfl⟩
  | n + 1, c, e, e', had, had', l, r, h => by
    simp only [stepsL] at h
    split at h
    · cases h
    · rename_i nm e1 r1 hs
      have a := step_suf hs
      have a2 := a.2
      obtain ⟨b1, b2, b3, b4⟩ := steps_suf n h
      refine ⟨b1.trans a.1, by omega, by simp at b3; omega, (List.prefix_append _ _).trans b4⟩
def evZero : Ev := ⟨0, ⟨#[]⟩, 0, ⟨#[]⟩, []⟩
def eventL (l : List UInt8) : Option (Ev × List UInt8) :=
  match stepsL 5 123 evZero [] l with
  | none => none
  | some (e, had, r) => if had.Nodup then (signL 125 r).map fun r2 => (e, r2) else none
theorem event_suf {l r : List UInt8} {e : Ev} (h : eventL l = some (e, r)) : r <:+ l ∧ r.length < l.length := by
  unfold eventL at h
  split at h
  · cases h
  · rename_i e' had r0 hs
    obtain ⟨b1, b2, _⟩ := steps_suf 5 hs
    split at h
    · cases hc : signL 125 r0 with
      | none => rw [hc] at h; cases h
      | some r2 =>
        rw [hc] at h
        simp only [Option.map_some, Option.some.injEq, Prod.mk.injEq] at h
        obtain ⟨rfl, rfl⟩ := h
        have := sign_suf hc
        have h2 := this.2
        exact ⟨this.1.trans b1, by omega⟩
    · cases h
theorem event_one : ∀ l x r, eventL l = some (x, r) → r.length < l.length := fun _ _ _ h => (event_suf h).2
def allL (l : List UInt8) : Option (List Ev) :=
  match listL eventL event_one l with
  | none => none
  | some (es, r) => if skipL r = [] then some es else none
def impB (s : List UInt8) : List Ev × Int :=
  if 1048576 < s.length then ([], 4) else match allL s with
  | none => ([], 4)
  | some es => if (expB es).2 = 0 then (es, 0) else ([], (expB es).2)
end Chron
namespace Go.Proofs.YtodlcnbknjldnaaGreatDoor
open Go.RowKit Chron
/- the reader lies in a block; what is left of its text, and whether it was wrong -/
def Rd (R : Nat) (w : World) (l : List UInt8) (b : Bool) : Prop := w.heap[R]? = some (.cells #[.string (ba l), .bool b] 60)
theorem Rd.cells {R : Nat} {w : World} {l : List UInt8} {b : Bool} (h : Rd R w l b) : w.cell? ⟨R, 0, none⟩ = some (.string (ba l)) ∧ w.cell? ⟨R, 1, none⟩ = some (.bool b) ∧ ∀ o, w.frozen? ⟨R, o, none⟩ = false := by
  unfold Rd at h
  simp [World.cell?, World.frozen?, h]
theorem Rd.lt {R : Nat} {w : World} {l : List UInt8} {b : Bool} (h : Rd R w l b) : R < w.heap.size := (Array.getElem?_eq_some_iff.1 h).1
theorem Rd.set {R : Nat} {w : World} {l l' : List UInt8} {b : Bool} (h : Rd R w l b) : Rd R (w.setCell ⟨R, 0, none⟩ (.string (ba l'))) l' b := by
  unfold Rd at *
  rw [setCell_eq_setRow w R 0 _ _ (0, 0) _ h, setRow_heap w R _ _ _ (0, 0) h]; rfl
theorem Rd.mark {R : Nat} {w : World} {l : List UInt8} {b : Bool} (h : Rd R w l b) : Rd R (w.setCell ⟨R, 1, none⟩ (.bool true)) l true := by
  unfold Rd at *
  rw [setCell_eq_setRow w R 1 _ _ (0, 0) _ h, setRow_heap w R _ _ _ (0, 0) h]; rfl
theorem Rd.more {R : Nat} {w w' : World} {l : List UInt8} {b : Bool} (h : Rd R w l b) (hb : Below w.heap.size w w') : Rd R w' l b := (hb.block R h.lt).trans h
/- where a reading has come to: what is left, or nothing and a mark -/
def stL : Option (List UInt8) → List UInt8
  | some r => r
  | none => []
def stB (b : Bool) : Option (List UInt8) → Bool
  | some _ => b
  | none => true
theorem ba_nil : ba [] = ⟨#[]⟩ := rfl
theorem ba_toList (l : List UInt8) : (ba l).toList = l := by rw [ByteArray.toList_eq]; simp [ba]
theorem ba_len (l : List UInt8) : (ba l).size = l.length := rfl
theorem trim_skip (l : List UInt8) : Lib.trimLeftS l [32, 10, 13, 9] = skipL l := by
  unfold Lib.trimLeftS skipL
  congr 1
  funext c
  rw [Bool.eq_iff_iff]
  simp [isBlank, or_assoc]
set_option maxRecDepth 100000 in
theorem fail_any (R : Nat) (l : List UInt8) (b : Bool) (w : World) (h : Hid (Rd R w l b)) :
    Calls Tryz.prog 44 #[.pointer (some ⟨R, 0, none⟩)] w fun e w' => e = .returned (.tuple #[]) ∧ Hid (Rd R w' [] true) ∧ Hid (Far w w' [some R]) := by
  obtain ⟨c0, c1, cf⟩ := h.out.cells
  have H1 := hide0 (h.out.set (l' := [])).mark
  go_enter Tryz.func44, Tryz.ntmps44
  go_wp2
  go_end0
  exact ⟨rfl, H1, ((Far.refl w _).setCell (p := ⟨R, 0, none⟩) (.inl (by simp)) _).setCell (p := ⟨R, 1, none⟩) (.inl (by simp)) _⟩
set_option maxRecDepth 100000 in
theorem skip_any (R : Nat) (l : List UInt8) (b : Bool) (w : World) (h : Hid (Rd R w l b)) :
    Calls Tryz.prog 29 #[.pointer (some ⟨R, 0, none⟩)] w fun e w' => e = .returned (.tuple #[]) ∧ Hid (Rd R w' (skipL l) b) ∧ Hid (Far w w' [some R]) := by
  obtain ⟨c0, c1, cf⟩ := h.out.cells
  have hT := fun X => Tryz.strings_TrimLeft (ba l) ⟨#[32, 10, 13, 9]⟩ X (by decide) (ascii_of_all (by decide))
  have e : (ba l).data.toList = l := by simp [ba]
  rw [e] at hT
  simp only [trim_skip] at hT
  go_enter Tryz.func29, Tryz.ntmps29
  go_wp2_with fail
  refine (hT _).mono ?_
  rintro e w1 ⟨rfl, hb1⟩
  have H1 := hide0 (h.out.more hb1)
  have H2 := hide0 (H1.out.set (l' := skipL l))
  have HF : Hid (Far w w1 [some R]) := Far.of_below hb1 (Nat.le_refl _)
  clear c0 c1 cf hb1 hT
  obtain ⟨c0, c1, cf⟩ := H1.out.cells
  go_wp2
  go_end0
  exact ⟨rfl, H2, HF.out.setCell (p := ⟨R, 0, none⟩) (.inl (by simp)) _⟩
theorem rest_bytes (x : UInt8) (r : List UInt8) : (ba (x :: r)).extract 1 (ba (x :: r)).size = ba r := by
  apply bytes_inj
  have e : ((ba (x :: r)).extract 1 (ba (x :: r)).size).data.toList = (x :: r).drop 1 := by rw [extract_end]; simp [ba]
  rw [e]; simp [ba]
def takeL (c : UInt8) (l : List UInt8) : List UInt8 := match signL c l with | some r => r | none => skipL l
set_option maxRecDepth 100000 in
set_option maxHeartbeats 1000000 in
theorem take_any (R : Nat) (l : List UInt8) (b : Bool) (z : Int) (c : UInt8) (hz : z = (c.toNat : Int)) (w : World) (h : Hid (Rd R w l b)) (hl : l.length ≤ 1048576) :
    Calls Tryz.prog 40 #[.pointer (some ⟨R, 0, none⟩), .int .u8 z] w fun e w' => e = .returned (.bool (signL c l).isSome) ∧ Hid (Rd R w' (takeL c l) b) ∧ Hid (Far w w' [some R]) := by
  have hsl := (skip_suf l).length_le
  have hS := skip_any R l b w h
  cases hk : skipL l with
  | nil =>
    have HF : Hid (signL c l = none) := by unfold signL; rw [hk]; exact rfl
    rw [hk] at hS
    go_enter Tryz.func40, Tryz.ntmps40
    go_wp2_with fail
    refine hS.mono ?_
    rintro e w1 ⟨rfl, H1, HF1⟩
    obtain ⟨c0, c1, cf⟩ := H1.out.cells
    have he : (ba ([] : List UInt8)).toList = [] := ba_toList []
    go_wp2
    go_ret
    exact ⟨ret_bool (by rw [HF.out]; rfl), by rw [takeL, HF.out]; simp only [hk]; exact H1, HF1⟩
  | cons x r =>
    rw [hk] at hS
    obtain ⟨S, HSE, hne, hle, hext, hlt, hb0⟩ : ∃ S, Hid (ba (x :: r) = S) ∧ (S.toList == []) = false ∧ S.size ≤ 1048576 ∧ S.extract 1 S.size = ba r ∧ ∃ hlt : 0 < S.size, S[0].toNat = x.toNat :=
      ⟨ba (x :: r), rfl, by rw [ba_toList]; rfl, by rw [ba_len]; rw [hk] at hsl; omega, rest_bytes x r, by rw [ba_len]; simp, rfl⟩
    by_cases hxc : x = c
    · have HF : Hid (signL c l = some r) := by unfold signL; rw [hk]; simp [Hid, hxc]
      have hcmp : ((S[0].toNat : Int) != z) = false := by rw [hb0, hxc, hz]; simp
      clear hb0
      go_enter Tryz.func40, Tryz.ntmps40
      go_wp2_with fail
      refine hS.mono ?_
      rintro e w1 ⟨rfl, H1, HF1⟩
      obtain ⟨c0, c1, cf⟩ := H1.out.cells
      rw [HSE.out] at c0
      have H2 := hide0 (H1.out.set (l' := r))
      go_wp2
      go_ret
      exact ⟨ret_bool (by rw [HF.out]; rfl), by rw [takeL, HF.out]; exact H2, HF1.out.setCell (p := ⟨R, 0, none⟩) (.inl (by simp)) _⟩
    · have HF : Hid (signL c l = none) := by unfold signL; rw [hk]; simp [Hid, hxc]
      have hcmp : ((S[0].toNat : Int) != z) = true := by
        rw [hb0, hz, bne_iff_ne]
        intro h
        exact hxc (UInt8.toNat_inj.1 (by omega))
      clear hb0
      go_enter Tryz.func40, Tryz.ntmps40
      go_wp2_with fail
      refine hS.mono ?_
      rintro e w1 ⟨rfl, H1, HF1⟩
      obtain ⟨c0, c1, cf⟩ := H1.out.cells
      rw [HSE.out] at c0
      go_wp2
      go_ret
      exact ⟨ret_bool (by rw [HF.out]; rfl), by rw [takeL, HF.out]; simp only [hk]; exact H1, HF1⟩
theorem st_take {c : UInt8} {l r : List UInt8} (h : signL c l = some r) : takeL c l = r := by unfold takeL; rw [h]
set_option maxRecDepth 100000 in
set_option maxHeartbeats 1000000 in
theorem need_any (R : Nat) (l : List UInt8) (b : Bool) (z : Int) (c : UInt8) (hz : z = (c.toNat : Int)) (w : World) (h : Hid (Rd R w l b)) (hl : l.length ≤ 1048576) :
    Calls Tryz.prog 39 #[.pointer (some ⟨R, 0, none⟩), .int .u8 z] w fun e w' => e = .returned (.tuple #[]) ∧ Hid (Rd R w' (stL (signL c l)) (stB b (signL c l))) ∧ Hid (Far w w' [some R]) := by
  have hT := take_any R l b z c hz w h hl
  subst hz
  cases hq : signL c l with
  | none =>
    rw [hq] at hT
    have e : (none : Option (List UInt8)).isSome = false := rfl
    rw [e] at hT
    go_enter Tryz.func39, Tryz.ntmps39
    go_wp2_with fail
    refine hT.mono ?_
    rintro e w1 ⟨rfl, H1, HF1⟩
    go_wp2_with fail
    refine (fail_any R _ _ _ H1).mono ?_
    rintro e w2 ⟨rfl, H2, HF2⟩
    go_wp2
    go_end0
    exact ⟨rfl, H2, HF1.out.trans HF2.out⟩
  | some r =>
    rw [hq, st_take hq] at hT
    have e : (some r : Option (List UInt8)).isSome = true := rfl
    rw [e] at hT
    go_enter Tryz.func39, Tryz.ntmps39
    go_wp2_with fail
    refine hT.mono ?_
    rintro e w1 ⟨rfl, H1, HF1⟩
    go_wp2
    go_end0
    exact ⟨rfl, H1, HF1⟩
end Go.Proofs.YtodlcnbknjldnaaGreatDoor
namespace Go.Proofs.YtodlcnbknjldnaaGreatDoor
open Go.RowKit Chron
def hexN : Nat → List UInt8 → Option Nat
  | acc, [] => some acc
  | acc, c :: r => match hexD c with
    | none => none
    | some d => hexN (16 * acc + d) r
def hexE (T : TypeId) : Option Nat → Value
  | some n => .tuple #[.int .u64 (n : Int), .nilIface]
  | none => .tuple #[.int .u64 0, .iface T (.int .i64 2)]
set_option maxRecDepth 100000 in
theorem low_all : ∀ n : Fin 256, bits .or .u8 ((n.val : Nat) : Int) 32 = ((n.val ||| 32 : Nat) : Int) := by decide
theorem low_eq (c : UInt8) : bits .or .u8 (c.toNat : Int) 32 = ((c.toNat ||| 32 : Nat) : Int) := low_all ⟨c.toNat, c.toNat_lt⟩
def hexF (n : Nat) : Option Nat := if 48 ≤ n ∧ n ≤ 57 then some (n - 48) else if 97 ≤ n ∧ n ≤ 102 then some (n - 87) else if 65 ≤ n ∧ n ≤ 70 then some (n - 55) else none
theorem hexD_F (c : UInt8) : hexD c = hexF c.toNat := rfl
set_option maxRecDepth 100000 in
theorem low_hex : ∀ n : Fin 256, ¬ (48 ≤ n.val ∧ n.val ≤ 57) → (n.val ||| 32 ≤ 255) ∧ (97 ≤ n.val ||| 32 → n.val ||| 32 ≤ 102 → hexF n.val = some ((n.val ||| 32) - 87) ∧ n.val ≠ 95) ∧ ((¬ 97 ≤ n.val ||| 32) ∨ 102 < n.val ||| 32 → hexF n.val = none) ∧ (97 ≤ n.val ||| 32 → n.val ||| 32 ≤ 122 → n.val ≠ 95) := by decide
theorem low_fact (c : UInt8) (h : ¬ (48 ≤ c.toNat ∧ c.toNat ≤ 57)) : ∃ z : Nat, bits .or .u8 (c.toNat : Int) 32 = (z : Int) ∧ z ≤ 255 ∧ (97 ≤ z → z ≤ 102 → hexD c = some (z - 87) ∧ c.toNat ≠ 95) ∧ ((¬ 97 ≤ z) ∨ 102 < z → hexD c = none) ∧ (97 ≤ z → z ≤ 122 → c.toNat ≠ 95) :=
  ⟨c.toNat ||| 32, low_eq c, (low_hex ⟨c.toNat, c.toNat_lt⟩ h)⟩
theorem lower_any (c : Int) (w : World) : Calls Tryz.prog 122 #[.int .u8 c] w fun e w' => e = .returned (.int .u8 (bits .or .u8 c 32)) ∧ w' = w := by
  go_enter Tryz.func122, Tryz.ntmps122
  go_wp2
  go_ret
  exact ⟨rfl, rfl⟩
set_option maxRecDepth 100000 in
set_option maxHeartbeats 8000000 in
theorem parseHex_any (t : ByteArray) (w : World) (hne : t.size ≠ 0) (hmax : t.size ≤ 2) :
    Calls Tryz.prog 117 #[.string t, .int .i64 16, .int .i64 8] w fun e w' => e = .returned (hexE 164 (hexN 0 t.data.toList)) ∧ Below w.heap.size w w' := by
  have hemp : t.toList.isEmpty = false := by
    rw [← decide_eq_emptyBytes]
    exact decide_eq_false (fun h => hne (by rw [h]; rfl))
  have hcv := Lib.run_convert_string_bytes (P := Tryz.prog) w 9 56 5 t (u := .string) Tryz.underlying9 Tryz.underlying56 Tryz.underlying5
  have hB : ∀ j, j < t.size → (Lib.bytesWorld w 5 t).cell? ⟨w.heap.size, j, none⟩ = some (.int .u8 (t.data.toList.getD j 0).toNat) := fun j hj => Lib.bytesWorld_cell w 5 t j hj
  have HBW := hide0 (Lib.bytesWorld_below w 5 t)
  generalize Lib.bytesWorld w 5 t = W1 at hcv hB HBW
  obtain ⟨bs, hL⟩ : ∃ bs, bs = t.data.toList := ⟨_, rfl⟩
  have hLn : bs.length = t.size := by rw [hL, Lib.size_eq]
  rw [← hL] at hB ⊢
  clear hL
  go_enter Tryz.func117, Tryz.ntmps117
  go_wp2
  go_loop [12, 13, 101] (fun vu vn vi => ∃ (k acc : Nat) (a : Int), vu = .bool false ∧ vn = .int .u64 a ∧ vi = .int .i64 k ∧ k ≤ t.size ∧ Hid (a = (acc : Int) ∧ acc < 16 ^ k ∧ hexN 0 bs = hexN acc (bs.drop k)))
    (fun _ _ vi => t.size - (intOf vi).toNat)
  case atStart => exact ⟨0, 0, 0, rfl, rfl, rfl, by omega, rfl, by decide, rfl⟩
  case round =>
    obtain ⟨k, acc, a, rfl, rfl, rfl, hk, hh⟩ := hrel
    obtain ⟨ha, hacc, hdec⟩ := hh.out
    clear hh
    by_cases hkn : k < t.size
    · have hc := hB k hkn
      have hdrop : bs.drop k = bs[k]'(by omega) :: bs.drop (k + 1) := List.drop_eq_getElem_cons (by omega)
      have hget : bs.getD k 0 = bs[k]'(by omega) := by simp [List.getD, List.getElem?_eq_getElem (show k < bs.length by omega)]
      rw [hdrop] at hdec
      rw [hget] at hc
      generalize bs[k]'(by omega) = c at hc hdec
      have hc256 : c.toNat < 256 := c.toNat_lt
      have hacc16 : acc < 16 := by
        have : 16 ^ k ≤ 16 ^ 1 := Nat.pow_le_pow_right (by decide) (by omega)
        omega
      have a0 : 0 ≤ a := by omega
      have a1 : a < 16 := by omega
      have HN0 : Hid (a = (acc : Int) ∧ acc < 16 ^ k ∧ hexN 0 bs = hexN acc (c :: bs.drop (k + 1))) := ⟨ha, hacc, hdec⟩
      clear hB hdrop hget ha hacc hdec hacc16
      have next : ∀ (d : Nat), hexD c = some d → Hid (a * 16 + (d : Int) = ((16 * acc + d : Nat) : Int) ∧ 16 * acc + d < 16 ^ (k + 1) ∧ hexN 0 bs = hexN (16 * acc + d) (bs.drop (k + 1))) := by
        intro d hd
        have h16 := hex_lt hd
        obtain ⟨h1, h2, h3⟩ := HN0.out
        refine ⟨by omega, by rw [Nat.pow_succ]; omega, ?_⟩
        rw [h3, hexN, hd]
      by_cases hdig : 48 ≤ c.toNat ∧ c.toNat ≤ 57
      · have HN := next (c.toNat - 48) (by rw [hexD, if_pos hdig])
        obtain ⟨hd0, hd1⟩ := hdig
        have HE : Hid ((c.toNat : Int) - 48 = ((c.toNat - 48 : Nat) : Int)) := by show _ = _; omega
        clear next
        go_wp2
        go_round
        case rel => exact ⟨k + 1, 16 * acc + (c.toNat - 48), a * 16 + ((c.toNat - 48 : Nat) : Int), rfl, by first | (rw [← HE.out]; done) | (rw [← HE.out]; go_num), by go_num, by omega, HN⟩
        case measure => simp [intOf]; omega
      · obtain ⟨z, hz, hz255, hy, hn, h95⟩ := low_fact c hdig
        have hLow := fun X => lower_any (c.toNat : Int) X
        rw [hz] at hLow
        have hz255' : (z : Int) ≤ 255 := by omega
        have HDG := hide0 hdig
        have HNX := hide0 next
        have bad : hexD c = none → Hid (hexN 0 bs = none) := by
          intro h
          rw [Hid, HN0.out.2.2, hexN, h]
        have HBAD := hide0 bad
        clear hz hdig next bad
        by_cases h97 : 97 ≤ z
        · by_cases h122 : z ≤ 122
          · have hc95 : ((c.toNat : Int) == 95) = false := by have := h95 h97 h122; simp; omega
            by_cases h102 : z ≤ 102
            · obtain ⟨hd, _⟩ := hy h97 h102
              have HN := HNX.out (z - 87) hd
              have i97 : (97 : Int) ≤ z := by omega
              have i122 : (z : Int) ≤ 122 := by omega
              have i102 : (z : Int) ≤ 102 := by omega
              have HE : Hid ((z : Int) - 97 + 10 = ((z - 87 : Nat) : Int)) := by show _ = _; omega
              clear hy hn h95 h97 h122 h102 hd HNX HBAD
              by_cases h48 : (48 : Int) ≤ (c.toNat : Int)
              · have h57 : ¬ (c.toNat : Int) ≤ 57 := by have := HDG.out; omega
                go_wp2_with (go_at_call 122; refine (hLow _).mono ?_; rintro e w' ⟨rfl, rfl⟩)
                go_round
                case rel => exact ⟨k + 1, 16 * acc + (z - 87), a * 16 + ((z - 87 : Nat) : Int), rfl, by first | (rw [← HE.out]; done) | (rw [← HE.out]; go_num), by go_num, by omega, HN⟩
                case measure => simp [intOf]; omega
              · go_wp2_with (go_at_call 122; refine (hLow _).mono ?_; rintro e w' ⟨rfl, rfl⟩)
                go_round
                case rel => exact ⟨k + 1, 16 * acc + (z - 87), a * 16 + ((z - 87 : Nat) : Int), rfl, by first | (rw [← HE.out]; done) | (rw [← HE.out]; go_num), by go_num, by omega, HN⟩
                case measure => simp [intOf]; omega
            · have HF := HBAD.out (hn (.inr (by omega)))
              have i97 : (97 : Int) ≤ z := by omega
              have i122 : (z : Int) ≤ 122 := by omega
              have i102 : (102 : Int) < z := by omega
              clear hy hn h95 h97 h122 h102 HNX HBAD
              by_cases h48 : (48 : Int) ≤ (c.toNat : Int)
              · have h57 : ¬ (c.toNat : Int) ≤ 57 := by have := HDG.out; omega
                go_wp2_with (go_at_call 122; refine (hLow _).mono ?_; rintro e w' ⟨rfl, rfl⟩)
                go_ret2
                exact ⟨by rw [HF.out]; rfl, HBW.out⟩
              · go_wp2_with (go_at_call 122; refine (hLow _).mono ?_; rintro e w' ⟨rfl, rfl⟩)
                go_ret2
                exact ⟨by rw [HF.out]; rfl, HBW.out⟩
          · have HF := HBAD.out (hn (.inr (by omega)))
            have i97 : (97 : Int) ≤ z := by omega
            have i122 : ¬ (z : Int) ≤ 122 := by omega
            clear hy hn h95 h97 h122 HNX HBAD
            by_cases h48 : (48 : Int) ≤ (c.toNat : Int)
            · have h57 : ¬ (c.toNat : Int) ≤ 57 := by have := HDG.out; omega
              cases h95 : ((c.toNat : Int) == 95)
              all_goals
                go_wp2_with (go_at_call 122; refine (hLow _).mono ?_; rintro e w' ⟨rfl, rfl⟩)
                go_ret2
                exact ⟨by rw [HF.out]; rfl, HBW.out⟩
            · have h95 : ((c.toNat : Int) == 95) = false := by simp; omega
              go_wp2_with (go_at_call 122; refine (hLow _).mono ?_; rintro e w' ⟨rfl, rfl⟩)
              go_ret2
              exact ⟨by rw [HF.out]; rfl, HBW.out⟩
        · have HF := HBAD.out (hn (.inl h97))
          have i97 : ¬ (97 : Int) ≤ z := by omega
          clear hy hn h95 h97 HNX HBAD
          by_cases h48 : (48 : Int) ≤ (c.toNat : Int)
          · have h57 : ¬ (c.toNat : Int) ≤ 57 := by have := HDG.out; omega
            cases h95 : ((c.toNat : Int) == 95)
            all_goals
              go_wp2_with (go_at_call 122; refine (hLow _).mono ?_; rintro e w' ⟨rfl, rfl⟩)
              go_ret2
              exact ⟨by rw [HF.out]; rfl, HBW.out⟩
          · have h95 : ((c.toNat : Int) == 95) = false := by simp; omega
            go_wp2_with (go_at_call 122; refine (hLow _).mono ?_; rintro e w' ⟨rfl, rfl⟩)
            go_ret2
            exact ⟨by rw [HF.out]; rfl, HBW.out⟩
    · have HF : Hid (hexN 0 bs = some acc) := by
        rw [Hid, hdec, List.drop_eq_nil_of_le (by omega)]; rfl
      have HA := hide0 ha
      clear hacc hdec ha
      go_wp2
      go_ret2
      exact ⟨by rw [HF.out, HA.out]; rfl, HBW.out⟩
end Go.Proofs.YtodlcnbknjldnaaGreatDoor
namespace Go.Proofs.YtodlcnbknjldnaaGreatDoor
open Go.RowKit Chron
def oC : Option (UInt8 × List UInt8) → UInt8
  | some (c, _) => c
  | none => 0
def oR : Option (UInt8 × List UInt8) → Option (List UInt8)
  | some (_, r) => some r
  | none => none
def nextL (l : List UInt8) : Option (UInt8 × List UInt8) :=
  match l with
  | [] => none
  | x :: r => some (x, r)
def escL (l : List UInt8) : Option (UInt8 × List UInt8) :=
  match l with
  | [] => none
  | c :: r2 => if c = 34 ∨ c = 92 ∨ c = 47 then some (c, r2) else if c = 117 then plainL (codedL r2) else none
theorem letter_esc (x : UInt8) (r : List UInt8) : letterL (x :: r) = if x = 92 then escL r else plainL (some (x, r)) := by
  unfold letterL escL
  rfl
def St (R : Nat) (w : World) (b : Bool) (o : Option (List UInt8)) : Prop := Rd R w (stL o) (stB b o)
theorem ret_u8 {a b : Int} (h : a = b) : Ending.returned (.int .u8 a) = .returned (.int .u8 b) := by rw [h]
set_option maxRecDepth 100000 in
theorem rnext_any (R : Nat) (l : List UInt8) (b : Bool) (w : World) (h : Hid (Rd R w l b)) (hl : l.length ≤ 1048576) :
    Calls Tryz.prog 73 #[.pointer (some ⟨R, 0, none⟩)] w fun e w' => e = .returned (.int .u8 ((oC (nextL l)).toNat : Int)) ∧ Hid (St R w' b (oR (nextL l))) ∧ Hid (Far w w' [some R]) := by
  cases l with
  | nil =>
    obtain ⟨c0, c1, cf⟩ := h.out.cells
    have he : (ba ([] : List UInt8)).toList = [] := ba_toList []
    go_enter Tryz.func73, Tryz.ntmps73
    go_wp2_with fail
    refine (fail_any R _ _ _ h).mono ?_
    rintro e w1 ⟨rfl, H1, HF1⟩
    go_wp2
    go_ret
    exact ⟨rfl, H1, HF1⟩
  | cons x r =>
    obtain ⟨S, HSE, hne, hle, hext, hlt, hb0⟩ : ∃ S, Hid (ba (x :: r) = S) ∧ (S.toList == []) = false ∧ S.size ≤ 1048576 ∧ S.extract 1 S.size = ba r ∧ ∃ hlt : 0 < S.size, S[0].toNat = x.toNat :=
      ⟨ba (x :: r), rfl, by rw [ba_toList]; rfl, by rw [ba_len]; omega, rest_bytes x r, by rw [ba_len]; simp, rfl⟩
    have HB0 := hide0 hb0
    clear hb0
    obtain ⟨c0, c1, cf⟩ := h.out.cells
    rw [HSE.out] at c0
    have H2 := hide0 (h.out.set (l' := r))
    go_enter Tryz.func73, Tryz.ntmps73
    go_wp2
    go_ret
    exact ⟨ret_u8 (by rw [HB0.out]; rfl), H2, (Far.refl w _).setCell (p := ⟨R, 0, none⟩) (.inl (by simp)) _⟩
set_option maxRecDepth 100000 in
theorem plain_any (R : Nat) (l : List UInt8) (b : Bool) (z : Int) (c : UInt8) (hz : z = (c.toNat : Int)) (w : World) (h : Hid (Rd R w l b)) :
    Calls Tryz.prog 75 #[.pointer (some ⟨R, 0, none⟩), .int .u8 z] w fun e w' => e = .returned (.int .u8 ((oC (plainL (some (c, l)))).toNat : Int)) ∧ Hid (St R w' b (oR (plainL (some (c, l))))) ∧ Hid (Far w w' [some R]) := by
  subst hz
  have hP := fun X => isPlain_any (c.toNat : Int) X
  have hd : decide (32 ≤ (c.toNat : Int) ∧ (c.toNat : Int) ≤ 126) = byteOk c := by
    rw [Bool.eq_iff_iff]; simp [byteOk]
  rw [hd] at hP
  cases hb : byteOk c with
  | true =>
    have HE : Hid (plainL (some (c, l)) = some (c, l)) := by rw [Hid, plainL]; simp [hb]
    rw [hb] at hP
    go_enter Tryz.func75, Tryz.ntmps75
    go_wp2_with fail
    refine (hP _).mono ?_
    rintro e w1 ⟨rfl, hw⟩
    have hw2 := hw.symm
    subst hw2
    clear hw
    go_wp2
    go_ret
    exact ⟨ret_u8 (by rw [HE.out]; rfl), by rw [HE.out]; exact h, Far.refl _ _⟩
  | false =>
    have HE : Hid (plainL (some (c, l)) = none) := by rw [Hid, plainL]; simp [hb]
    rw [hb] at hP
    go_enter Tryz.func75, Tryz.ntmps75
    go_wp2_with fail
    refine (hP _).mono ?_
    rintro e w1 ⟨rfl, hw⟩
    have hw2 := hw.symm
    subst hw2
    clear hw
    go_wp2_with fail
    refine (fail_any R _ _ _ h).mono ?_
    rintro e w1 ⟨rfl, H1, HF1⟩
    go_wp2
    go_ret
    exact ⟨ret_u8 (by rw [HE.out]; rfl), by rw [HE.out]; exact H1, HF1⟩
end Go.Proofs.YtodlcnbknjldnaaGreatDoor
namespace Go.Proofs.YtodlcnbknjldnaaGreatDoor
open Go.RowKit Chron
/- what the variable strconv.ErrSyntax holds: some error -/
def ErrV (w : World) : Prop := ∃ te pe, w.cell? ⟨8, 0, none⟩ = some (.iface te pe)
theorem ErrV.below {w w' : World} (h : ErrV w) (hb : Below w.heap.size w w') : ErrV w' := by
  obtain ⟨te, pe, h⟩ := h
  exact ⟨te, pe, (hb.cell (World.block_lt_of_cell? w _ h)).trans h⟩
set_option maxRecDepth 100000 in
set_option maxHeartbeats 4000000 in
theorem syntaxError_any (fn s : ByteArray) (w : World) (hs : s.size ≤ 2) (h : ErrV w) :
    Calls Tryz.prog 124 #[.string fn, .string s] w fun e w' => (∃ N, e = .returned (.pointer (some ⟨N, 0, none⟩))) ∧ Below w.heap.size w w' := by
  obtain ⟨te, pe, hv⟩ := h
  have hG := World.block_lt_of_cell? w _ hv
  have hvd : w.drew.cell? ⟨8, 0, none⟩ = some (.iface te pe) := hv
  go_enter Tryz.func124, Tryz.ntmps124
  go_wp2_with fail
  go_region_with (
    go_at_call 129
    refine (Tryz.stringslite_Clone s _ (by omega)).mono ?_
    rintro e w2 ⟨rfl, hbel⟩
    have hv2 : w2.cell? ⟨8, 0, none⟩ = some (.iface te pe) := (hbel.cell (show (⟨8, 0, none⟩ : Addr).block < w.drew.heap.size from hG)).trans hvd)
  all_goals
    go_wp2
    go_ret
    exact ⟨⟨_, rfl⟩, ((Below.drew (Below.refl _ w)).trans hbel).alloc hbel.size _⟩
set_option maxRecDepth 100000 in
set_option maxHeartbeats 4000000 in
theorem toError_any (fn s : ByteArray) (w : World) (hs : s.size ≤ 2) (h : ErrV w) :
    Calls Tryz.prog 118 #[.string fn, .string s, .int .i64 16, .int .i64 8, .iface 164 (.int .i64 2)] w fun e w' => (∃ te pe, e = .returned (.iface te pe)) ∧ Below w.heap.size w w' := by
  have heq : ∀ W, (binOp .eql 85 (.iface 164 (.int .i64 2)) (.iface 164 (.int .i64 2))).run Tryz.prog W = .ok (.bool true) W := fun W => Lib.run_eql_iface_int W 2 2 Tryz.underlying85 (by kernel_rfl) Tryz.underlying164
  go_enter Tryz.func118, Tryz.ntmps118
  go_wp2_with fail
  refine (syntaxError_any fn s _ hs h).mono ?_
  rintro e w2 ⟨⟨N, rfl⟩, hb⟩
  go_wp2
  go_ret
  exact ⟨⟨_, _, rfl⟩, hb⟩
set_option maxRecDepth 100000 in
set_option maxHeartbeats 4000000 in
theorem parseUint_any (t : ByteArray) (w : World) (hne : t.size ≠ 0) (hmax : t.size ≤ 2) (h : ErrV w) :
    Calls Tryz.prog 107 #[.string t, .int .i64 16, .int .i64 8] w fun e w' => (match hexN 0 t.data.toList with | some n => e = .returned (.tuple #[.int .u64 (n : Int), .nilIface]) | none => ∃ x te pe, e = .returned (.tuple #[.int .u64 x, .iface te pe])) ∧ Below w.heap.size w w' := by
  have hP := parseHex_any t w hne hmax
  cases hq : hexN 0 t.data.toList with
  | some n =>
    rw [hq] at hP
    have he : hexE 164 (some n) = .tuple #[.int .u64 (n : Int), .nilIface] := rfl
    rw [he] at hP
    clear he
    go_enter Tryz.func107, Tryz.ntmps107
    go_wp2_with fail
    refine hP.mono ?_
    rintro e w2 ⟨rfl, hb⟩
    go_wp2
    go_ret2
    exact ⟨rfl, hb⟩
  | none =>
    rw [hq] at hP
    have he : hexE 164 none = .tuple #[.int .u64 0, .iface 164 (.int .i64 2)] := rfl
    rw [he] at hP
    clear he
    go_enter Tryz.func107, Tryz.ntmps107
    go_wp2_with fail
    refine hP.mono ?_
    rintro e w2 ⟨rfl, hb⟩
    go_wp2_with fail
    refine (toError_any _ t _ hmax (h.below hb)).mono ?_
    rintro e w3 ⟨⟨te, pe, rfl⟩, hb3⟩
    go_wp2
    go_ret2
    exact ⟨⟨_, _, _, rfl⟩, hb.trans (hb3.mono hb.size)⟩
end Go.Proofs.YtodlcnbknjldnaaGreatDoor
namespace Go.Proofs.YtodlcnbknjldnaaGreatDoor
open Go.RowKit Chron
theorem byteCells_push (l : List UInt8) (c : UInt8) : Lib.byteCells l ++ [.int .u8 (c.toNat : Int)] = Lib.byteCells (l ++ [c]) := by simp [Lib.byteCells]
set_option maxRecDepth 100000 in
set_option maxHeartbeats 1000000 in
theorem quote_any (s : ByteArray) (w : World) (hs : s.size ≤ 65536) :
    Calls Tryz.prog 53 #[.string s] w fun e w' => e = .returned (.string ⟨(qB s.data.toList).toArray⟩) ∧ Below w.heap.size w w' := by
  have HBN := hide0 (builder_new 83 5 w)
  go_enter Tryz.func53, Tryz.ntmps53
  go_wp2_with fail
  refine (Tryz.Builder_WriteByte_k w.heap.size w.heap.size _ 34 _ HBN.out (by rw [Lib.byteCells_length]; decide) (by simp)).mono ?_
  rintro e w1 ⟨rfl, hB1, hb1, _⟩
  have HB1 : Hid (Lib.IsBuilderF 83 5 w.heap.size w.heap.size (Lib.byteCells [34]) w1) := .inr hB1
  have HW1 : Hid (Below w.heap.size w w1) := ((Below.refl _ _).alloc (Nat.le_refl _) _).trans hb1
  clear hB1 hb1 HBN
  go_wp2
  go_loopw [8] (fun i wx => ∃ k : Nat, k ≤ s.size ∧ i = .int .i64 k ∧ Hid (Lib.IsBuilderF 83 5 w.heap.size w.heap.size (Lib.byteCells (34 :: inQ (s.data.toList.take k))) wx) ∧ Hid (Below w.heap.size w wx)) (fun i _ => s.size - (intOf i).toNat)
  case atStart => exact ⟨0, Nat.zero_le _, rfl, HB1, HW1⟩
  case round =>
    obtain ⟨k, hk, rfl, HB, HW⟩ := hrel
    have hlen : (34 :: inQ (s.data.toList.take k) : List UInt8).length ≤ 140000 := by
      have := inQ_len (s.data.toList.take k)
      simp at this ⊢
      omega
    have hsz := HW.out.size
    by_cases hlt : k < s.size
    · have hone : ∀ (l : List UInt8) (X : World), Lib.IsBuilderF 83 5 w.heap.size w.heap.size (Lib.byteCells l) X → l.length ≤ 140001 → w.heap.size ≤ X.heap.size → ∀ (z : Int) (c : UInt8), z = (c.toNat : Int) → Calls Tryz.prog 50 #[.pointer (some ⟨w.heap.size, 0, none⟩), .int .u8 z] X fun e X' => e = .returned .nilIface ∧ Hid (Lib.IsBuilderF 83 5 w.heap.size w.heap.size (Lib.byteCells (l ++ [c])) X') ∧ Below w.heap.size X X' := by
        intro l X hX hl hs z c hz
        subst hz
        refine (Tryz.Builder_WriteByte_k w.heap.size w.heap.size _ _ _ hX (by rw [Lib.byteCells_length]; omega) hs).mono ?_
        rintro e w1 ⟨rfl, hB1, hb1, _⟩
        rw [byteCells_push] at hB1
        exact ⟨rfl, .inr hB1, hb1⟩
      have HO := hide0 hone
      clear hone
      by_cases h34 : (s[k].toNat : Int) = 34 ∨ (s[k].toNat : Int) = 92
      · have HE := hide0 ((inQ_take s k hlt).trans (by rw [esc_yes h34]))
        have hcd : ((s[k].toNat : Int) == 34 || (s[k].toNat : Int) == 92) = true := by simpa using h34
        clear h34
        go_wp2_with fail
        all_goals
          refine (HO.out _ _ HB.out (by omega) hsz 92 92 rfl).mono ?_
          rintro e w2 ⟨rfl, HB2, hb2⟩
          have hs2 := hb2.size
          go_wp2_with fail
          refine (HO.out _ _ HB2.out (by rw [List.length_append]; exact Nat.add_le_add hlen (Nat.le_refl 1)) (by omega) _ s[k] (by omega)).mono ?_
          rintro e w3 ⟨rfl, HB3, hb3⟩
          have HW3 := hide0 ((HW.out.trans hb2).trans hb3)
          clear hb2 hb3
          go_wp2
          go_roundw
          case rel => exact ⟨k + 1, by omega, by go_num, by rw [HE.out]; simpa using HB3, HW3⟩
          case measure => simp [intOf]; omega
      · have h1 : ¬ (s[k].toNat : Int) = 34 := fun h => h34 (.inl h)
        have h2 : ¬ (s[k].toNat : Int) = 92 := fun h => h34 (.inr h)
        have HE := hide0 ((inQ_take s k hlt).trans (by rw [esc_no h1 h2]))
        have hc1 : ((s[k].toNat : Int) == 34) = false := by simp [h1]
        have hc2 : ((s[k].toNat : Int) == 92) = false := by simp [h2]
        clear h34 h1 h2
        go_wp2_with fail
        refine (HO.out _ _ HB.out (by omega) hsz _ s[k] rfl).mono ?_
        rintro e w3 ⟨rfl, HB3, hb3⟩
        have HW3 := hide0 (HW.out.trans hb3)
        clear hb3
        go_wp2
        go_roundw
        case rel => exact ⟨k + 1, by omega, by go_num, by rw [HE.out]; simpa using HB3, HW3⟩
        case measure => simp [intOf]; omega
    · have HA : Hid (qB s.data.toList = 34 :: inQ (s.data.toList.take k) ++ [34]) := by
        rw [List.take_of_length_le (by simp; omega)]; rfl
      go_wp2_with fail
      refine (Tryz.Builder_WriteByte_k w.heap.size w.heap.size _ 34 _ HB.out (by rw [Lib.byteCells_length]; omega) hsz).mono ?_
      rintro e w2 ⟨rfl, hB2, hb2, _⟩
      have hs2 := hb2.size
      have HB2 : Hid (Lib.IsBuilderF 83 5 w.heap.size w.heap.size (Lib.byteCells (qB s.data.toList)) w2) := by
        rw [HA.out]
        have := byteCells_push (34 :: inQ (s.data.toList.take k)) 34
        rw [← this]
        exact .inr hB2
      clear hB2
      go_wp2_with fail
      refine (Tryz.Builder_String_any_k w.heap.size w.heap.size _ _ HB2.out (by omega)).mono ?_
      rintro e w3 ⟨rfl, hB3, hb3, _⟩
      go_wp2
      go_ret
      exact ⟨rfl, (HW.out.trans hb2).trans hb3⟩
end Go.Proofs.YtodlcnbknjldnaaGreatDoor
