/- Walks and plain facts, in the order in which they lean on one another. -/
import Derived.Test.YtdjllnhahhjgmabW04
import Derived.Lib.SlTrimSet
import Derived.Lib.ConvBytes
import Derived.Lib.AtoiErrMem
import Derived.Lib.IfaceEq
import Derived.Laws.Closers25
import Derived.Laws.Closers25b
import Derived.Shelf.Pu.SyntaxError
import Derived.Test.YtdjllnhahhjgmabW01
import Derived.Deep.RegionWith
import Derived.Test.YtdjllnhahhjgmabW02
import Derived.Lib.LaidTab
import Derived.Lib.AppendIntMem
import Derived.WalkSmall
import Derived.Test.YtdjllnhahhjgmabW03
namespace Chron
open Go Go.RowKit
def isBlank (c : UInt8) : Bool := c == 32 || c == 10 || c == 13 || c == 9
def skipL (l : List UInt8) : List UInt8 := l.dropWhile isBlank
theorem skip_suf (l : List UInt8) : skipL l <:+ l := List.dropWhile_suffix _
theorem skip_skip (l : List UInt8) : skipL (skipL l) = skipL l := by
  unfold skipL
  induction l with
  | nil => rfl
  | cons x l ih =>
    by_cases h : isBlank x = true
    · rw [List.dropWhile_cons_of_pos h]; exact ih
    · rw [List.dropWhile_cons_of_neg h, List.dropWhile_cons_of_neg h]
def signL (c : UInt8) (l : List UInt8) : Option (List UInt8) :=
  match skipL l with
  | x :: r => if x = c then some r else none
  | [] => none
theorem sign_some {c : UInt8} {l r : List UInt8} (h : signL c l = some r) : skipL l = c :: r := by
  unfold signL at h
  split at h
  · rename_i x r' e
    split at h
    · rename_i hx
      simp only [Option.some.injEq] at h
      rw [e, hx, h]
    · cases h
  · cases h
theorem sign_none {c : UInt8} {l : List UInt8} (h : signL c l = none) : skipL l = [] ∨ ∃ x r, skipL l = x :: r ∧ x ≠ c := by
  unfold signL at h
  split at h
  · rename_i x r e
    split at h
    · cases h
    · rename_i hx
      exact .inr ⟨x, r, e, hx⟩
  · rename_i e
    exact .inl e
theorem sign_suf {c : UInt8} {l r : List UInt8} (h : signL c l = some r) : r <:+ l ∧ r.length < l.length := by
  have h1 := sign_some h
  have h2 := skip_suf l
  rw [h1] at h2
  refine ⟨(List.suffix_cons c r).trans h2, ?_⟩
  have := h2.length_le
  simp at this
  omega
theorem sign_other {c d : UInt8} {l r : List UInt8} (h : signL c l = some r) (hd : d ≠ c) : signL d l = none := by
  have := sign_some h
  unfold signL
  rw [this]
  simp [Ne.symm hd]
theorem sign_nil (c : UInt8) : signL c [] = none := rfl
def hexD (b : UInt8) : Option Nat :=
  if 48 ≤ b.toNat ∧ b.toNat ≤ 57 then some (b.toNat - 48) else if 97 ≤ b.toNat ∧ b.toNat ≤ 102 then some (b.toNat - 87) else if 65 ≤ b.toNat ∧ b.toNat ≤ 70 then some (b.toNat - 55) else none
theorem hex_lt {b : UInt8} {n : Nat} (h : hexD b = some n) : n < 16 := by
  unfold hexD at h
  split at h
  · simp at h; omega
  · split at h
    · simp at h; omega
    · split at h
      · simp at h; omega
      · cases h
def codedL (l : List UInt8) : Option (UInt8 × List UInt8) :=
  match l with
  | z :: y :: a :: b :: r => if z = 48 ∧ y = 48 then (match hexD a, hexD b with | some m, some n => some (UInt8.ofNat (16 * m + n), r) | _, _ => none) else none
  | _ => none
def plainL : Option (UInt8 × List UInt8) → Option (UInt8 × List UInt8)
  | some (c, r) => if byteOk c then some (c, r) else none
  | none => none
def letterL (l : List UInt8) : Option (UInt8 × List UInt8) :=
  match l with
  | [] => none
  | x :: r => if x = 92 then (match r with
      | [] => none
      | c :: r2 => if c = 34 ∨ c = 92 ∨ c = 47 then some (c, r2) else if c = 117 then plainL (codedL r2) else none) else plainL (some (x, r))
theorem coded_suf {l r : List UInt8} {c : UInt8} (h : codedL l = some (c, r)) : r <:+ l := by
  unfold codedL at h
  split at h
  · rename_i z y a b r'
    split at h
    · split at h
      · simp only [Option.some.injEq, Prod.mk.injEq] at h
        rw [← h.2]
        exact ⟨[z, y, a, b], rfl⟩
      · cases h
    · cases h
  · cases h
theorem plain_some {o : Option (UInt8 × List UInt8)} {c : UInt8} {r : List UInt8} (h : plainL o = some (c, r)) : o = some (c, r) ∧ byteOk c = true := by
  unfold plainL at h
  split at h
  · split at h
    · rename_i hb
      simp only [Option.some.injEq, Prod.mk.injEq] at h
      obtain ⟨rfl, rfl⟩ := h
      exact ⟨rfl, hb⟩
    · cases h
  · cases h
theorem letter_suf {l r : List UInt8} {c : UInt8} (h : letterL l = some (c, r)) : r <:+ l ∧ r.length < l.length := by
  unfold letterL at h
  split at h
  · cases h
  · rename_i x r0
    have key : r <:+ r0 → r <:+ x :: r0 ∧ r.length < (x :: r0).length := fun h => ⟨h.trans (List.suffix_cons _ _), by have := h.length_le; simp; omega⟩
    split at h
    · split at h
      · cases h
      · rename_i c' r2
        split at h
        · simp only [Option.some.injEq, Prod.mk.injEq] at h
          rw [← h.2]
          rw [← h.2] at key
          exact key (List.suffix_cons _ _)
        · split at h
          · exact key ((coded_suf (plain_some h).1).trans (List.suffix_cons _ _))
          · cases h
    · have := (plain_some h).1
      simp only [Option.some.injEq, Prod.mk.injEq] at this
      rw [← this.2]
      rw [← this.2] at key
      exact key List.suffix_rfl
theorem letter_ok {l r : List UInt8} {c : UInt8} (h : letterL l = some (c, r)) : byteOk c = true := by
  unfold letterL at h
  split at h
  · cases h
  · split at h
    · split at h
      · cases h
      · split at h
        · rename_i hc
          simp only [Option.some.injEq, Prod.mk.injEq] at h
          obtain ⟨rfl, _⟩ := h
          rcases hc with rfl | rfl | rfl <;> decide
        · split at h
          · exact (plain_some h).2
          · cases h
    · exact (plain_some h).2
/- what stands in quotes, up to the end of them -/
def inF : Nat → List UInt8 → Option (List UInt8 × List UInt8)
  | 0, _ => none
  | _ + 1, [] => none
  | n + 1, x :: r => if x = 34 then some ([], r) else
    match letterL (x :: r) with
    | none => none
    | some (c, r2) => (inF n r2).map fun p => (c :: p.1, p.2)
theorem inF_eq : ∀ (n m : Nat) (l : List UInt8), l.length < n → l.length < m → inF n l = inF m l
  | 0, _, _, h, _ => absurd h (Nat.not_lt_zero _)
  | _ + 1, 0, _, _, h => absurd h (Nat.not_lt_zero _)
  | _ + 1, _ + 1, [], _, _ => rfl
  | n + 1, m + 1, x :: r, h1, h2 => by
    rw [inF, inF]
    by_cases hx : x = 34
    · rw [if_pos hx, if_pos hx]
    · rw [if_neg hx, if_neg hx]
      cases hl : letterL (x :: r) with
      | none => rfl
      | some p =>
        obtain ⟨c, r2⟩ := p
        have h3 := (letter_suf hl).2
        simp only
        rw [inF_eq n m r2 (by omega) (by omega)]
def inL (l : List UInt8) : Option (List UInt8 × List UInt8) := inF (l.length + 1) l
theorem in_nil : inL [] = none := rfl
theorem in_end (r : List UInt8) : inL (34 :: r) = some ([], r) := by rw [inL, inF, if_pos rfl]
theorem in_step {x c : UInt8} {r r2 : List UInt8} (hx : x ≠ 34) (h : letterL (x :: r) = some (c, r2)) : inL (x :: r) = (inL r2).map fun p => (c :: p.1, p.2) := by
  have h3 := (letter_suf h).2
  rw [inL, inF, if_neg hx, h]
  simp only
  rw [inF_eq _ (r2.length + 1) r2 h3 (by omega), inL]
theorem in_bad {x : UInt8} {r : List UInt8} (hx : x ≠ 34) (h : letterL (x :: r) = none) : inL (x :: r) = none := by
  rw [inL, inF, if_neg hx, h]
theorem in_suf : ∀ (n : Nat) {l s r : List UInt8}, l.length ≤ n → inL l = some (s, r) → r <:+ l ∧ r.length < l.length ∧ s.length < l.length
  | 0, l, s, r, hn, h => by
    have : l = [] := List.eq_nil_of_length_eq_zero (by omega)
    rw [this, in_nil] at h; cases h
  | n + 1, [], s, r, hn, h => by rw [in_nil] at h; cases h
  | n + 1, x :: l, s, r, hn, h => by
    by_cases hx : x = 34
    · subst hx
      rw [in_end] at h
      simp only [Option.some.injEq, Prod.mk.injEq] at h
      obtain ⟨rfl, rfl⟩ := h
      exact ⟨List.suffix_cons _ _, by simp, by simp⟩
    · cases hl : letterL (x :: l) with
      | none => rw [in_bad hx hl] at h; cases h
      | some p =>
        obtain ⟨c, r2⟩ := p
        rw [in_step hx hl] at h
        cases hi : inL r2 with
        | none => rw [hi] at h; cases h
        | some q =>
          obtain ⟨s', r'⟩ := q
          rw [hi] at h
          simp only [Option.map_some, Option.some.injEq, Prod.mk.injEq] at h
          obtain ⟨rfl, rfl⟩ := h
          have h1 := letter_suf hl
          obtain ⟨h2, h3, h4⟩ := in_suf n (by have := h1.2; simp at this hn; omega) hi
          have h5 := h1.2
          simp only [List.length_cons] at h5 ⊢
          exact ⟨h2.trans h1.1, by omega, by omega⟩
def quoteL (l : List UInt8) : Option (List UInt8 × List UInt8) :=
  match signL 34 l with
  | some r => inL r
  | none => none
theorem quote_suf {l s r : List UInt8} (h : quoteL l = some (s, r)) : r <:+ l ∧ r.length < l.length ∧ s.length < l.length := by
  unfold quoteL at h
  split at h
  · rename_i r0 e
    have h1 := sign_suf e
    obtain ⟨h2, h3, h4⟩ := in_suf _ (Nat.le_refl _) h
    have h5 := h1.2
    exact ⟨h2.trans h1.1, by omega, by omega⟩
  · cases h
def isDig (c : UInt8) : Bool := decide (48 ≤ c.toNat) && decide (c.toNat ≤ 57)
def capN (n d : Nat) : Nat := min (10 * n + (d - 48)) 1125899906842625
def numL (ds : List UInt8) : Nat := ds.foldl (fun n d => capN n d.toNat) 0
def badNum (ds : List UInt8) : Bool := ds.isEmpty || (ds.head? == some 48 && ds != [48])
def countL (l : List UInt8) : Option (Nat × List UInt8) :=
  let ds := (skipL l).takeWhile isDig
  if badNum ds then none else some (numL ds, (skipL l).dropWhile isDig)
theorem count_suf {l r : List UInt8} {n : Nat} (h : countL l = some (n, r)) : r <:+ l ∧ r.length < l.length := by
  unfold countL at h
  simp only at h
  split at h
  · cases h
  · rename_i hb
    simp only [Option.some.injEq, Prod.mk.injEq] at h
    obtain ⟨_, rfl⟩ := h
    have h1 := (List.dropWhile_suffix isDig (l := skipL l)).trans (skip_suf l)
    refine ⟨h1, ?_⟩
    have h2 := congrArg List.length (List.takeWhile_append_dropWhile (p := isDig) (l := skipL l))
    have h3 := (skip_suf l).length_le
    have h4 : (skipL l).takeWhile isDig ≠ [] := by
      intro e
      rw [e] at hb
      simp [badNum] at hb
    have h5 := List.length_pos_iff.2 h4
    simp only [List.length_append] at h2
    omega
/- things with a comma between two, up to the bracket -/
def itemsF {α : Type} (one : List UInt8 → Option (α × List UInt8)) : Nat → List UInt8 → Option (List α × List UInt8)
  | 0, _ => none
  | n + 1, l =>
    match one l with
    | none => none
    | some (x, r) =>
      match signL 44 r with
      | some r2 => (itemsF one n r2).map fun p => (x :: p.1, p.2)
      | none => (signL 93 r).map fun r3 => ([x], r3)
theorem itemsF_eq {α : Type} {one : List UInt8 → Option (α × List UInt8)} (hone : ∀ l x r, one l = some (x, r) → r.length < l.length) : ∀ (n m : Nat) (l : List UInt8), l.length < n → l.length < m → itemsF one n l = itemsF one m l
  | 0, _, _, h, _ => absurd h (Nat.not_lt_zero _)
  | _ + 1, 0, _, _, h => absurd h (Nat.not_lt_zero _)
  | n + 1, m + 1, l, h1, h2 => by
    rw [itemsF, itemsF]
    cases h3 : one l with
    | none => rfl
    | some p =>
      obtain ⟨x, r⟩ := p
      have a1 := hone l x r h3
      simp only
      cases h4 : signL 44 r with
      | none => rfl
      | some r2 =>
        have a2 := (sign_suf h4).2
        simp only
        rw [itemsF_eq hone n m r2 (by omega) (by omega)]
def itemsL {α : Type} (one : List UInt8 → Option (α × List UInt8)) (_hone : ∀ l x r, one l = some (x, r) → r.length < l.length) (l : List UInt8) : Option (List α × List UInt8) := itemsF one (l.length + 1) l
theorem items_none {α : Type} {one : List UInt8 → Option (α × List UInt8)} {hone : ∀ l x r, one l = some (x, r) → r.length < l.length} {l : List UInt8} (h : one l = none) : itemsL one hone l = none := by
  rw [itemsL, itemsF, h]
theorem items_more {α : Type} {one : List UInt8 → Option (α × List UInt8)} {hone : ∀ l x r, one l = some (x, r) → r.length < l.length} {l r r2 : List UInt8} {x : α} (h : one l = some (x, r)) (h2 : signL 44 r = some r2) : itemsL one hone l = (itemsL one hone r2).map fun p => (x :: p.1, p.2) := by
  have a1 := hone l x r h
  have a2 := (sign_suf h2).2
  rw [itemsL, itemsF, h]
  simp only [h2]
  rw [itemsF_eq hone l.length (r2.length + 1) r2 (by omega) (by omega), itemsL]
theorem items_last {α : Type} {one : List UInt8 → Option (α × List UInt8)} {hone : ∀ l x r, one l = some (x, r) → r.length < l.length} {l r : List UInt8} {x : α} (h : one l = some (x, r)) (h2 : signL 44 r = none) : itemsL one hone l = (signL 93 r).map fun r3 => ([x], r3) := by
  rw [itemsL, itemsF, h]
  simp only [h2]
theorem items_suf {α : Type} {one : List UInt8 → Option (α × List UInt8)} {hone : ∀ l x r, one l = some (x, r) → r.length < l.length} (hsuf : ∀ l x r, one l = some (x, r) → r <:+ l) : ∀ (n : Nat) {l r : List UInt8} {xs : List α}, l.length ≤ n → itemsL one hone l = some (xs, r) → r <:+ l ∧ r.length < l.length ∧ 0 < xs.length ∧ xs.length ≤ l.length
  | n, l, r, xs, hn, h => by
    cases ho : one l with
    | none => rw [items_none ho] at h; cases h
    | some p =>
      obtain ⟨x, r0⟩ := p
      have h0 := hone l x r0 ho
      have s0 := hsuf l x r0 ho
      cases hs : signL 44 r0 with
      | none =>
        rw [items_last ho hs] at h
        cases h3 : signL 93 r0 with
        | none => rw [h3] at h; cases h
        | some r3 =>
          rw [h3] at h
          simp only [Option.map_some, Option.some.injEq, Prod.mk.injEq] at h
          obtain ⟨rfl, rfl⟩ := h
          have := sign_suf h3
          have := this.2
          exact ⟨(sign_suf h3).1.trans s0, by omega, by simp, by simp; omega⟩
      | some r2 =>
        rw [items_more ho hs] at h
        have hs2 := sign_suf hs
        have hl2 := hs2.2
        cases hi : itemsL one hone r2 with
        | none => rw [hi] at h; cases h
        | some q =>
          obtain ⟨ys, r3⟩ := q
          rw [hi] at h
          simp only [Option.map_some, Option.some.injEq, Prod.mk.injEq] at h
          obtain ⟨rfl, rfl⟩ := h
          match n, hn with
          | 0, hn => omega
          | n + 1, hn =>
            obtain ⟨a1, a2, a3, a4⟩ := items_suf hsuf n (by omega) hi
            exact ⟨(a1.trans hs2.1).trans s0, by omega, by simp, by simp; omega⟩
def listL {α : Type} (one : List UInt8 → Option (α × List UInt8)) (hone : ∀ l x r, one l = some (x, r) → r.length < l.length) (l : List UInt8) : Option (List α × List UInt8) :=
  match signL 91 l with
  | none => none
  | some r => match signL 93 r with
    | some r2 => some ([], r2)
    | none => itemsL one hone r
theorem list_suf {α : Type} {one : List UInt8 → Option (α × List UInt8)} {hone : ∀ l x r, one l = some (x, r) → r.length < l.length} (hsuf : ∀ l x r, one l = some (x, r) → r <:+ l) {l r : List UInt8} {xs : List α} (h : listL one hone l = some (xs, r)) : r <:+ l ∧ r.length < l.length ∧ xs.length ≤ l.length := by
  unfold listL at h
  split at h
  · cases h
  · rename_i r0 e0
    have h0 := sign_suf e0
    have h0' := h0.2
    split at h
    · rename_i r2 e2
      have h2 := sign_suf e2
      have h2' := h2.2
      simp only [Option.some.injEq, Prod.mk.injEq] at h
      obtain ⟨rfl, rfl⟩ := h
      exact ⟨h2.1.trans h0.1, by omega, by simp⟩
    · obtain ⟨a1, a2, _, a4⟩ := items_suf hsuf _ (Nat.le_refl _) h
      exact ⟨a1.trans h0.1, by omega, by omega⟩
theorem quote_one : ∀ l x r, quoteL l = some (x, r) → r.length < l.length := fun _ _ _ h => (quote_suf h).2.1
def tagsL (l : List UInt8) : Option (List (List UInt8) × List UInt8) := listL quoteL quote_one l
def nBody : List UInt8 := [98, 111, 100, 121]
def nKind : List UInt8 := [107, 105, 110, 100]
def nTags : List UInt8 := [116, 97, 103, 115]
def nTask : List UInt8 := [116, 97, 115, 107]
def nTime : List UInt8 := [116, 105, 109, 101]
def kindW (s : List UInt8) : Option Int := if s = wordB 1 then some 1 else if s = wordB 2 then some 2 else if s = wordB 3 then some 3 else if s = wordB 4 then some 4 else none
def ba (l : List UInt8) : ByteArray := ⟨l.toArray⟩
def fieldL (nm : List UInt8) (e : Ev) (l : List UInt8) : Option (Ev × List UInt8) :=
  if nm = nBody then (quoteL l).map fun p => ({ e with body := ba p.1 }, p.2)
  else if nm = nKind then (quoteL l).bind fun p => (kindW p.1).map fun k => ({ e with kind := k }, p.2)
  else if nm = nTags then (tagsL l).map fun p => ({ e with tags := p.1.map ba }, p.2)
  else if nm = nTask then (quoteL l).map fun p => ({ e with task := ba p.1 }, p.2)
  else if nm = nTime then (countL l).map fun p => ({ e with time := (p.1 : Int) }, p.2)
  else none
theorem field_suf {nm l r : List UInt8} {e e' : Ev} (h : fieldL nm e l = some (e', r)) : r <:+ l ∧ r.length < l.length := by
  have hq : ∀ {f : List UInt8 × List UInt8 → Ev}, (quoteL l).map (fun p => (f p, p.2)) = some (e', r) → r <:+ l ∧ r.length < l.length := by
    intro f h
    cases hc : quoteL l with
    | none => rw [hc] at h; cases h
    | some p =>
      rw [hc] at h
      simp only [Option.map_some, Option.some.injEq, Prod.mk.injEq] at h
      rw [← h.2]
      have := quote_suf (s := p.1) (r := p.2) hc
      exact ⟨this.1, this.2.1⟩
  unfold fieldL at h
  split at h
  · exact hq h
  · split at h
    · cases hc : quoteL l with
      | none => rw [hc] at h; cases h
      | some p =>
        rw [hc] at h
        simp only [Option.bind_some] at h
        cases hk : kindW p.1 with
        | none => rw [hk] at h; cases h
        | some k =>
          rw [hk] at h
          simp only [Option.map_some, Option.some.injEq, Prod.mk.injEq] at h
          rw [← h.2]
          have := quote_suf (s := p.1) (r := p.2) hc
          exact ⟨this.1, this.2.1⟩
    · split at h
      · cases hc : tagsL l with
        | none => rw [hc] at h; cases h
        | some p =>
          rw [hc] at h
          simp only [Option.map_some, Option.some.injEq, Prod.mk.injEq] at h
          rw [← h.2]
          have := list_suf (fun l x r h => (quote_suf h).1) (xs := p.1) (r := p.2) hc
          exact ⟨this.1, this.2.1⟩
      · split at h
        · exact hq h
        · split at h
          · cases hc : countL l with
            | none => rw [hc] at h; cases h
            | some p =>
              rw [hc] at h
              simp only [Option.map_some, Option.some.injEq, Prod.mk.injEq] at h
              rw [← h.2]
              exact count_suf (n := p.1) (r := p.2) hc
          · cases h
/- some of an event's names and what they have, a sign ahead of each -/
def stepL (c : UInt8) (e : Ev) (l : List UInt8) : Option (List UInt8 × Ev × List UInt8) :=
  match signL c l with
  | none => none
  | some r => match quoteL r with
    | none => none
    | some (nm, r1) => match signL 58 r1 with
      | none => none
      | some r2 => (fieldL nm e r2).map fun p => (nm, p.1, p.2)
theorem step_suf {c : UInt8} {e e' : Ev} {l nm r : List UInt8} (h : stepL c e l = some (nm, e', r)) : r <:+ l ∧ r.length < l.length := by
  unfold stepL at h
  split at h
  · cases h
  · rename_i r0 e0
    split at h
    · cases h
    · rename_i nm' r1 e1
      split at h
      · cases h
      · rename_i r2 e2
        cases hf : fieldL nm' e r2 with
        | none => rw [hf] at h; cases h
        | some p =>
          rw [hf] at h
          simp only [Option.map_some, Option.some.injEq, Prod.mk.injEq] at h
          obtain ⟨rfl, _, rfl⟩ := h
          have a0 := sign_suf e0
          have a1 := quote_suf e1
          have a2 := sign_suf e2
          have a3 := field_suf (e' := p.1) (r := p.2) hf
          have := a0.2; have := a1.2.1; have := a2.2; have := a3.2
          exact ⟨((a3.1.trans a2.1).trans a1.1).trans a0.1, by omega⟩
def stepsL : Nat → UInt8 → Ev → List (List UInt8) → List UInt8 → Option (Ev × List (List UInt8) × List UInt8)
  | 0, _, e, had, l => some (e, had, l)
  | n + 1, c, e, had, l => match stepL c e l with
    | none => none
    | some (nm, e', r) => stepsL n 44 e' (had ++ [nm]) r
theorem steps_suf : ∀ (n : Nat) {c : UInt8} {e e' : Ev} {had had' : List (List UInt8)} {l r : List UInt8}, stepsL n c e had l = some (e', had', r) → r <:+ l ∧ r.length + n ≤ l.length ∧ had'.length = had.length + n ∧ had <+: had'
  | 0, c, e, e', had, had', l, r, h => by
    simp only [stepsL, Option.some.injEq, Prod.mk.injEq] at h
    obtain ⟨rfl, rfl, rfl⟩ := h
    exact ⟨List.suffix_rfl, Nat.le_refl _, rfl, List.prefix_rfl⟩
  | n + 1, c, e, e', had, had', l, r, h => by
    simp only [stepsL] at h
    split at h
    · cases h
    · rename_i nm e1 r1 hs
      have a := step_suf hs
      have a2 := a.2
      obtain ⟨b1, b2, b3, b4⟩ := steps_suf n h
      refine ⟨b1.trans a.1, by omega, by simp at b3; omega, (List.prefix_append _ _).trans b4⟩
def evZero : Ev := ⟨0, ⟨#[]⟩, 0, ⟨#[]⟩, []⟩
def eventL (l : List UInt8) : Option (Ev × List UInt8) :=
  match stepsL 5 123 evZero [] l with
  | none => none
  | some (e, had, r) => if had.Nodup then (signL 125 r).map fun r2 => (e, r2) else none
theorem event_suf {l r : List UInt8} {e : Ev} (h : eventL l = some (e, r)) : r <:+ l ∧ r.length < l.length := by
  unfold eventL at h
  split at h
  · cases h
  · rename_i e' had r0 hs
    obtain ⟨b1, b2, _⟩ := steps_suf 5 hs
    split at h
    · cases hc : signL 125 r0 with
      | none => rw [hc] at h; cases h
      | some r2 =>
        rw [hc] at h
        simp only [Option.map_some, Option.some.injEq, Prod.mk.injEq] at h
        obtain ⟨rfl, rfl⟩ := h
        have := sign_suf hc
        have h2 := this.2
        exact ⟨this.1.trans b1, by omega⟩
    · cases h
theorem event_one : ∀ l x r, eventL l = some (x, r) → r.length < l.length := fun _ _ _ h => (event_suf h).2
def allL (l : List UInt8) : Option (List Ev) :=
  match listL eventL event_one l with
  | none => none
  | some (es, r) => if skipL r = [] then some es else none
def impB (s : List UInt8) : List Ev × Int :=
  if 1048576 < s.length then ([], 4) else match allL s with
  | none => ([], 4)
  | some es => if (expB es).2 = 0 then (es, 0) else ([], (expB es).2)
end Chron
namespace Go.Proofs.Ytdjllnhahhjgmab
open Go.RowKit Chron
/- where a reading has come to: what is left, or nothing and a mark -/
def stL : Option (List UInt8) → List UInt8
  | some r => r
  | none => []
def stB (b : Bool) : Option (List UInt8) → Bool
  | some _ => b
  | none => true
theorem ba_nil : ba [] = ⟨#[]⟩ := rfl
theorem ba_toList (l : List UInt8) : (ba l).toList = l := by rw [ByteArray.toList_eq]; simp [ba]
theorem ba_len (l : List UInt8) : (ba l).size = l.length := rfl
theorem trim_skip (l : List UInt8) : Lib.trimLeftS l [32, 10, 13, 9] = skipL l := by
  unfold Lib.trimLeftS skipL
  congr 1
  funext c
  rw [Bool.eq_iff_iff]
  simp [isBlank, or_assoc]
theorem rest_bytes (x : UInt8) (r : List UInt8) : (ba (x :: r)).extract 1 (ba (x :: r)).size = ba r := by
  apply bytes_inj
  have e : ((ba (x :: r)).extract 1 (ba (x :: r)).size).data.toList = (x :: r).drop 1 := by rw [extract_end]; simp [ba]
  rw [e]; simp [ba]
def takeL (c : UInt8) (l : List UInt8) : List UInt8 := match signL c l with | some r => r | none => skipL l
theorem st_take {c : UInt8} {l r : List UInt8} (h : signL c l = some r) : takeL c l = r := by unfold takeL; rw [h]
end Go.Proofs.Ytdjllnhahhjgmab
namespace Go.Proofs.Ytdjllnhahhjgmab
open Go.RowKit Chron
def hexN : Nat → List UInt8 → Option Nat
  | acc, [] => some acc
  | acc, c :: r => match hexD c with
    | none => none
    | some d => hexN (16 * acc + d) r
def hexE (T : TypeId) : Option Nat → Value
  | some n => .tuple #[.int .u64 (n : Int), .nilIface]
  | none => .tuple #[.int .u64 0, .iface T (.int .i64 2)]
set_option maxRecDepth 100000 in
theorem low_all : ∀ n : Fin 256, bits .or .u8 ((n.val : Nat) : Int) 32 = ((n.val ||| 32 : Nat) : Int) := by decide
theorem low_eq (c : UInt8) : bits .or .u8 (c.toNat : Int) 32 = ((c.toNat ||| 32 : Nat) : Int) := low_all ⟨c.toNat, c.toNat_lt⟩
def hexF (n : Nat) : Option Nat := if 48 ≤ n ∧ n ≤ 57 then some (n - 48) else if 97 ≤ n ∧ n ≤ 102 then some (n - 87) else if 65 ≤ n ∧ n ≤ 70 then some (n - 55) else none
theorem hexD_F (c : UInt8) : hexD c = hexF c.toNat := rfl
set_option maxRecDepth 100000 in
theorem low_hex : ∀ n : Fin 256, ¬ (48 ≤ n.val ∧ n.val ≤ 57) → (n.val ||| 32 ≤ 255) ∧ (97 ≤ n.val ||| 32 → n.val ||| 32 ≤ 102 → hexF n.val = some ((n.val ||| 32) - 87) ∧ n.val ≠ 95) ∧ ((¬ 97 ≤ n.val ||| 32) ∨ 102 < n.val ||| 32 → hexF n.val = none) ∧ (97 ≤ n.val ||| 32 → n.val ||| 32 ≤ 122 → n.val ≠ 95) := by decide
theorem low_fact (c : UInt8) (h : ¬ (48 ≤ c.toNat ∧ c.toNat ≤ 57)) : ∃ z : Nat, bits .or .u8 (c.toNat : Int) 32 = (z : Int) ∧ z ≤ 255 ∧ (97 ≤ z → z ≤ 102 → hexD c = some (z - 87) ∧ c.toNat ≠ 95) ∧ ((¬ 97 ≤ z) ∨ 102 < z → hexD c = none) ∧ (97 ≤ z → z ≤ 122 → c.toNat ≠ 95) :=
  ⟨c.toNat ||| 32, low_eq c, (low_hex ⟨c.toNat, c.toNat_lt⟩ h)⟩
end Go.Proofs.Ytdjllnhahhjgmab
namespace Go.Proofs.Ytdjllnhahhjgmab
open Go.RowKit Chron
def oC : Option (UInt8 × List UInt8) → UInt8
  | some (c, _) => c
  | none => 0
def oR : Option (UInt8 × List UInt8) → Option (List UInt8)
  | some (_, r) => some r
  | none => none
def nextL (l : List UInt8) : Option (UInt8 × List UInt8) :=
  match l with
  | [] => none
  | x :: r => some (x, r)
def escL (l : List UInt8) : Option (UInt8 × List UInt8) :=
  match l with
  | [] => none
  | c :: r2 => if c = 34 ∨ c = 92 ∨ c = 47 then some (c, r2) else if c = 117 then plainL (codedL r2) else none
theorem letter_esc (x : UInt8) (r : List UInt8) : letterL (x :: r) = if x = 92 then escL r else plainL (some (x, r)) := by
  unfold letterL escL
  rfl
theorem ret_u8 {a b : Int} (h : a = b) : Ending.returned (.int .u8 a) = .returned (.int .u8 b) := by rw [h]
end Go.Proofs.Ytdjllnhahhjgmab
namespace Go.Proofs.Ytdjllnhahhjgmab
open Go.RowKit Chron
end Go.Proofs.Ytdjllnhahhjgmab
namespace Go.Proofs.Ytdjllnhahhjgmab
open Go.RowKit Chron
theorem byteCells_push (l : List UInt8) (c : UInt8) : Lib.byteCells l ++ [.int .u8 (c.toNat : Int)] = Lib.byteCells (l ++ [c]) := by simp [Lib.byteCells]
end Go.Proofs.Ytdjllnhahhjgmab
namespace Go.Proofs.Ytdjllnhahhjgmab
open Go.RowKit Chron
theorem put_text (b : Nat) (l : List UInt8) (s : List UInt8) (X : World) (hX : Lib.IsBuilderF 77 5 b b (Lib.byteCells l) X) (hl : l.length + s.length ≤ 1000000) :
    Calls Try.prog 37 #[.pointer (some ⟨b, 0, none⟩), .string ⟨s.toArray⟩] X fun e X' => (∃ v, e = .returned v) ∧ Hid (Lib.IsBuilderF 77 5 b b (Lib.byteCells (l ++ s)) X') ∧ Below b X X' := by
  refine (Try.Builder_WriteString_k b b _ _ _ hX (by rw [Lib.byteCells_length]; show l.length + s.length ≤ _; omega) (Nat.le_of_lt (builder_lt hX))).mono ?_
  rintro e w1 ⟨rfl, hB1, hb1, _⟩
  rw [strCells_bytes] at hB1
  exact ⟨⟨_, rfl⟩, .inr hB1, hb1⟩
end Go.Proofs.Ytdjllnhahhjgmab
namespace Go.Proofs.Ytdjllnhahhjgmab
open Go.RowKit Chron
/- a callee that only reads, met behind draws -/
theorem quiet_more {P : Program} {f : FuncId} {args : Array Value} {w : World} {a n : Nat} {v : Value}
    (h : Calls P f args (w.drewN (a + n)) fun e w' => e = .returned v ∧ w' = w.drewN (a + n)) : Calls P f args (w.drewN (a + n)) fun e w'' => e = .returned v ∧ ∃ m, w'' = w.drewN (a + m) :=
  h.mono fun _ _ ⟨he, hm⟩ => ⟨he, n, hm⟩
theorem quiet_draws {P : Program} {f : FuncId} {args : Array Value} {w : World} {a n : Nat} {v : Value}
    (h : Calls P f args (w.drewN (a + n)) fun e w' => e = .returned v ∧ ∃ m, w' = (w.drewN (a + n)).drewN m) : Calls P f args (w.drewN (a + n)) fun e w'' => e = .returned v ∧ ∃ m, w'' = w.drewN (a + m) :=
  h.mono fun _ _ ⟨he, m, hm⟩ => ⟨he, n + m, by rw [hm, World.drewN_drewN, Nat.add_assoc]⟩
theorem row_at {w : World} {base : Nat} {e : TypeId} {v : Value} {n : Nat} {xs : List Value} (h : w.ownsRow base e 1 v n xs) : ∃ a cap, v = .slice a n cap ∧ n ≤ cap ∧ xs.length = n ∧ ∀ i x, xs[i]? = some x → ∃ g, a = some ⟨g, 0, none⟩ ∧ w.cell? ⟨g, i, none⟩ = some x := by
  obtain ⟨h1, ⟨rfl, rfl⟩ | ⟨g, cap, cur, rfl, a2, a3, a4, a5, a6, a7⟩⟩ := h
  · refine ⟨none, 0, rfl, Nat.le_refl _, by omega, fun i x hx => ?_⟩
    have := (List.getElem?_eq_some_iff.1 hx).1
    omega
  · refine ⟨some ⟨g, 0, none⟩, cap, rfl, a4, by omega, fun i x hx => ⟨g, rfl, ?_⟩⟩
    have hi := (List.getElem?_eq_some_iff.1 hx).1
    rw [← a7, List.getElem?_take_of_lt (by omega)] at hx
    simpa [World.cell?, a3] using hx
/- lists that were lent: where each lies, and how many places of it are the list's -/
def lentV (ls : List (Nat × Nat)) : List Value := ls.map fun p => .slice (some ⟨p.1, 0, none⟩) (p.2 + 8) (p.2 + 8)
def lentN (ls : List (Nat × Nat)) : List Value := ls.map fun p => .int .i64 p.2
def LentOk (ls : List (Nat × Nat)) (w : World) : Prop := ∀ i M n : Nat, ls[i]? = some (M, n) → n * 16 ≤ 140737488351232 ∧ ∀ q, n ≤ q → q < n + 8 → w.cell? ⟨M, q, none⟩ = some (.string badT)
end Go.Proofs.Ytdjllnhahhjgmab
namespace Go.Proofs.Ytdjllnhahhjgmab
open Go.RowKit Chron
def firstB : ByteArray := ⟨#[1, 2, 2, 1, 116, 3, 172, 2, 4, 2, 104, 105, 5, 1, 97]⟩
theorem first_enc : encB 3 ⟨2, ⟨#[116]⟩, 300, ⟨#[104, 105]⟩, [⟨#[97]⟩]⟩ = ([1, 2, 2, 1, 116, 3, 172, 2, 4, 2, 104, 105, 5, 1, 97], 0) := by decide +kernel
def mix (ts us : List ByteArray) : List ByteArray := us.take ts.length ++ ts.drop us.length
theorem mix_len (ts us : List ByteArray) : (mix ts us).length = ts.length := by simp [mix]; omega
theorem mix_lt {ts us : List ByteArray} {i : Nat} (hi : i < ts.length) (hu : i < us.length) : (mix ts us)[i]? = us[i]? := by
  rw [mix, List.getElem?_append_left (by simp; omega), List.getElem?_take_of_lt hi]
theorem mix_ge {ts us : List ByteArray} {i : Nat} (hi : i < ts.length) (hu : us.length ≤ i) : (mix ts us)[i]? = ts[i]? := by
  rw [mix, List.getElem?_append_right (by simp; omega), List.getElem?_drop]
  congr 1
  simp; omega
theorem mix_short {ts us : List ByteArray} (h1 : Short ts) (h2 : Short us) : Short (mix ts us) := by
  intro i hi
  rw [mix_len] at hi
  rcases Nat.lt_or_ge i us.length with hu | hu
  · rw [mix_lt hi hu]; exact h2 i hu
  · rw [mix_ge hi hu]; exact h1 i hi
def half (zs ts : List ByteArray) (i : Nat) : List ByteArray := zs.take i ++ ts.drop i
theorem half_len {zs ts : List ByteArray} {i : Nat} (h : zs.length = ts.length) (hi : i ≤ ts.length) : (half zs ts i).length = ts.length := by simp [half]; omega
theorem half_zero (zs ts : List ByteArray) : half zs ts 0 = ts := by simp [half]
theorem half_all {zs ts : List ByteArray} (h : zs.length = ts.length) : half zs ts ts.length = zs := by
  rw [half, List.drop_length, List.append_nil, List.take_of_length_le (by omega)]
theorem half_at {zs ts : List ByteArray} {i : Nat} (h : zs.length = ts.length) (hi : i < ts.length) : (half zs ts i)[i]? = ts[i]? := by
  rw [half, List.getElem?_append_right (by simp; omega), List.getElem?_drop]
  congr 1
  simp; omega
theorem half_succ {zs ts : List ByteArray} {i : Nat} (h : zs.length = ts.length) (hi : i < ts.length) {x : ByteArray} (hx : zs[i]? = some x) : (half zs ts i).set i x = half zs ts (i + 1) := by
  have hz : i < zs.length := by omega
  have hx' : zs[i] = x := by rw [List.getElem?_eq_getElem hz] at hx; exact Option.some.inj hx
  have e1 : zs.take (i + 1) = zs.take i ++ [x] := by rw [← hx', List.take_succ_eq_append_getElem hz]
  have e2 : ts.drop i = ts[i] :: ts.drop (i + 1) := List.drop_eq_getElem_cons hi
  rw [half, half, e1, e2, List.set_append_right _ _ (by simp; omega)]
  have e3 : i - (zs.take i).length = 0 := by simp; omega
  rw [e3, List.append_assoc]; rfl
theorem half_now {zs ts : List ByteArray} {i : Nat} (h : zs.length = ts.length) (hi : i < ts.length) : (half zs ts (i + 1))[i]? = zs[i]? := by
  rw [half, List.getElem?_append_left (by simp; omega), List.getElem?_take_of_lt (by omega)]
theorem half_same {zs ts : List ByteArray} {i : Nat} (h : zs.length = ts.length) (hi : i < ts.length) (he : zs[i]? = ts[i]?) : half zs ts (i + 1) = half zs ts i := by
  rw [← half_succ (x := ts[i]) h hi (by rw [he, List.getElem?_eq_getElem hi])]
  have hl : i < (half zs ts i).length := by rw [half_len h (by omega)]; exact hi
  have : (half zs ts i)[i] = ts[i] := by
    have := half_at h hi
    rw [List.getElem?_eq_getElem hl, List.getElem?_eq_getElem hi] at this
    exact Option.some.inj this
  rw [← this, List.set_getElem_self]
theorem lent_put (l : List ByteArray) {i : Nat} (hi : i < l.length) (x : ByteArray) : (lent l 8).set i (.string x) = lent (l.set i x) 8 := by
  rw [lent, lent, List.set_append_left _ _ (by simpa using hi), List.map_set]
theorem lent_cell {w : World} {M : Nat} {l : List ByteArray} (h : w.heap[M]? = some (.cells (lent l 8).toArray 9 (0, 0))) {i : Nat} {x : ByteArray} (hx : l[i]? = some x) : w.cell? ⟨M, i, none⟩ = some (.string x) := by
  have hi := (List.getElem?_eq_some_iff.1 hx).1
  have : (lent l 8)[i]? = some (.string x) := by rw [lent, List.getElem?_append_left (by simpa using hi), List.getElem?_map, hx]; rfl
  simpa [World.cell?, h] using this
theorem lent_tags {w : World} {M : Nat} {l : List ByteArray} (h : w.heap[M]? = some (.cells (lent l 8).toArray 9 (0, 0))) : TagsAt w (some ⟨M, 0, none⟩) l := by
  intro _
  refine ⟨M, 0, rfl, fun i hi => ?_⟩
  rw [Nat.zero_add]
  exact lent_cell h (by rw [List.getElem?_eq_getElem hi]; rfl)
theorem lent_ok {w : World} {M : Nat} {l : List ByteArray} (h : w.heap[M]? = some (.cells (lent l 8).toArray 9 (0, 0))) (hl : l.length * 16 ≤ 140737488351232) : LentOk [(M, l.length)] w := by
  intro i M' n hi
  cases i with
  | zero =>
    simp at hi
    obtain ⟨rfl, rfl⟩ := hi
    refine ⟨hl, fun q h1 h2 => ?_⟩
    have : (lent l 8)[q]? = some (.string badT) := by
      rw [lent, List.getElem?_append_right (by simpa using h1), List.getElem?_append_left (by simp; omega), List.getElem?_replicate, if_pos (by simp; omega)]
    simpa [World.cell?, h] using this
  | succ j => simp at hi
theorem one_tag {w : World} {s : ByteArray} : TagsAt (w.alloc (.cells #[.string s] 9)) (some ⟨w.heap.size, 0, none⟩) [s] := by
  intro _
  refine ⟨w.heap.size, 0, rfl, fun i hi => ?_⟩
  have : i = 0 := by simpa using hi
  subst this
  exact cell_one_new w (.string s) 9 0 _ rfl
theorem own_tags {w : World} {base : Nat} {v : Value} {l : List ByteArray} (h : w.ownsRow base 9 1 v l.length (l.map Value.string)) : ∃ a cap, v = .slice a l.length cap ∧ TagsAt w a l := by
  obtain ⟨a, cap, rfl, _, _, hc⟩ := row_at h
  refine ⟨a, cap, rfl, fun h0 => ?_⟩
  obtain ⟨g, rfl, _⟩ := hc 0 (.string l[0]) (by simp [h0])
  refine ⟨g, 0, rfl, fun i hi => ?_⟩
  obtain ⟨g', e, hx⟩ := hc i (.string l[i]) (by simp [hi])
  simp only [Option.some.injEq, Addr.mk.injEq] at e
  obtain ⟨rfl, _⟩ := e
  rw [Nat.zero_add, hx, List.getElem?_eq_getElem hi]; rfl
end Go.Proofs.Ytdjllnhahhjgmab
namespace Go.Proofs.Ytdjllnhahhjgmab
open Go.RowKit Chron
def Pows (w : World) : Prop := Lib.TabIs Try.prog w "internal/strconv.uint64pow10" .u64 Lib.pow10Tab
structure EvBox (N : Nat) (w wx : World) (k : Int) (t : ByteArray) (m : Int) (b : ByteArray) (x : Value) : Prop where
  bel : Below N w wx
  box : wx.heap[N]? = some (.cells #[.int .i64 k, .string t, .int .i64 m, .string b, x] 36)
theorem EvBox.more {N : Nat} {w wx wy : World} {k : Int} {t : ByteArray} {m : Int} {b : ByteArray} {x : Value} (h : EvBox N w wx k t m b x) (hb : Below wx.heap.size wx wy) : EvBox N w wy k t m b x := by
  have hlt := (Array.getElem?_eq_some_iff.1 h.box).1
  exact ⟨h.bel.trans (hb.mono (by omega)), (hb.block N hlt).trans h.box⟩
theorem catted (a b : ByteArray) (l r : List UInt8) (ha : Hid (a.data.toList = l)) (hb : b.data.toList = r) (h : l.length + r.length ≤ 1000000) : ∃ S : ByteArray, (∀ W : World, (Op.stringOp .add a b).run Try.prog W = .ok (.string S) W) ∧ Hid (S.data.toList = l ++ r) := by
  refine ⟨a ++ b, fun W => run_string_add_sum W a b ?_, ?_⟩
  · have h1 : a.size = l.length := by rw [← ha.out]; simp
    have h2 : b.size = r.length := by rw [← hb]; simp
    omega
  · show (a ++ b).data.toList = l ++ r
    rw [← ha.out, ← hb]; simp
theorem bytes_mk (l : List UInt8) : (⟨l.toArray⟩ : ByteArray).data.toList = l := by simp
end Go.Proofs.Ytdjllnhahhjgmab
namespace Go.Proofs.Ytdjllnhahhjgmab
open Go.RowKit Chron
/- a place in a text by what is left of the text from there on; -1: none -/
def pos (s : ByteArray) : Option (List UInt8) → Int
  | some r => (s.size : Int) - (r.length : Int)
  | none => -1
def Suf (s : ByteArray) (r : List UInt8) : Prop := r <:+ s.data.toList
theorem Suf.le {s : ByteArray} {r : List UInt8} (h : Suf s r) : r.length ≤ s.size := by have := h.length_le; simpa using this
theorem Suf.at {s : ByteArray} {r : List UInt8} (h : Suf s r) : s.data.toList.drop (s.size - r.length) = r := by
  have := (List.suffix_iff_eq_drop.1 h).symm
  simpa using this
theorem Suf.byte {s : ByteArray} {x : UInt8} {r : List UInt8} (h : Suf s (x :: r)) {k : Nat} (hk : k = s.size - (x :: r).length) : ∃ hlt : k < s.size, s[k] = x := by
  have h1 := h.le
  simp only [List.length_cons] at h1 hk
  have hlt : k < s.size := by omega
  refine ⟨hlt, ?_⟩
  have h2 := h.at
  simp only [List.length_cons] at h2
  rw [← hk, List.drop_eq_getElem_cons (by simpa using hlt)] at h2
  exact (List.cons.inj h2).1
theorem Suf.tail {s : ByteArray} {x : UInt8} {r : List UInt8} (h : Suf s (x :: r)) : Suf s r := (List.suffix_cons x r).trans h
theorem Suf.trans {s : ByteArray} {r t : List UInt8} (h : Suf s r) (ht : t <:+ r) : Suf s t := ht.trans h
theorem skip_blank {x : UInt8} {r : List UInt8} (h : isBlank x = true) : skipL (x :: r) = skipL r := List.dropWhile_cons_of_pos h
theorem skip_stop {x : UInt8} {r : List UInt8} (h : isBlank x = false) : skipL (x :: r) = x :: r := List.dropWhile_cons_of_neg (by simp [h])
theorem blank_iff (x : UInt8) : isBlank x = true ↔ ((x.toNat : Int) = 32 ∨ (x.toNat : Int) = 10 ∨ (x.toNat : Int) = 13 ∨ (x.toNat : Int) = 9) := by
  have key : ∀ n : Nat, n < 256 → ((x == UInt8.ofNat n) = true ↔ (x.toNat : Int) = n) := fun n hn => by
    rw [beq_iff_eq]
    constructor
    · rintro rfl; simp; omega
    · intro h; apply UInt8.toNat_inj.1; simp; omega
  simp only [isBlank, Bool.or_eq_true]
  have h1 := key 32 (by omega)
  have h2 := key 10 (by omega)
  have h3 := key 13 (by omega)
  have h4 := key 9 (by omega)
  simp only [show UInt8.ofNat 32 = 32 from rfl, show UInt8.ofNat 10 = 10 from rfl, show UInt8.ofNat 13 = 13 from rfl, show UInt8.ofNat 9 = 9 from rfl] at h1 h2 h3 h4
  rw [h1, h2, h3, h4]
  simp only [or_assoc]
  exact Iff.rfl
theorem hex_iff (b : UInt8) : hexD b = if 48 ≤ (b.toNat : Int) ∧ (b.toNat : Int) ≤ 57 then some (b.toNat - 48) else if 97 ≤ (b.toNat : Int) ∧ (b.toNat : Int) ≤ 102 then some (b.toNat - 87) else if 65 ≤ (b.toNat : Int) ∧ (b.toNat : Int) ≤ 70 then some (b.toNat - 55) else none := by
  unfold hexD
  simp only [Int.ofNat_le, show (48 : Int) = ((48 : Nat) : Int) from rfl, show (57 : Int) = ((57 : Nat) : Int) from rfl, show (97 : Int) = ((97 : Nat) : Int) from rfl, show (102 : Int) = ((102 : Nat) : Int) from rfl, show (65 : Int) = ((65 : Nat) : Int) from rfl, show (70 : Int) = ((70 : Nat) : Int) from rfl]
def hexI (b : UInt8) : Int := match hexD b with | some n => (n : Int) | none => -1
end Go.Proofs.Ytdjllnhahhjgmab
namespace Go.Proofs.Ytdjllnhahhjgmab
open Go.RowKit Chron
def letC : Option (UInt8 × List UInt8) → Int
  | some (c, _) => (c.toNat : Int)
  | none => 0
def letP (s : ByteArray) : Option (UInt8 × List UInt8) → Int
  | some (_, r) => pos s (some r)
  | none => -1
theorem ret_two {a b c d : Int} {k l : IntKind} (h1 : a = c) (h2 : b = d) : Ending.returned (.tuple #[.int k a, .int l b]) = .returned (.tuple #[.int k c, .int l d]) := by rw [h1, h2]
theorem pos_at {s : ByteArray} {r : List UInt8} {k n : Nat} (h : Suf s r) (hk : k + n = s.size - r.length) : pos s (some r) = (k : Int) + n := by have := h.le; simp only [pos]; omega
theorem two_bytes {s : ByteArray} {k : Nat} (h : k + 1 < s.size) : (s.extract k (k + 2)).toList = [s[k], s[k + 1]] := by
  rw [ByteArray.toList_eq]
  have hl : k < s.data.toList.length := by simp; omega
  have hl2 : k + 1 < s.data.toList.length := by simpa using h
  have e : (s.extract k (k + 2)).data.toList = (s.data.toList.drop k).take 2 := by simp
  rw [e, List.drop_eq_getElem_cons hl, List.drop_eq_getElem_cons hl2]; rfl
theorem coded_short {l : List UInt8} (h : l.length < 4) : codedL l = none := by
  match l, h with
  | [], _ => rfl
  | [_], _ => rfl
  | [_, _], _ => rfl
  | [_, _, _], _ => rfl
end Go.Proofs.Ytdjllnhahhjgmab
namespace Go.Proofs.Ytdjllnhahhjgmab
open Go.RowKit Chron
def qS : Option (List UInt8 × List UInt8) → ByteArray
  | some (b, _) => ba b
  | none => ⟨#[]⟩
def qP : Option (List UInt8 × List UInt8) → Option (List UInt8)
  | some (_, r) => some r
  | none => none
theorem ret_sp {a b : ByteArray} {c d : Int} {l : IntKind} (h1 : a = b) (h2 : c = d) : Ending.returned (.tuple #[.string a, .int l c]) = .returned (.tuple #[.string b, .int l d]) := by rw [h1, h2]
theorem letC_byte (o : Option (UInt8 × List UInt8)) : ∃ c : UInt8, letC o = (c.toNat : Int) := by
  match o with
  | some (c, _) => exact ⟨c, rfl⟩
  | none => exact ⟨0, rfl⟩
theorem conv_nil (w : World) : (convert 46 9 (.slice none 0 0)).run Try.prog w = .ok (.string ⟨#[]⟩) w := by
  kernel_rfl
def left (n : Nat) (i : Int) : Nat := if i < 0 then 0 else n + 1 - i.toNat
/- where the reading within quotes stands -/
def InAt (s : ByteArray) (r : List UInt8) (acc : List UInt8) : Option (List UInt8) → Prop
  | some t => Suf s t ∧ acc.length + t.length ≤ s.size ∧ inL r = (inL t).map fun p => (acc ++ p.1, p.2)
  | none => inL r = none
end Go.Proofs.Ytdjllnhahhjgmab
namespace Go.Proofs.Ytdjllnhahhjgmab
open Go.RowKit Chron
def refN (ds : List UInt8) : Nat := ds.foldl (fun n d => if n ≤ 1125899906842624 then 10 * n + (d.toNat - 48) else n) 0
theorem refN_snoc (ds : List UInt8) (d : UInt8) : refN (ds ++ [d]) = if refN ds ≤ 1125899906842624 then 10 * refN ds + (d.toNat - 48) else refN ds := by unfold refN; rw [List.foldl_append]; rfl
theorem refN_from (ds : List UInt8) : ∀ a b : Nat, min a 1125899906842625 = b → min (ds.foldl (fun n d => if n ≤ 1125899906842624 then 10 * n + (d.toNat - 48) else n) a) 1125899906842625 = ds.foldl (fun n d => capN n d.toNat) b := by
  induction ds with
  | nil => intro a b h; exact h
  | cons d ds ih =>
    intro a b h
    simp only [List.foldl_cons]
    apply ih
    unfold capN
    split <;> omega
theorem refN_num (ds : List UInt8) : min (refN ds) 1125899906842625 = numL ds := refN_from ds 0 0 rfl
theorem refN_top (ds : List UInt8) : ∀ a : Nat, a ≤ 11258999068426249 → (∀ d ∈ ds, isDig d = true) → ds.foldl (fun n d => if n ≤ 1125899906842624 then 10 * n + (d.toNat - 48) else n) a ≤ 11258999068426249 := by
  induction ds with
  | nil => intro a h _; exact h
  | cons d ds ih =>
    intro a h hd
    have h0 := hd d (by simp)
    simp only [isDig, Bool.and_eq_true, decide_eq_true_eq] at h0
    simp only [List.foldl_cons]
    apply ih _ _ (fun x hx => hd x (by simp [hx]))
    split <;> omega
theorem refN_le {ds : List UInt8} (h : ∀ d ∈ ds, isDig d = true) : refN ds ≤ 11258999068426249 := refN_top ds 0 (by decide) h
def cN (l : List UInt8) : Int := if badNum ((skipL l).takeWhile isDig) then 0 else (refN ((skipL l).takeWhile isDig) : Int)
def cP (l : List UInt8) : Option (List UInt8) := if badNum ((skipL l).takeWhile isDig) then none else some ((skipL l).dropWhile isDig)
theorem dig_iff (d : UInt8) : isDig d = true ↔ (48 ≤ (d.toNat : Int) ∧ (d.toNat : Int) ≤ 57) := by simp only [isDig, Bool.and_eq_true, decide_eq_true_eq]; omega
theorem take_dig {dd t : List UInt8} (h1 : ∀ d ∈ dd, isDig d = true) (h2 : t = [] ∨ ∃ x r, t = x :: r ∧ isDig x = false) : (dd ++ t).takeWhile isDig = dd ∧ (dd ++ t).dropWhile isDig = t := by
  induction dd with
  | nil =>
    rcases h2 with rfl | ⟨x, r, rfl, hx⟩
    · exact ⟨rfl, rfl⟩
    · simp [hx]
  | cons d dd ih =>
    have := ih (fun x hx => h1 x (by simp [hx]))
    have hd := h1 d (by simp)
    simp [hd, this]
end Go.Proofs.Ytdjllnhahhjgmab
namespace Go.Proofs.Ytdjllnhahhjgmab
open Go.RowKit Chron
def strV (l : List (List UInt8)) : List Value := l.map fun s => .string (ba s)
def tT : Option (List (List UInt8) × List UInt8) → List (List UInt8)
  | some (l, _) => l
  | none => []
def tP : Option (List (List UInt8) × List UInt8) → Option (List UInt8)
  | some (_, r) => some r
  | none => none
theorem qP_some {o : Option (List UInt8 × List UInt8)} {r : List UInt8} (h : qP o = some r) : ∃ b, o = some (b, r) := by
  match o, h with
  | some (b, r'), h => simp only [qP, Option.some.injEq] at h; subst h; exact ⟨b, rfl⟩
theorem pos_neg {s : ByteArray} {o : Option (List UInt8)} (h : ∀ r, o = some r → Suf s r) : (pos s o < 0 ∧ o = none) ∨ (0 ≤ pos s o ∧ ∃ r, o = some r) := by
  cases o with
  | none => exact .inl ⟨by simp [pos], rfl⟩
  | some r => exact .inr ⟨by have := (h r rfl).le; simp only [pos]; omega, r, rfl⟩
end Go.Proofs.Ytdjllnhahhjgmab
namespace Go.Proofs.Ytdjllnhahhjgmab
open Go.RowKit Chron
theorem cut_one (s : ByteArray) (k : Nat) (h : k < s.size) : (s.data.toList.drop k).take 1 = [s[k]] := by
  have hl : k < s.data.toList.length := by simpa using h
  rw [List.drop_eq_getElem_cons hl]; rfl
def wordCells : Array Value := #[.string ⟨#[98, 101, 103, 117, 110]⟩, .string ⟨#[100, 111, 110, 101]⟩, .string ⟨#[102, 97, 105, 108, 101, 100]⟩, .string ⟨#[110, 111, 116, 101, 100]⟩]
end Go.Proofs.Ytdjllnhahhjgmab
namespace Go.Proofs.Ytdjllnhahhjgmab
open Go.RowKit Chron
def capE (e : Ev) : Ev := { e with time := min e.time 1125899906842625 }
def memL (e : Ev) (l : List UInt8) : Option (List UInt8 × Ev × List UInt8) :=
  match quoteL l with
  | none => none
  | some (nm, r1) => match signL 58 r1 with
    | none => none
    | some r2 => (fieldL nm e r2).map fun p => (nm, p.1, p.2)
def idx (nm : List UInt8) : Int := if nm = nBody then 1 else if nm = nKind then 2 else if nm = nTags then 3 else if nm = nTask then 4 else 5
/- what a reading of one name, and of what it has, leaves -/
def MemR (s : ByteArray) (e : Ev) (t : List UInt8) (E : Ev) (which p : Int) : Prop :=
  match memL e t with
  | some (nm, e', r) => capE E = e' ∧ which = idx nm ∧ p = pos s (some r) ∧ Suf s r
  | none => p = -1
structure Mb (N base : Nat) (w wx : World) (e : Ev) (x : Value) : Prop where
  box : wx.heap[N]? = some (.cells #[.int .i64 e.kind, .string e.task, .int .i64 e.time, .string e.body, x] 36)
  res : wx.heap[N + 1]? = some (.cells #[.int .i64 0, .string ⟨#[]⟩, .int .i64 0, .string ⟨#[]⟩, .slice none 0 0] 36)
  own : wx.ownsRow base 9 1 x e.tags.length (e.tags.map Value.string)
  ap : x.ownBlock ≠ some N ∧ x.ownBlock ≠ some (N + 1)
  bel : Below N w wx
theorem Mb.big {N base : Nat} {w wx : World} {e : Ev} {x : Value} (h : Mb N base w wx e x) : N + 2 ≤ wx.heap.size := (Array.getElem?_eq_some_iff.1 h.res).1
theorem Mb.more {N base : Nat} {w wx wy : World} {e : Ev} {x : Value} (h : Mb N base w wx e x) (hb : Below wx.heap.size wx wy) : Mb N base w wy e x := by
  have := h.big
  exact ⟨(hb.block N (by omega)).trans h.box, (hb.block (N + 1) (by omega)).trans h.res, own_below h.own hb, h.ap, h.bel.trans (hb.mono (by omega))⟩
theorem Mb.set {N base : Nat} {w wx : World} {e e' : Ev} {x : Value} {i : Nat} {u : Value} (h : Mb N base w wx e x) (ht : e'.tags = e.tags)
    (hc : #[.int .i64 e.kind, .string e.task, .int .i64 e.time, .string e.body, x].setIfInBounds i u = #[.int .i64 e'.kind, .string e'.task, .int .i64 e'.time, .string e'.body, x]) : Mb N base w (wx.setCell ⟨N, i, none⟩ u) e' x := by
  refine ⟨by rw [loan_set h.box, hc], (Below.heap_setCell _ _ _ _ (by show N + 1 ≠ N; omega)).trans h.res, ?_, h.ap, h.bel.setCell (Nat.le_refl _) _⟩
  rw [ht]
  exact own_of_block h.own fun q hq => Below.heap_setCell _ _ _ _ (by rintro rfl; exact h.ap.1 hq)
theorem Mb.tag {N base : Nat} {w wx : World} {e : Ev} {x y : Value} {ts : List ByteArray} (h : Mb N base w wx e x) (hbN : base ≤ N) {B : Nat} (hB : N + 2 ≤ B) (hy : wx.ownsRow B 9 1 y ts.length (ts.map Value.string)) : Mb N base w (wx.setCell ⟨N, 4, none⟩ y) { e with tags := ts } y := by
  have hap : y.ownBlock ≠ some N ∧ y.ownBlock ≠ some (N + 1) := ⟨fun e => by have := (hy.lt _ e).1; omega, fun e => by have := (hy.lt _ e).1; omega⟩
  refine ⟨loan_set h.box, (Below.heap_setCell _ _ _ _ (by show N + 1 ≠ N; omega)).trans h.res, ?_, hap, h.bel.setCell (Nat.le_refl _) _⟩
  exact own_mono (own_of_block hy fun q hq => Below.heap_setCell _ _ _ _ (by rintro rfl; exact hap.1 hq)) (by omega)
theorem Mb.out {N base : Nat} {w wx : World} {e : Ev} {x x0 x1 x2 x3 x4 : Value} (h : Mb N base w wx e x) :
    (((((wx.setCell ⟨N + 1, 0, none⟩ x0).setCell ⟨N + 1, 1, none⟩ x1).setCell ⟨N + 1, 2, none⟩ x2).setCell ⟨N + 1, 3, none⟩ x3).setCell ⟨N + 1, 4, none⟩ x4).ownsRow base 9 1 x e.tags.length (e.tags.map Value.string) ∧
    Below N w (((((wx.setCell ⟨N + 1, 0, none⟩ x0).setCell ⟨N + 1, 1, none⟩ x1).setCell ⟨N + 1, 2, none⟩ x2).setCell ⟨N + 1, 3, none⟩ x3).setCell ⟨N + 1, 4, none⟩ x4) := by
  refine ⟨own_of_block h.own fun q hq => ?_, below_set5 h.bel (by omega)⟩
  have hq1 : q ≠ N + 1 := by rintro rfl; exact h.ap.2 hq
  rw [Below.heap_setCell _ _ _ _ hq1, Below.heap_setCell _ _ _ _ hq1, Below.heap_setCell _ _ _ _ hq1, Below.heap_setCell _ _ _ _ hq1, Below.heap_setCell _ _ _ _ hq1]
theorem ba_list (l : List UInt8) : (ba l).toList = l := by rw [ByteArray.toList_eq]; simp [ba]
theorem wordsAt (X : World) {i : Nat} {k : Int} (hk : (i : Int) + 1 = k) (hi : i < 4) : (X.alloc (.cells #[.string ⟨#[98, 101, 103, 117, 110]⟩, .string ⟨#[100, 111, 110, 101]⟩, .string ⟨#[102, 97, 105, 108, 101, 100]⟩, .string ⟨#[110, 111, 116, 101, 100]⟩] 9)).cell? ⟨X.heap.size, i, none⟩ = some (.string (ba (wordB k))) := by
  subst hk
  have hh := heap_alloc_new X (.cells #[.string ⟨#[98, 101, 103, 117, 110]⟩, .string ⟨#[100, 111, 110, 101]⟩, .string ⟨#[102, 97, 105, 108, 101, 100]⟩, .string ⟨#[110, 111, 116, 101, 100]⟩] 9)
  have h4 : i = 0 ∨ i = 1 ∨ i = 2 ∨ i = 3 := by omega
  rcases h4 with rfl | rfl | rfl | rfl <;> (simp only [World.cell?, hh]; rfl)
def kpre (q : List UInt8) (n : Nat) : Int := if 0 < n ∧ q = wordB 1 then 1 else if 1 < n ∧ q = wordB 2 then 2 else if 2 < n ∧ q = wordB 3 then 3 else if 3 < n ∧ q = wordB 4 then 4 else 0
theorem kpre_kind (q : List UInt8) : (∀ k, kindW q = some k → kpre q 4 = k ∧ ¬ kpre q 4 = 0) ∧ (kindW q = none → kpre q 4 = 0) := by
  unfold kindW kpre
  by_cases h1 : q = wordB 1
  · simp [h1]
  · by_cases h2 : q = wordB 2
    · simp [h2, show ¬ wordB 2 = wordB 1 by decide]
    · by_cases h3 : q = wordB 3
      · simp [h3, show ¬ wordB 3 = wordB 1 by decide, show ¬ wordB 3 = wordB 2 by decide]
      · by_cases h4 : q = wordB 4
        · simp [h4, show ¬ wordB 4 = wordB 1 by decide, show ¬ wordB 4 = wordB 2 by decide, show ¬ wordB 4 = wordB 3 by decide]
        · simp [h1, h2, h3, h4]
theorem kpre_step (q : List UInt8) {n : Nat} (hn : n < 4) : kpre q (n + 1) = if q = wordB ((n : Int) + 1) then (n : Int) + 1 else kpre q n := by
  have h4 : n = 0 ∨ n = 1 ∨ n = 2 ∨ n = 3 := by omega
  unfold kpre
  rcases h4 with rfl | rfl | rfl | rfl
  · by_cases h : q = wordB 1
    · simp [h]
    · simp [h]
  · by_cases h : q = wordB 2
    · simp [h, show ¬ wordB 2 = wordB 1 by decide]
    · simp [h]
  · by_cases h : q = wordB 3
    · simp [h, show ¬ wordB 3 = wordB 1 by decide, show ¬ wordB 3 = wordB 2 by decide]
    · simp [h]
  · by_cases h : q = wordB 4
    · simp [h, show ¬ wordB 4 = wordB 1 by decide, show ¬ wordB 4 = wordB 2 by decide, show ¬ wordB 4 = wordB 3 by decide]
    · simp [h]
end Go.Proofs.Ytdjllnhahhjgmab
