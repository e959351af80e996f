/- Walks and plain facts, in the order in which they lean on one another. -/
import Derived.Test.YtdjllnhahhjgmaaGreatW06
import Derived.Test.YtdjllnhahhjgmaaGreatW02
import Derived.Test.YtdjllnhahhjgmaaGreatW04
import Derived.Test.YtdjllnhahhjgmaaGreatW05
import Derived.Test.YtdjllnhahhjgmaaGreatW03
import Derived.Deep.QuietTactic
import Derived.BigQuiet
import Derived.Test.YtdjllnhahhjgmaaGreatShelfB
import Derived.Sort.OwnSorted
import Derived.ChangeKeysEq
namespace Go.Proofs.YtdjllnhahhjgmaaGreat
open Go.RowKit Chron
/- a place in a text by what is left of the text from there on; -1: none -/
def pos (s : ByteArray) : Option (List UInt8) → Int
  | some r => (s.size : Int) - (r.length : Int)
  | none => -1
def Suf (s : ByteArray) (r : List UInt8) : Prop := r <:+ s.data.toList
theorem Suf.le {s : ByteArray} {r : List UInt8} (h : Suf s r) : r.length ≤ s.size := by have := h.length_le; simpa using this
theorem Suf.at {s : ByteArray} {r : List UInt8} (h : Suf s r) : s.data.toList.drop (s.size - r.length) = r := by
  have := (List.suffix_iff_eq_drop.1 h).symm
  simpa using this
theorem Suf.byte {s : ByteArray} {x : UInt8} {r : List UInt8} (h : Suf s (x :: r)) {k : Nat} (hk : k = s.size - (x :: r).length) : ∃ hlt : k < s.size, s[k] = x := by
  have h1 := h.le
  simp only [List.length_cons] at h1 hk
  have hlt : k < s.size := by omega
  refine ⟨hlt, ?_⟩
  have h2 := h.at
  simp only [List.length_cons] at h2
  rw [← hk, List.drop_eq_getElem_cons (by simpa using hlt)] at h2
  exact (List.cons.inj h2).1
theorem Suf.tail {s : ByteArray} {x : UInt8} {r : List UInt8} (h : Suf s (x :: r)) : Suf s r := (List.suffix_cons x r).trans h
theorem Suf.trans {s : ByteArray} {r t : List UInt8} (h : Suf s r) (ht : t <:+ r) : Suf s t := ht.trans h
theorem skip_blank {x : UInt8} {r : List UInt8} (h : isBlank x = true) : skipL (x :: r) = skipL r := List.dropWhile_cons_of_pos h
theorem skip_stop {x : UInt8} {r : List UInt8} (h : isBlank x = false) : skipL (x :: r) = x :: r := List.dropWhile_cons_of_neg (by simp [h])
theorem blank_iff (x : UInt8) : isBlank x = true ↔ ((x.toNat : Int) = 32 ∨ (x.toNat : Int) = 10 ∨ (x.toNat : Int) = 13 ∨ (x.toNat : Int) = 9) := by
  have key : ∀ n : Nat, n < 256 → ((x == UInt8.ofNat n) = true ↔ (x.toNat : Int) = n) := fun n hn => by
    rw [beq_iff_eq]
    constructor
    · rintro rfl; simp; omega
    · intro h; apply UInt8.toNat_inj.1; simp; omega
  simp only [isBlank, Bool.or_eq_true]
  have h1 := key 32 (by omega)
  have h2 := key 10 (by omega)
  have h3 := key 13 (by omega)
  have h4 := key 9 (by omega)
  simp only [show UInt8.ofNat 32 = 32 from rfl, show UInt8.ofNat 10 = 10 from rfl, show UInt8.ofNat 13 = 13 from rfl, show UInt8.ofNat 9 = 9 from rfl] at h1 h2 h3 h4
  rw [h1, h2, h3, h4]
  simp only [or_assoc]
  exact Iff.rfl
theorem hex_iff (b : UInt8) : hexD b = if 48 ≤ (b.toNat : Int) ∧ (b.toNat : Int) ≤ 57 then some (b.toNat - 48) else if 97 ≤ (b.toNat : Int) ∧ (b.toNat : Int) ≤ 102 then some (b.toNat - 87) else if 65 ≤ (b.toNat : Int) ∧ (b.toNat : Int) ≤ 70 then some (b.toNat - 55) else none := by
  unfold hexD
  simp only [Int.ofNat_le, show (48 : Int) = ((48 : Nat) : Int) from rfl, show (57 : Int) = ((57 : Nat) : Int) from rfl, show (97 : Int) = ((97 : Nat) : Int) from rfl, show (102 : Int) = ((102 : Nat) : Int) from rfl, show (65 : Int) = ((65 : Nat) : Int) from rfl, show (70 : Int) = ((70 : Nat) : Int) from rfl]
def hexI (b : UInt8) : Int := match hexD b with | some n => (n : Int) | none => -1
end Go.Proofs.YtdjllnhahhjgmaaGreat
namespace Go.Proofs.YtdjllnhahhjgmaaGreat
open Go.RowKit Chron
def letC : Option (UInt8 × List UInt8) → Int
  | some (c, _) => (c.toNat : Int)
  | none => 0
def letP (s : ByteArray) : Option (UInt8 × List UInt8) → Int
  | some (_, r) => pos s (some r)
  | none => -1
theorem ret_two {a b c d : Int} {k l : IntKind} (h1 : a = c) (h2 : b = d) : Ending.returned (.tuple #[.int k a, .int l b]) = .returned (.tuple #[.int k c, .int l d]) := by rw [h1, h2]
theorem pos_at {s : ByteArray} {r : List UInt8} {k n : Nat} (h : Suf s r) (hk : k + n = s.size - r.length) : pos s (some r) = (k : Int) + n := by have := h.le; simp only [pos]; omega
theorem two_bytes {s : ByteArray} {k : Nat} (h : k + 1 < s.size) : (s.extract k (k + 2)).toList = [s[k], s[k + 1]] := by
  rw [ByteArray.toList_eq]
  have hl : k < s.data.toList.length := by simp; omega
  have hl2 : k + 1 < s.data.toList.length := by simpa using h
  have e : (s.extract k (k + 2)).data.toList = (s.data.toList.drop k).take 2 := by simp
  rw [e, List.drop_eq_getElem_cons hl, List.drop_eq_getElem_cons hl2]; rfl
theorem coded_short {l : List UInt8} (h : l.length < 4) : codedL l = none := by
  match l, h with
  | [], _ => rfl
  | [_], _ => rfl
  | [_, _], _ => rfl
  | [_, _, _], _ => rfl
end Go.Proofs.YtdjllnhahhjgmaaGreat
namespace Go.Proofs.YtdjllnhahhjgmaaGreat
open Go.RowKit Chron
def qS : Option (List UInt8 × List UInt8) → ByteArray
  | some (b, _) => ba b
  | none => ⟨#[]⟩
def qP : Option (List UInt8 × List UInt8) → Option (List UInt8)
  | some (_, r) => some r
  | none => none
theorem ret_sp {a b : ByteArray} {c d : Int} {l : IntKind} (h1 : a = b) (h2 : c = d) : Ending.returned (.tuple #[.string a, .int l c]) = .returned (.tuple #[.string b, .int l d]) := by rw [h1, h2]
theorem letC_byte (o : Option (UInt8 × List UInt8)) : ∃ c : UInt8, letC o = (c.toNat : Int) := by
  match o with
  | some (c, _) => exact ⟨c, rfl⟩
  | none => exact ⟨0, rfl⟩
theorem conv_nil (w : World) : (convert 74 9 (.slice none 0 0)).run Tryz.prog w = .ok (.string ⟨#[]⟩) w := by
  kernel_rfl
def left (n : Nat) (i : Int) : Nat := if i < 0 then 0 else n + 1 - i.toNat
/- where the reading within quotes stands -/
def InAt (s : ByteArray) (r : List UInt8) (acc : List UInt8) : Option (List UInt8) → Prop
  | some t => Suf s t ∧ acc.length + t.length ≤ s.size ∧ inL r = (inL t).map fun p => (acc ++ p.1, p.2)
  | none => inL r = none
end Go.Proofs.YtdjllnhahhjgmaaGreat
namespace Go.Proofs.YtdjllnhahhjgmaaGreat
open Go.RowKit Chron
def refN (ds : List UInt8) : Nat := ds.foldl (fun n d => if n ≤ 1125899906842624 then 10 * n + (d.toNat - 48) else n) 0
theorem refN_snoc (ds : List UInt8) (d : UInt8) : refN (ds ++ [d]) = if refN ds ≤ 1125899906842624 then 10 * refN ds + (d.toNat - 48) else refN ds := by unfold refN; rw [List.foldl_append]; rfl
theorem refN_from (ds : List UInt8) : ∀ a b : Nat, min a 1125899906842625 = b → min (ds.foldl (fun n d => if n ≤ 1125899906842624 then 10 * n + (d.toNat - 48) else n) a) 1125899906842625 = ds.foldl (fun n d => capN n d.toNat) b := by
  induction ds with
  | nil => intro a b h; exact h
  | cons d ds ih =>
    intro a b h
    simp only [List.foldl_cons]
    apply ih
    unfold capN
    split <;> omega
theorem refN_num (ds : List UInt8) : min (refN ds) 1125899906842625 = numL ds := refN_from ds 0 0 rfl
theorem refN_top (ds : List UInt8) : ∀ a : Nat, a ≤ 11258999068426249 → (∀ d ∈ ds, isDig d = true) → ds.foldl (fun n d => if n ≤ 1125899906842624 then 10 * n + (d.toNat - 48) else n) a ≤ 11258999068426249 := by
  induction ds with
  | nil => intro a h _; exact h
  | cons d ds ih =>
    intro a h hd
    have h0 := hd d (by simp)
    simp only [isDig, Bool.and_eq_true, decide_eq_true_eq] at h0
    simp only [List.foldl_cons]
    apply ih _ _ (fun x hx => hd x (by simp [hx]))
    split <;> omega
theorem refN_le {ds : List UInt8} (h : ∀ d ∈ ds, isDig d = true) : refN ds ≤ 11258999068426249 := refN_top ds 0 (by decide) h
def cN (l : List UInt8) : Int := if badNum ((skipL l).takeWhile isDig) then 0 else (refN ((skipL l).takeWhile isDig) : Int)
def cP (l : List UInt8) : Option (List UInt8) := if badNum ((skipL l).takeWhile isDig) then none else some ((skipL l).dropWhile isDig)
theorem dig_iff (d : UInt8) : isDig d = true ↔ (48 ≤ (d.toNat : Int) ∧ (d.toNat : Int) ≤ 57) := by simp only [isDig, Bool.and_eq_true, decide_eq_true_eq]; omega
theorem take_dig {dd t : List UInt8} (h1 : ∀ d ∈ dd, isDig d = true) (h2 : t = [] ∨ ∃ x r, t = x :: r ∧ isDig x = false) : (dd ++ t).takeWhile isDig = dd ∧ (dd ++ t).dropWhile isDig = t := by
  induction dd with
  | nil =>
    rcases h2 with rfl | ⟨x, r, rfl, hx⟩
    · exact ⟨rfl, rfl⟩
    · simp [hx]
  | cons d dd ih =>
    have := ih (fun x hx => h1 x (by simp [hx]))
    have hd := h1 d (by simp)
    simp [hd, this]
end Go.Proofs.YtdjllnhahhjgmaaGreat
namespace Go.Proofs.YtdjllnhahhjgmaaGreat
open Go.RowKit Chron
def strV (l : List (List UInt8)) : List Value := l.map fun s => .string (ba s)
def tT : Option (List (List UInt8) × List UInt8) → List (List UInt8)
  | some (l, _) => l
  | none => []
def tP : Option (List (List UInt8) × List UInt8) → Option (List UInt8)
  | some (_, r) => some r
  | none => none
theorem qP_some {o : Option (List UInt8 × List UInt8)} {r : List UInt8} (h : qP o = some r) : ∃ b, o = some (b, r) := by
  match o, h with
  | some (b, r'), h => simp only [qP, Option.some.injEq] at h; subst h; exact ⟨b, rfl⟩
theorem pos_neg {s : ByteArray} {o : Option (List UInt8)} (h : ∀ r, o = some r → Suf s r) : (pos s o < 0 ∧ o = none) ∨ (0 ≤ pos s o ∧ ∃ r, o = some r) := by
  cases o with
  | none => exact .inl ⟨by simp [pos], rfl⟩
  | some r => exact .inr ⟨by have := (h r rfl).le; simp only [pos]; omega, r, rfl⟩
end Go.Proofs.YtdjllnhahhjgmaaGreat
namespace Go.Proofs.YtdjllnhahhjgmaaGreat
open Go.RowKit Chron
def capE (e : Ev) : Ev := { e with time := min e.time 1125899906842625 }
def memL (e : Ev) (l : List UInt8) : Option (List UInt8 × Ev × List UInt8) :=
  match quoteL l with
  | none => none
  | some (nm, r1) => match signL 58 r1 with
    | none => none
    | some r2 => (fieldL nm e r2).map fun p => (nm, p.1, p.2)
def idx (nm : List UInt8) : Int := if nm = nBody then 1 else if nm = nKind then 2 else if nm = nTags then 3 else if nm = nTask then 4 else 5
/- what a reading of one name, and of what it has, leaves -/
def MemR (s : ByteArray) (e : Ev) (t : List UInt8) (E : Ev) (which p : Int) : Prop :=
  match memL e t with
  | some (nm, e', r) => capE E = e' ∧ which = idx nm ∧ p = pos s (some r) ∧ Suf s r
  | none => p = -1
structure Mb (N base : Nat) (w wx : World) (e : Ev) (x : Value) : Prop where
  box : wx.heap[N]? = some (.cells #[.int .i64 e.kind, .string e.task, .int .i64 e.time, .string e.body, x] 38)
  res : wx.heap[N + 1]? = some (.cells #[.int .i64 0, .string ⟨#[]⟩, .int .i64 0, .string ⟨#[]⟩, .slice none 0 0] 38)
  own : wx.ownsRow base 9 1 x e.tags.length (e.tags.map Value.string)
  ap : x.ownBlock ≠ some N ∧ x.ownBlock ≠ some (N + 1)
  bel : Below N w wx
theorem Mb.big {N base : Nat} {w wx : World} {e : Ev} {x : Value} (h : Mb N base w wx e x) : N + 2 ≤ wx.heap.size := (Array.getElem?_eq_some_iff.1 h.res).1
theorem Mb.more {N base : Nat} {w wx wy : World} {e : Ev} {x : Value} (h : Mb N base w wx e x) (hb : Below wx.heap.size wx wy) : Mb N base w wy e x := by
  have := h.big
  exact ⟨(hb.block N (by omega)).trans h.box, (hb.block (N + 1) (by omega)).trans h.res, own_below h.own hb, h.ap, h.bel.trans (hb.mono (by omega))⟩
theorem Mb.set {N base : Nat} {w wx : World} {e e' : Ev} {x : Value} {i : Nat} {u : Value} (h : Mb N base w wx e x) (ht : e'.tags = e.tags)
    (hc : #[.int .i64 e.kind, .string e.task, .int .i64 e.time, .string e.body, x].setIfInBounds i u = #[.int .i64 e'.kind, .string e'.task, .int .i64 e'.time, .string e'.body, x]) : Mb N base w (wx.setCell ⟨N, i, none⟩ u) e' x := by
  refine ⟨by rw [loan_set h.box, hc], (Below.heap_setCell _ _ _ _ (by show N + 1 ≠ N; omega)).trans h.res, ?_, h.ap, h.bel.setCell (Nat.le_refl _) _⟩
  rw [ht]
  exact own_of_block h.own fun q hq => Below.heap_setCell _ _ _ _ (by rintro rfl; exact h.ap.1 hq)
theorem Mb.tag {N base : Nat} {w wx : World} {e : Ev} {x y : Value} {ts : List ByteArray} (h : Mb N base w wx e x) (hbN : base ≤ N) {B : Nat} (hB : N + 2 ≤ B) (hy : wx.ownsRow B 9 1 y ts.length (ts.map Value.string)) : Mb N base w (wx.setCell ⟨N, 4, none⟩ y) { e with tags := ts } y := by
  have hap : y.ownBlock ≠ some N ∧ y.ownBlock ≠ some (N + 1) := ⟨fun e => by have := (hy.lt _ e).1; omega, fun e => by have := (hy.lt _ e).1; omega⟩
  refine ⟨loan_set h.box, (Below.heap_setCell _ _ _ _ (by show N + 1 ≠ N; omega)).trans h.res, ?_, hap, h.bel.setCell (Nat.le_refl _) _⟩
  exact own_mono (own_of_block hy fun q hq => Below.heap_setCell _ _ _ _ (by rintro rfl; exact hap.1 hq)) (by omega)
theorem Mb.out {N base : Nat} {w wx : World} {e : Ev} {x x0 x1 x2 x3 x4 : Value} (h : Mb N base w wx e x) :
    (((((wx.setCell ⟨N + 1, 0, none⟩ x0).setCell ⟨N + 1, 1, none⟩ x1).setCell ⟨N + 1, 2, none⟩ x2).setCell ⟨N + 1, 3, none⟩ x3).setCell ⟨N + 1, 4, none⟩ x4).ownsRow base 9 1 x e.tags.length (e.tags.map Value.string) ∧
    Below N w (((((wx.setCell ⟨N + 1, 0, none⟩ x0).setCell ⟨N + 1, 1, none⟩ x1).setCell ⟨N + 1, 2, none⟩ x2).setCell ⟨N + 1, 3, none⟩ x3).setCell ⟨N + 1, 4, none⟩ x4) := by
  refine ⟨own_of_block h.own fun q hq => ?_, below_set5 h.bel (by omega)⟩
  have hq1 : q ≠ N + 1 := by rintro rfl; exact h.ap.2 hq
  rw [Below.heap_setCell _ _ _ _ hq1, Below.heap_setCell _ _ _ _ hq1, Below.heap_setCell _ _ _ _ hq1, Below.heap_setCell _ _ _ _ hq1, Below.heap_setCell _ _ _ _ hq1]
theorem ba_list (l : List UInt8) : (ba l).toList = l := by rw [ByteArray.toList_eq]; simp [ba]
theorem wordsAt (X : World) {i : Nat} {k : Int} (hk : (i : Int) + 1 = k) (hi : i < 4) : (X.alloc (.cells #[.string ⟨#[98, 101, 103, 117, 110]⟩, .string ⟨#[100, 111, 110, 101]⟩, .string ⟨#[102, 97, 105, 108, 101, 100]⟩, .string ⟨#[110, 111, 116, 101, 100]⟩] 9)).cell? ⟨X.heap.size, i, none⟩ = some (.string (ba (wordB k))) := by
  subst hk
  have hh := heap_alloc_new X (.cells #[.string ⟨#[98, 101, 103, 117, 110]⟩, .string ⟨#[100, 111, 110, 101]⟩, .string ⟨#[102, 97, 105, 108, 101, 100]⟩, .string ⟨#[110, 111, 116, 101, 100]⟩] 9)
  have h4 : i = 0 ∨ i = 1 ∨ i = 2 ∨ i = 3 := by omega
  rcases h4 with rfl | rfl | rfl | rfl <;> (simp only [World.cell?, hh]; rfl)
def kpre (q : List UInt8) (n : Nat) : Int := if 0 < n ∧ q = wordB 1 then 1 else if 1 < n ∧ q = wordB 2 then 2 else if 2 < n ∧ q = wordB 3 then 3 else if 3 < n ∧ q = wordB 4 then 4 else 0
theorem kpre_kind (q : List UInt8) : (∀ k, kindW q = some k → kpre q 4 = k ∧ ¬ kpre q 4 = 0) ∧ (kindW q = none → kpre q 4 = 0) := by
  unfold kindW kpre
  by_cases h1 : q = wordB 1
  · simp [h1]
  · by_cases h2 : q = wordB 2
    · simp [h2, show ¬ wordB 2 = wordB 1 by decide]
    · by_cases h3 : q = wordB 3
      · simp [h3, show ¬ wordB 3 = wordB 1 by decide, show ¬ wordB 3 = wordB 2 by decide]
      · by_cases h4 : q = wordB 4
        · simp [h4, show ¬ wordB 4 = wordB 1 by decide, show ¬ wordB 4 = wordB 2 by decide, show ¬ wordB 4 = wordB 3 by decide]
        · simp [h1, h2, h3, h4]
theorem kpre_step (q : List UInt8) {n : Nat} (hn : n < 4) : kpre q (n + 1) = if q = wordB ((n : Int) + 1) then (n : Int) + 1 else kpre q n := by
  have h4 : n = 0 ∨ n = 1 ∨ n = 2 ∨ n = 3 := by omega
  unfold kpre
  rcases h4 with rfl | rfl | rfl | rfl
  · by_cases h : q = wordB 1
    · simp [h]
    · simp [h]
  · by_cases h : q = wordB 2
    · simp [h, show ¬ wordB 2 = wordB 1 by decide]
    · simp [h]
  · by_cases h : q = wordB 3
    · simp [h, show ¬ wordB 3 = wordB 1 by decide, show ¬ wordB 3 = wordB 2 by decide]
    · simp [h]
  · by_cases h : q = wordB 4
    · simp [h, show ¬ wordB 4 = wordB 1 by decide, show ¬ wordB 4 = wordB 2 by decide, show ¬ wordB 4 = wordB 3 by decide]
    · simp [h]
end Go.Proofs.YtdjllnhahhjgmaaGreat
namespace Go.Proofs.YtdjllnhahhjgmaaGreat
open Go.RowKit Chron
def EvR (s : ByteArray) (o : Option (List UInt8)) (E : Ev) (p : Int) : Prop :=
  match o.bind eventL with
  | some (e', r) => capE E = e' ∧ p = pos s (some r) ∧ Suf s r
  | none => p = -1
theorem step_mem (c : UInt8) (e : Ev) (l : List UInt8) : stepL c e l = (signL c l).bind (memL e) := by
  unfold stepL memL
  cases signL c l with
  | none => rfl
  | some r => rfl
/- which names there were -/
def Marks6 (hb : List Bool) (ns : List (List UInt8)) : Prop := ∀ i : Nat, hb[i]? = some true ↔ ∃ nm ∈ ns, idx nm = (i : Int)
def okName (nm : List UInt8) : Prop := nm = nBody ∨ nm = nKind ∨ nm = nTags ∨ nm = nTask ∨ nm = nTime
theorem field_name {nm l r : List UInt8} {e e' : Ev} (h : fieldL nm e l = some (e', r)) : okName nm := by
  unfold fieldL at h
  split at h
  · exact .inl ‹_›
  · split at h
    · exact .inr (.inl ‹_›)
    · split at h
      · exact .inr (.inr (.inl ‹_›))
      · split at h
        · exact .inr (.inr (.inr (.inl ‹_›)))
        · split at h
          · exact .inr (.inr (.inr (.inr ‹_›)))
          · cases h
theorem mem_name {nm l r : List UInt8} {e e' : Ev} (h : memL e l = some (nm, e', r)) : okName nm := by
  unfold memL at h
  split at h
  · cases h
  · split at h
    · cases h
    · rename_i nm' _ _ _ r2 _
      cases hf : fieldL nm' e r2 with
      | none => rw [hf] at h; cases h
      | some p =>
        rw [hf] at h
        simp only [Option.map_some, Option.some.injEq, Prod.mk.injEq] at h
        obtain ⟨rfl, _⟩ := h
        exact field_name (e' := p.1) (r := p.2) hf
theorem idx_inj {a b : List UInt8} (ha : okName a) (hb : okName b) (h : idx a = idx b) : a = b := by
  rcases ha with rfl | rfl | rfl | rfl | rfl <;> rcases hb with rfl | rfl | rfl | rfl | rfl <;> first | rfl | exact absurd h (by decide)
theorem idx_bd {a : List UInt8} (ha : okName a) : ∃ n : Nat, idx a = n ∧ n < 6 := by
  rcases ha with rfl | rfl | rfl | rfl | rfl
  · exact ⟨1, rfl, by decide⟩
  · exact ⟨2, rfl, by decide⟩
  · exact ⟨3, rfl, by decide⟩
  · exact ⟨4, rfl, by decide⟩
  · exact ⟨5, rfl, by decide⟩
/- where the reading of an event stands -/
structure Now (s : ByteArray) (o : Option (List UInt8)) (n : Nat) (c : UInt8) (E : Ev) (ns : List (List UInt8)) (hb : List Bool) (q : Option (List UInt8)) : Prop where
  goal : (o.bind fun l => stepsL 5 123 evZero [] l) = q.bind fun t => stepsL n c (capE E) ns t
  nodup : ns.Nodup
  oks : ∀ nm ∈ ns, okName nm
  marks : Marks6 hb ns
  suf : ∀ r, q = some r → Suf s r
theorem event_bind (o : Option (List UInt8)) : o.bind eventL = (o.bind fun l => stepsL 5 123 evZero [] l).bind fun x => if x.2.1.Nodup then (signL 125 x.2.2).map fun r2 => (x.1, r2) else none := by
  cases o with
  | none => rfl
  | some l =>
    simp only [Option.bind_some, eventL]
    cases stepsL 5 123 evZero [] l with
    | none => rfl
    | some x => rfl
theorem Now.none {s : ByteArray} {o q : Option (List UInt8)} {n : Nat} {c : UInt8} {E : Ev} {ns : List (List UInt8)} {hb : List Bool} (h : Now s o (n + 1) c E ns hb q) (hq : q.bind (signL c) = .none) : o.bind eventL = .none := by
  rw [event_bind, h.goal]
  cases q with
  | none => rfl
  | some t =>
    simp only [Option.bind_some] at hq ⊢
    rw [stepsL, step_mem, hq]; rfl
theorem Now.bad {s : ByteArray} {o q : Option (List UInt8)} {n : Nat} {c : UInt8} {E : Ev} {ns : List (List UInt8)} {hb : List Bool} {t1 : List UInt8} (h : Now s o (n + 1) c E ns hb q) (hq : q.bind (signL c) = some t1) (hm : memL (capE E) t1 = .none) : o.bind eventL = .none := by
  rw [event_bind, h.goal]
  cases q with
  | none => rfl
  | some t =>
    simp only [Option.bind_some] at hq ⊢
    rw [stepsL, step_mem, hq, Option.bind_some, hm]; rfl
theorem Now.twice {s : ByteArray} {o q : Option (List UInt8)} {n : Nat} {c : UInt8} {E e' : Ev} {ns : List (List UInt8)} {hb : List Bool} {t1 nm r : List UInt8} (h : Now s o (n + 1) c E ns hb q) (hq : q.bind (signL c) = some t1) (hm : memL (capE E) t1 = some (nm, e', r)) (hin : nm ∈ ns) : o.bind eventL = .none := by
  rw [event_bind, h.goal]
  cases q with
  | none => rfl
  | some t =>
    simp only [Option.bind_some] at hq ⊢
    rw [stepsL, step_mem, hq, Option.bind_some, hm]
    simp only
    cases hs : stepsL n 44 e' (ns ++ [nm]) r with
    | none => rfl
    | some x =>
      obtain ⟨_, _, _, hp⟩ := steps_suf n (e' := x.1) (had' := x.2.1) (r := x.2.2) hs
      simp only [Option.bind_some]
      rw [if_neg]
      intro hnd
      have := hnd.sublist hp.sublist
      rw [List.nodup_append] at this
      exact this.2.2 nm hin nm (by simp) rfl
theorem Now.next {s : ByteArray} {o q : Option (List UInt8)} {n : Nat} {c : UInt8} {E E' e' : Ev} {ns : List (List UInt8)} {hb : List Bool} {t1 nm r : List UInt8} {i : Nat} (h : Now s o (n + 1) c E ns hb q) (hq : q.bind (signL c) = some t1) (hm : memL (capE E) t1 = some (nm, e', r)) (hE : capE E' = e') (hr : Suf s r) (hi : idx nm = (i : Int)) (hl : hb.length = 6) (hno : ¬ hb[i]? = some true) :
    Now s o n 44 E' (ns ++ [nm]) (hb.set i true) (some r) := by
  have hok := mem_name hm
  have hnin : nm ∉ ns := fun hin => hno ((h.marks i).2 ⟨nm, hin, hi⟩)
  obtain ⟨j, hj1, hj2⟩ := idx_bd hok
  have hij : i = j := by omega
  refine ⟨?_, ?_, ?_, ?_, fun x hx => by rw [← Option.some.inj hx]; exact hr⟩
  · rw [h.goal]
    cases q with
    | none => cases hq
    | some t =>
      simp only [Option.bind_some] at hq ⊢
      rw [stepsL, step_mem, hq, Option.bind_some, hm, hE]
  · rw [List.nodup_append]
    exact ⟨h.nodup, by simp, fun a ha b hb => by simp only [List.mem_singleton] at hb; rintro rfl; rw [hb] at ha; exact hnin ha⟩
  · intro a ha
    rcases List.mem_append.1 ha with ha | ha
    · exact h.oks a ha
    · simp only [List.mem_singleton] at ha; rw [ha]; exact hok
  · intro a
    by_cases hai : a = i
    · subst hai
      constructor
      · intro _; exact ⟨nm, by simp, hi⟩
      · intro _; rw [List.getElem?_set_self (by omega)]
    · rw [List.getElem?_set_ne (Ne.symm hai), h.marks a]
      constructor
      · rintro ⟨x, hx, hxi⟩; exact ⟨x, by simp [hx], hxi⟩
      · rintro ⟨x, hx, hxi⟩
        rcases List.mem_append.1 hx with hx | hx
        · exact ⟨x, hx, hxi⟩
        · simp only [List.mem_singleton] at hx
          rw [hx, hi] at hxi
          omega
theorem Now.done {s : ByteArray} {o : Option (List UInt8)} {c : UInt8} {E : Ev} {ns : List (List UInt8)} {hb : List Bool} {t : List UInt8} (h : Now s o 0 c E ns hb (some t)) : EvR s o E (pos s (signL 125 t)) := by
  unfold EvR
  rw [event_bind, h.goal]
  simp only [Option.bind_some, stepsL]
  rw [if_pos h.nodup]
  cases hc : signL 125 t with
  | none => rfl
  | some r => exact ⟨rfl, rfl, (h.suf t rfl).trans (sign_suf hc).1⟩
theorem EvR.no {s : ByteArray} {o : Option (List UInt8)} {E : Ev} (h : o.bind eventL = .none) : EvR s o E (-1) := by unfold EvR; rw [h]
end Go.Proofs.YtdjllnhahhjgmaaGreat
namespace Chron
open Go Go.RowKit
theorem perm_of {α : Type} [DecidableEq α] : ∀ {a b : List α}, a.Nodup → (∀ x ∈ a, x ∈ b) → b.length ≤ a.length → a.Perm b
  | [], b, _, _, hl => by
    have : b = [] := List.eq_nil_of_length_eq_zero (by simpa using hl)
    rw [this]
  | x :: a, b, hn, hs, hl => by
    have hx : x ∈ b := hs x (by simp)
    have hn2 := List.nodup_cons.1 hn
    have h1 : a.Perm (b.erase x) := perm_of hn2.2 (fun y hy => (List.mem_erase_of_ne (by rintro rfl; exact hn2.1 hy)).2 (hs y (by simp [hy]))) (by
      rw [List.length_erase_of_mem hx]; simp at hl; omega)
    exact (h1.cons x).trans (List.perm_cons_erase hx).symm
def namesL : List (List UInt8) := [nBody, nKind, nTags, nTask, nTime]
def leL (x y : List UInt8) : Bool := decide (x ≤ y)
theorem names_sorted : namesL.Pairwise (fun a b => leL a b = true) := by decide
theorem leL_trans (a b c : List UInt8) : leL a b = true → leL b c = true → leL a c = true := by
  simp only [leL, decide_eq_true_eq]; exact List.le_trans
theorem leL_total (a b : List UInt8) : (leL a b || leL b a) = true := by
  simp only [leL, Bool.or_eq_true, decide_eq_true_eq]; exact List.le_total a b
theorem sort_names {ns : List (List UInt8)} (h : ns.Perm namesL) : ns.mergeSort leL = namesL := by
  have h1 : (ns.mergeSort leL).Perm namesL := (List.mergeSort_perm ns leL).trans h
  have h2 := List.pairwise_mergeSort leL_trans leL_total ns
  exact h1.eq_of_pairwise (fun a b _ _ hab hba => List.le_antisymm (of_decide_eq_true hab) (of_decide_eq_true hba)) h2 names_sorted
theorem names_iff {ns : List (List UInt8)} (hl : ns.length = 5) (hn : ∀ x ∈ ns, x ∈ namesL) : ns.mergeSort leL = namesL ↔ ns.Nodup := by
  constructor
  · intro h
    have h1 := List.mergeSort_perm ns leL
    rw [h] at h1
    exact h1.nodup_iff.1 (by decide)
  · intro h
    exact sort_names (perm_of h hn (by simp [namesL, hl]))
end Chron
namespace Go.Proofs.YtdjllnhahhjgmaaGreat
open Go.RowKit Chron
def nameAt (i : Nat) : List UInt8 := namesL.getD i []
theorem ext_mid (z y a b : UInt8) (r : List UInt8) : (ba (z :: y :: a :: b :: r)).extract 2 4 = ⟨#[a, b]⟩ := by
  apply bytes_inj
  simp [ba, ByteArray.extract, ByteArray.copySlice]
theorem ext_front (z y a b : UInt8) (r : List UInt8) : (ba (z :: y :: a :: b :: r)).extract 0 2 = ⟨#[z, y]⟩ := by
  apply bytes_inj
  simp [ba, ByteArray.extract, ByteArray.copySlice]
theorem ext_rest (z y a b : UInt8) (r : List UInt8) : (ba (z :: y :: a :: b :: r)).extract 4 (ba (z :: y :: a :: b :: r)).size = ba r := by
  have := extract_mk_drop (z :: y :: a :: b :: r) 4
  exact this
theorem coded_less {l : List UInt8} (h : l.length < 4) : codedL l = none := by
  match l, h with
  | [], _ => rfl
  | [_], _ => rfl
  | [_, _], _ => rfl
  | [_, _, _], _ => rfl
  | _ :: _ :: _ :: _ :: _, h => simp at h; omega
theorem four_of {l : List UInt8} (h : ¬ l.length < 4) : ∃ z y a d r, l = z :: y :: a :: d :: r := by
  match l, h with
  | [], h => simp at h
  | [_], h => simp at h
  | [_, _], h => simp at h
  | [_, _, _], h => simp at h
  | z :: y :: a :: d :: r, _ => exact ⟨z, y, a, d, r, rfl⟩
theorem coded_hex (a b : UInt8) (r : List UInt8) : codedL (48 :: 48 :: a :: b :: r) = (hexN 0 [a, b]).map fun n => (UInt8.ofNat n, r) := by
  simp only [codedL, hexN]
  cases ha : hexD a with
  | none => rfl
  | some m =>
    cases hb : hexD b with
    | none => rfl
    | some n => simp
theorem hexN_lt {a b : UInt8} {n : Nat} (h : hexN 0 [a, b] = some n) : n < 256 := by
  simp only [hexN] at h
  cases ha : hexD a with
  | none => rw [ha] at h; cases h
  | some m =>
    rw [ha] at h
    simp only at h
    cases hb : hexD b with
    | none => rw [hb] at h; cases h
    | some k =>
      rw [hb] at h
      have := hex_lt ha
      have := hex_lt hb
      simp at h
      omega
end Go.Proofs.YtdjllnhahhjgmaaGreat
namespace Go.Proofs.YtdjllnhahhjgmaaGreat
open Go.RowKit Chron
theorem Far.loose {R : List (Option Nat)} {a b : World} (h : Far a b []) : Far a b R := ⟨h.os, h.tape, h.output, h.size, fun k hk _ => h.block k hk (fun r hr => by cases hr)⟩
end Go.Proofs.YtdjllnhahhjgmaaGreat
namespace Go.Proofs.YtdjllnhahhjgmaaGreat
open Go.RowKit Chron
theorem builder_far {T e : TypeId} {b R : Nat} {bs : List Value} {w w' : World} (h : Lib.IsBuilderF T e b b bs w) (hf : Far w w' [some R]) (hR : R < b) : Lib.IsBuilderF T e b b bs w' := by
  have one : ∀ p, Lib.BuilderAtF T e b b p bs w → Lib.BuilderAtF T e b b p bs w' := by
    intro p h
    have hlt := h.lt
    obtain ⟨hB, v, hv, hown, hne⟩ := h
    refine ⟨hB, v, (hf.block b hlt (by simp; omega)).trans hv, hown.kept (row := some R) ⟨hf.os, hf.tape, hf.output, hf.size, fun k hk hne => hf.block k hk (by simpa using Ne.symm hne)⟩ ?_, hne⟩
    rcases hown.2 with hn | ⟨g, cap, cur, fz, hv', hb', _⟩
    · exact .inl (by rw [hn.1]; rfl)
    · exact .inr (by rw [hv']; simp only [Value.ownBlock, ne_eq, Option.some.injEq]; omega)
  exact h.elim (fun x => .inl (one _ x)) (fun x => .inr (one _ x))
theorem Far.low {R : List (Option Nat)} {a b c : World} (h : Far a b R) (hb : Below a.heap.size b c) : Far a c R :=
  ⟨hb.os.trans h.os, hb.tape.trans h.tape, hb.output.trans h.output, Nat.le_trans h.size hb.size, fun k hk hR => (hb.block k hk).trans (h.block k hk hR)⟩
def restLen (R : Nat) (w : World) : Nat := match w.cell? ⟨R, 0, none⟩ with | some (.string s) => s.size | _ => 0
def qR (o : Option (List UInt8 × List UInt8)) : Option (List UInt8) := o.map (·.2)
/- where the reading of what stands in quotes has come to -/
def TextR (l : List UInt8) (b : Bool) (acc lr : List UInt8) (br : Bool) : Prop :=
  (br = b ∧ quoteL l = (inL lr).map fun p => (acc ++ p.1, p.2)) ∨ (quoteL l = none ∧ lr = [] ∧ br = true)
theorem TextR.start (l : List UInt8) (b : Bool) : TextR l b [] (stL (signL 34 l)) (stB b (signL 34 l)) := by
  unfold TextR quoteL
  cases h : signL 34 l with
  | none => exact .inr ⟨rfl, rfl, rfl⟩
  | some r =>
    refine .inl ⟨rfl, ?_⟩
    show inL r = _
    simp [stL]
theorem TextR.step {l acc rr : List UInt8} {b br : Bool} {x : UInt8} (h : TextR l b acc (x :: rr) br) (hx : x ≠ 34) : TextR l b (acc ++ [oC (letterL (x :: rr))]) (stL (oR (letterL (x :: rr)))) (stB br (oR (letterL (x :: rr)))) := by
  rcases h with ⟨h1, h2⟩ | ⟨_, h2, _⟩
  · cases hl : letterL (x :: rr) with
    | none =>
      refine .inr ⟨?_, rfl, rfl⟩
      rw [h2, in_bad hx hl]; rfl
    | some p =>
      obtain ⟨c, r2⟩ := p
      refine .inl ⟨h1, ?_⟩
      rw [h2, in_step hx hl, Option.map_map]
      congr 1
      funext p
      simp [oC]
  · cases h2
theorem TextR.none {l acc : List UInt8} {b br : Bool} (h : TextR l b acc [] br) : quoteL l = none := by
  rcases h with ⟨_, h2⟩ | ⟨h2, _⟩
  · rw [h2, in_nil]; rfl
  · exact h2
theorem TextR.done {l acc rr : List UInt8} {b br : Bool} (h : TextR l b acc (34 :: rr) br) : quoteL l = some (acc, rr) ∧ br = b := by
  rcases h with ⟨h1, h2⟩ | ⟨_, h2, _⟩
  · rw [h2, in_end]; exact ⟨by simp, h1⟩
  · cases h2
theorem sign_34 (rr : List UInt8) : signL 34 (34 :: rr) = some rr := by
  unfold signL skipL
  rw [List.dropWhile_cons_of_neg (by decide)]
  rfl
theorem letter_len {x : UInt8} {rr : List UInt8} : (stL (oR (letterL (x :: rr)))).length < (x :: rr).length := by
  cases h : letterL (x :: rr) with
  | none => simp [oR, stL]
  | some p => exact (letter_suf (c := p.1) (r := p.2) h).2
end Go.Proofs.YtdjllnhahhjgmaaGreat
namespace Go.Proofs.YtdjllnhahhjgmaaGreat
open Go.RowKit Chron
def cR (o : Option (Nat × List UInt8)) : Option (List UInt8) := o.map (·.2)
set_option maxRecDepth 100000 in
theorem dig_all : ∀ n : Fin 256, ([48, 49, 50, 51, 52, 53, 54, 55, 56, 57] : List UInt8).contains (UInt8.ofNat n.val) = isDig (UInt8.ofNat n.val) := by decide
theorem trim_dig (l : List UInt8) : Lib.trimLeftS l [48, 49, 50, 51, 52, 53, 54, 55, 56, 57] = l.dropWhile isDig := by
  unfold Lib.trimLeftS
  congr 1
  funext c
  have := dig_all ⟨c.toNat, c.toNat_lt⟩
  simpa using this
theorem numL_le (ds : List UInt8) : numL ds ≤ 1125899906842625 := by
  unfold numL
  have : ∀ (l : List UInt8) (a : Nat), a ≤ 1125899906842625 → l.foldl (fun n d => capN n d.toNat) a ≤ 1125899906842625 := by
    intro l
    induction l with
    | nil => intro a h; exact h
    | cons x l ih => intro a h; exact ih _ (Nat.min_le_right _ _)
  exact this ds 0 (by decide)
theorem numL_snoc (ds : List UInt8) (d : UInt8) : numL (ds ++ [d]) = capN (numL ds) d.toNat := by unfold numL; rw [List.foldl_append]; rfl
end Go.Proofs.YtdjllnhahhjgmaaGreat
namespace Go.Proofs.YtdjllnhahhjgmaaGreat
open Go.RowKit Chron
def kindL (l : List UInt8) : Option (Int × List UInt8) := (quoteL l).bind fun p => (kindW p.1).map fun k => (k, p.2)
def kR (o : Option (Int × List UInt8)) : Option (List UInt8) := o.map (·.2)
def KV (o : Option (Int × List UInt8)) (n : Int) : Prop := ∀ p, o = some p → n = p.1
def wd (i : Nat) : ByteArray := ⟨(wordB ((i : Int) + 1)).toArray⟩
theorem wd_list (i : Nat) : (wd i).toList = wordB ((i : Int) + 1) := by rw [ByteArray.toList_eq]; simp [wd]
theorem kindW_some {q : List UInt8} {i : Nat} (hi : i < 4) (h : q = wordB ((i : Int) + 1)) : kindW q = some ((i : Int) + 1) := by
  have h4 : i = 0 ∨ i = 1 ∨ i = 2 ∨ i = 3 := by omega
  rcases h4 with rfl | rfl | rfl | rfl <;> subst h <;> decide
theorem kindW_none {q : List UInt8} (h : ∀ i : Nat, i < 4 → q ≠ wordB ((i : Int) + 1)) : kindW q = none := by
  have h0 := h 0 (by decide)
  have h1 := h 1 (by decide)
  have h2 := h 2 (by decide)
  have h3 := h 3 (by decide)
  unfold kindW
  exact (if_neg h0).trans ((if_neg h1).trans ((if_neg h2).trans (if_neg h3)))
theorem kind_none {l : List UInt8} (h : quoteL l = none) : kindL l = none := by unfold kindL; rw [h]; rfl
theorem kind_some {l q r : List UInt8} (h : quoteL l = some (q, r)) : kindL l = (kindW q).map fun k => (k, r) := by unfold kindL; rw [h]; rfl
end Go.Proofs.YtdjllnhahhjgmaaGreat
namespace Go.Proofs.YtdjllnhahhjgmaaGreat
open Go.RowKit Chron
theorem sign_skip (c : UInt8) (l : List UInt8) : signL c (skipL l) = signL c l := by unfold signL; rw [skip_skip]
theorem quote_skip (l : List UInt8) : quoteL (skipL l) = quoteL l := by unfold quoteL; rw [sign_skip]
section
variable {α β : Type} (one : List UInt8 → Option (α × List UInt8)) (hone : ∀ l x r, one l = some (x, r) → r.length < l.length)
def oneR (o : Option (α × List UInt8)) : Option (List UInt8) := o.map (·.2)
def afterL (acc : List α) (lr : List UInt8) : Option (List α × List UInt8) :=
  match signL 44 lr with
  | some r2 => (itemsL one hone r2).map fun p => (acc ++ p.1, p.2)
  | none => (signL 93 lr).map fun r3 => (acc, r3)
def ListR (F : Option (List α × List UInt8)) (b : Bool) (f : β → α) (vs : List β) (lr : List UInt8) (br : Bool) : Prop :=
  (br = b ∧ F = afterL one hone (vs.map f) lr) ∨ (F = none ∧ lr = [] ∧ br = true)
theorem one_nil {one : List UInt8 → Option (α × List UInt8)} (hone : ∀ l x r, one l = some (x, r) → r.length < l.length) : one [] = none := by
  cases h : one [] with
  | none => rfl
  | some p => have := hone _ p.1 p.2 h; simp at this
theorem items_after (l : List UInt8) : itemsL one hone l = match one l with | none => none | some (x, r) => afterL one hone [x] r := by
  cases h : one l with
  | none => exact items_none h
  | some p =>
    obtain ⟨x, r⟩ := p
    simp only
    cases h44 : signL 44 r with
    | some r2 => rw [items_more h h44]; simp [afterL, h44]
    | none => rw [items_last h h44]; simp [afterL, h44]
theorem ListR.start {l : List UInt8} {b : Bool} {f : β → α} {v : β} (hs : ∀ l, one (skipL l) = one l) (h93 : signL 93 (stL (signL 91 l)) = none) (hv : ∀ p, one (skipL (stL (signL 91 l))) = some p → f v = p.1) :
    ListR one hone (listL one hone l) b f [v] (stL (oneR (one (skipL (stL (signL 91 l)))))) (stB (stB b (signL 91 l)) (oneR (one (skipL (stL (signL 91 l)))))) := by
  unfold listL
  cases h1 : signL 91 l with
  | none =>
    refine .inr ⟨rfl, ?_, ?_⟩
    · show stL (oneR (one (skipL []))) = []
      rw [hs, one_nil hone]; rfl
    · show stB true (oneR (one (skipL []))) = true
      rw [hs, one_nil hone]; rfl
  | some r =>
    rw [h1] at h93 hv
    simp only [stL] at h93 hv
    simp only [h93]
    show ListR one hone (itemsL one hone r) b f [v] (stL (oneR (one (skipL r)))) (stB b (oneR (one (skipL r))))
    rw [hs] at hv ⊢
    rw [items_after]
    cases ho : one r with
    | none => exact .inr ⟨rfl, rfl, rfl⟩
    | some p =>
      obtain ⟨x, r3⟩ := p
      refine .inl ⟨rfl, ?_⟩
      have := hv _ ho
      simp only at this
      simp [this, oneR, stL]
theorem ListR.step {F : Option (List α × List UInt8)} {b br : Bool} {f : β → α} {vs : List β} {lr r2 : List UInt8} {v : β} (h : ListR one hone F b f vs lr br) (h44 : signL 44 lr = some r2) (hv : ∀ p, one r2 = some p → f v = p.1) :
    ListR one hone F b f (vs ++ [v]) (stL (oneR (one r2))) (stB br (oneR (one r2))) := by
  rcases h with ⟨h1, h2⟩ | ⟨_, h2, _⟩
  · rw [afterL, h44] at h2
    simp only at h2
    rw [items_after] at h2
    cases ho : one r2 with
    | none =>
      rw [ho] at h2
      exact .inr ⟨h2, rfl, rfl⟩
    | some p =>
      obtain ⟨x, r3⟩ := p
      rw [ho] at h2
      simp only at h2
      have := hv _ ho
      simp only at this
      refine .inl ⟨h1, ?_⟩
      rw [h2]
      show Option.map _ (afterL one hone [x] r3) = afterL one hone ((vs ++ [v]).map f) r3
      unfold afterL
      cases signL 44 r3 with
      | none => cases signL 93 r3 <;> simp [this]
      | some r4 => simp [this]; rfl
  · rw [h2, sign_nil] at h44; cases h44
def lisR (F : Option (List α × List UInt8)) : Option (List UInt8) := F.map (·.2)
theorem ListR.done {F : Option (List α × List UInt8)} {b br : Bool} {f : β → α} {vs : List β} {lr : List UInt8} (h : ListR one hone F b f vs lr br) (h44 : signL 44 lr = none) :
    stL (signL 93 (skipL lr)) = stL (lisR F) ∧ stB br (signL 93 (skipL lr)) = stB b (lisR F) ∧ ∀ p, F = some p → vs.map f = p.1 := by
  rw [sign_skip]
  rcases h with ⟨h1, h2⟩ | ⟨h1, h2, h3⟩
  · rw [afterL, h44] at h2
    simp only at h2
    rw [h2, h1]
    cases signL 93 lr with
    | none => exact ⟨rfl, rfl, fun p hp => by cases hp⟩
    | some r3 => exact ⟨rfl, rfl, fun p hp => by rw [← Option.some.inj hp]⟩
  · rw [h1, h2, h3]
    exact ⟨rfl, rfl, fun p hp => by cases hp⟩
theorem ListR.short {F : Option (List α × List UInt8)} {b br : Bool} {f : β → α} {vs : List β} {lr : List UInt8} (_h : ListR one hone F b f vs lr br) (o : Option (α × List UInt8)) (l2 : List UInt8) (ho : one l2 = o) : (stL (oneR o)).length ≤ l2.length ∧ (0 < l2.length → (stL (oneR o)).length < l2.length) := by
  cases o with
  | none => exact ⟨Nat.zero_le _, fun h => h⟩
  | some p => have := hone _ p.1 p.2 ho; exact ⟨Nat.le_of_lt this, fun _ => this⟩
end
end Go.Proofs.YtdjllnhahhjgmaaGreat
namespace Go.Proofs.YtdjllnhahhjgmaaGreat
open Go.RowKit Chron
theorem own_far {w w' : World} {base R : Nat} {e : TypeId} {size : Nat} {v : Value} {n : Nat} {xs : List Value} (h : w.ownsRow base e size v n xs) (hf : Far w w' [some R]) (hR : R < base) : w'.ownsRow base e size v n xs :=
  own_of_block h fun q hq => hf.block q (h.lt q hq).2 (by simp; have := (h.lt q hq).1; omega)
theorem tags_list (l : List UInt8) : tagsL l = listL quoteL quote_one l := rfl
def bt (s : ByteArray) : List UInt8 := s.data.toList
theorem bt_ba (l : List UInt8) : bt (ba l) = l := by simp [bt, ba]
theorem take_skip {c : UInt8} {l : List UInt8} (h : signL c l = none) : takeL c l = skipL l := by unfold takeL; rw [h]
end Go.Proofs.YtdjllnhahhjgmaaGreat
namespace Go.Proofs.YtdjllnhahhjgmaaGreat
open Go.RowKit Chron
/- the event that is being read: a box, and its tags a row of their own -/
structure Eb (E base : Nat) (w : World) (e : Ev) (x : Value) : Prop where
  box : w.heap[E]? = some (.cells #[.int .i64 e.kind, .string e.task, .int .i64 e.time, .string e.body, x] 38)
  own : w.ownsRow base 9 1 x e.tags.length (e.tags.map Value.string)
theorem Far.wide {Q S : List (Option Nat)} {a b : World} (h : Far a b Q) (hs : ∀ r ∈ Q, r ∈ S) : Far a b S :=
  ⟨h.os, h.tape, h.output, h.size, fun k hk hR => h.block k hk (fun r hr => hR r (hs r hr))⟩
theorem Eb.far {E base R : Nat} {w w' : World} {e : Ev} {x : Value} (h : Eb E base w e x) (hf : Far w w' [some R]) (hR : R < base) (hE : R ≠ E) : Eb E base w' e x :=
  ⟨(hf.block E (Array.getElem?_eq_some_iff.1 h.box).1 (by simp; exact hE)).trans h.box, own_far h.own hf hR⟩
theorem Eb.set {E base : Nat} {w : World} {e e' : Ev} {x : Value} {i : Nat} {u : Value} (h : Eb E base w e x) (hE : E < base) (ht : e'.tags = e.tags)
    (hc : #[.int .i64 e.kind, .string e.task, .int .i64 e.time, .string e.body, x].setIfInBounds i u = #[.int .i64 e'.kind, .string e'.task, .int .i64 e'.time, .string e'.body, x]) : Eb E base (w.setCell ⟨E, i, none⟩ u) e' x := by
  refine ⟨by rw [loan_set h.box, hc], ?_⟩
  rw [ht]
  exact own_of_block h.own fun q hq => Below.heap_setCell _ _ _ _ (by rintro rfl; have := (h.own.lt _ hq).1; omega)
theorem Eb.tag {E base : Nat} {w : World} {e : Ev} {x y : Value} {ts : List ByteArray} (h : Eb E base w e x) (hE : E < base) (hy : w.ownsRow base 9 1 y ts.length (ts.map Value.string)) : Eb E base (w.setCell ⟨E, 4, none⟩ y) { e with tags := ts } y :=
  ⟨loan_set h.box, own_of_block hy fun q hq => Below.heap_setCell _ _ _ _ (by rintro rfl; have := (hy.lt _ hq).1; omega)⟩
def fR (o : Option (Ev × List UInt8)) : Option (List UInt8) := o.map (·.2)
def FV (o : Option (Ev × List UInt8)) (e : Ev) : Prop := ∀ p, o = some p → e = p.1
theorem ba_bt (s : ByteArray) : ba (bt s) = s := by apply bytes_inj; simp [ba, bt]
theorem map_ba_bt {ts : List ByteArray} {l : List (List UInt8)} (h : ts.map bt = l) : ts = l.map ba := by
  rw [← h, List.map_map]
  have : (ba ∘ bt) = id := by funext s; exact ba_bt s
  rw [this, List.map_id]
theorem kind_same (l : List UInt8) (tk : ByteArray) (m : Int) (bd : ByteArray) (ts : List ByteArray) : fR ((quoteL l).bind fun p => (kindW p.1).map fun j => ((⟨j, tk, m, bd, ts⟩ : Ev), p.2)) = kR (kindL l) := by
  unfold kindL
  cases quoteL l with
  | none => rfl
  | some p =>
    simp only [Option.bind_some]
    cases kindW p.1 <;> rfl
theorem kind_val {l : List UInt8} {tk : ByteArray} {m : Int} {bd : ByteArray} {ts : List ByteArray} {n : Int} (h : KV (kindL l) n) : FV ((quoteL l).bind fun p => (kindW p.1).map fun j => ((⟨j, tk, m, bd, ts⟩ : Ev), p.2)) ⟨n, tk, m, bd, ts⟩ := by
  unfold kindL at h
  intro p hp
  cases hq : quoteL l with
  | none => rw [hq] at hp; cases hp
  | some q =>
    rw [hq] at hp h
    simp only [Option.bind_some] at hp h
    cases hk : kindW q.1 with
    | none => rw [hk] at hp; cases hp
    | some j =>
      rw [hk] at hp h
      have := h _ rfl
      simp only at this
      rw [← Option.some.inj hp, this]
end Go.Proofs.YtdjllnhahhjgmaaGreat
namespace Go.Proofs.YtdjllnhahhjgmaaGreat
open Go.RowKit Chron
def memThen (n : Nat) (e : Ev) (ns : List (List UInt8)) (l : List UInt8) : Option (Ev × List (List UInt8) × List UInt8) :=
  match memL e l with
  | none => none
  | some (nm, e', r) => stepsL n 44 e' (ns ++ [nm]) r
def okAll (ns : List (List UInt8)) : Prop := ∀ x ∈ ns, okName x
def HeadR (S : Option (Ev × List (List UInt8) × List UInt8)) (b : Bool) (n : Nat) (e : Ev) (ns : List (List UInt8)) (lr : List UInt8) (br : Bool) : Prop :=
  (br = b ∧ S = stepsL n 44 e ns lr ∧ okAll ns) ∨ (S = none ∧ lr = [] ∧ br = true)
def MidR (S : Option (Ev × List (List UInt8) × List UInt8)) (b : Bool) (n : Nat) (e : Ev) (ns : List (List UInt8)) (lr : List UInt8) (br : Bool) : Prop :=
  (br = b ∧ S = memThen n e ns lr ∧ okAll ns) ∨ (S = none ∧ lr = [] ∧ br = true)
theorem steps_mem (n : Nat) (c : UInt8) (e : Ev) (ns : List (List UInt8)) (l : List UInt8) : stepsL (n + 1) c e ns l = (signL c l).bind (memThen n e ns) := by
  rw [stepsL, step_mem]
  cases signL c l with
  | none => rfl
  | some r => rfl
theorem MidR.start (l : List UInt8) (b : Bool) : MidR (stepsL 5 123 evZero [] l) b 4 evZero [] (stL (signL 123 l)) (stB b (signL 123 l)) := by
  rw [steps_mem]
  cases signL 123 l with
  | none => exact .inr ⟨rfl, rfl, rfl⟩
  | some r => exact .inl ⟨rfl, rfl, fun x hx => by cases hx⟩
theorem HeadR.mid {S : Option (Ev × List (List UInt8) × List UInt8)} {b br : Bool} {n : Nat} {e : Ev} {ns : List (List UInt8)} {lr : List UInt8} (h : HeadR S b (n + 1) e ns lr br) : MidR S b n e ns (stL (signL 44 lr)) (stB br (signL 44 lr)) := by
  rcases h with ⟨h1, h2, h3⟩ | ⟨h1, h2, h3⟩
  · rw [steps_mem] at h2
    cases hs : signL 44 lr with
    | none => rw [hs] at h2; exact .inr ⟨h2, rfl, rfl⟩
    | some r => rw [hs] at h2; exact .inl ⟨h1, h2, h3⟩
  · rw [h2, h3]
    exact .inr ⟨h1, rfl, rfl⟩
theorem field_nil (nm : List UInt8) (e : Ev) : fieldL nm e [] = none := by
  cases h : fieldL nm e [] with
  | none => rfl
  | some p => have := (field_suf (e' := p.1) (r := p.2) h).2; simp at this
theorem quote_nil : quoteL [] = none := by unfold quoteL; rw [sign_nil]
theorem MidR.head {S : Option (Ev × List (List UInt8) × List UInt8)} {b br : Bool} {n : Nat} {e e' : Ev} {ns : List (List UInt8)} {lr nm l2 l3 : List UInt8} {b2 b3 : Bool} (h : MidR S b n e ns lr br)
    (h2 : l2 = stL (qR (quoteL lr)) ∧ b2 = stB br (qR (quoteL lr))) (hn : ∀ p, quoteL lr = some p → nm = p.1) (h3 : l3 = stL (signL 58 l2) ∧ b3 = stB b2 (signL 58 l2)) (he : FV (fieldL nm e l3) e') :
    HeadR S b n e' (ns ++ [nm]) (stL (fR (fieldL nm e l3))) (stB b3 (fR (fieldL nm e l3))) := by
  have fail : l3 = [] → b3 = true → S = none → HeadR S b n e' (ns ++ [nm]) (stL (fR (fieldL nm e l3))) (stB b3 (fR (fieldL nm e l3))) := by
    intro a c d
    rw [a, c, field_nil]
    exact .inr ⟨d, rfl, rfl⟩
  obtain ⟨rfl, rfl⟩ := h2
  obtain ⟨rfl, rfl⟩ := h3
  rcases h with ⟨h1, h2, h3⟩ | ⟨h1, h2, h3⟩
  · cases hq : quoteL lr with
    | none =>
      rw [hq] at fail
      rw [hq] at he
      refine fail rfl rfl ?_
      rw [h2, memThen, memL, hq]
    | some p =>
      obtain ⟨q, r1⟩ := p
      have hnq : nm = q := hn _ hq
      subst hnq
      rw [hq] at fail he
      simp only [qR, Option.map_some, stL, stB] at fail he ⊢
      cases hs : signL 58 r1 with
      | none =>
        rw [hs] at fail he
        refine fail rfl rfl ?_
        rw [h2, memThen, memL, hq]; simp only [hs]
      | some r2 =>
        rw [hs] at he
        simp only at he ⊢
        cases hf : fieldL nm e r2 with
        | none =>
          refine .inr ⟨?_, rfl, rfl⟩
          rw [h2, memThen, memL, hq]; simp only [hs, hf, Option.map_none]
        | some z =>
          obtain ⟨e2, r3⟩ := z
          have := he _ hf
          simp only at this
          subst this
          refine .inl ⟨h1, ?_, ?_⟩
          · rw [h2, memThen, memL, hq]; simp only [hs, hf, Option.map_some]; rfl
          · intro x hx
            rcases List.mem_append.1 hx with hx | hx
            · exact h3 x hx
            · simp only [List.mem_singleton] at hx; rw [hx]; exact field_name hf
  · subst h2
    rw [quote_nil] at fail
    rw [quote_nil]
    rw [quote_nil] at he
    subst h3
    exact fail rfl rfl h1
theorem okName_mem {x : List UInt8} (h : okName x) : x ∈ namesL := by
  unfold namesL
  rcases h with rfl | rfl | rfl | rfl | rfl <;> simp
/- what stands at the end: all five names, and the bracket -/
theorem HeadR.done {l lr : List UInt8} {b br : Bool} {e : Ev} {ns : List (List UInt8)} (h : HeadR (stepsL 5 123 evZero [] l) b 0 e ns lr br) (hl : ns.length = 5) :
    (ns.mergeSort leL = namesL → stL (signL 125 lr) = stL (fR (eventL l)) ∧ stB br (signL 125 lr) = stB b (fR (eventL l)) ∧ FV (eventL l) e) ∧ (ns.mergeSort leL ≠ namesL → eventL l = none) := by
  unfold eventL
  rcases h with ⟨h1, h2, h3⟩ | ⟨h1, h2, h3⟩
  · rw [h2]
    simp only [stepsL]
    have key := names_iff hl (fun x hx => okName_mem (h3 x hx))
    constructor
    · intro hm
      rw [if_pos (key.1 hm), h1]
      cases signL 125 lr with
      | none => exact ⟨rfl, rfl, fun p hp => by cases hp⟩
      | some r2 => exact ⟨rfl, rfl, fun p hp => by rw [← Option.some.inj hp]⟩
    · intro hm
      rw [if_neg (fun h => hm (key.2 h))]
  · rw [h1, h2, h3]
    exact ⟨fun _ => ⟨rfl, rfl, fun p hp => by cases hp⟩, fun _ => rfl⟩
def hadC (had : List ByteArray) : Array Value := (had.map Value.string).toArray
end Go.Proofs.YtdjllnhahhjgmaaGreat
namespace Go.Proofs.YtdjllnhahhjgmaaGreat
open Go.RowKit Chron
theorem len_sign (c : UInt8) (l : List UInt8) : (stL (signL c l)).length ≤ l.length := by
  cases hq : signL c l with
  | none => simp [stL]
  | some r => have := (sign_suf hq).2; simp only [stL]; omega
theorem len_quote (l : List UInt8) : (stL (qR (quoteL l))).length ≤ l.length := by
  cases hq : quoteL l with
  | none => simp [qR, stL]
  | some p => have := (quote_suf (s := p.1) (r := p.2) hq).2.1; simp only [qR, Option.map_some, stL]; omega
theorem len_field (nm : List UInt8) (e : Ev) (l : List UInt8) : (stL (fR (fieldL nm e l))).length ≤ l.length := by
  cases hq : fieldL nm e l with
  | none => simp [fR, stL]
  | some p => have := (field_suf (e' := p.1) (r := p.2) hq).2; simp only [fR, Option.map_some, stL]; omega
def LoopR (l : List UInt8) (b : Bool) (k : Nat) (e : Ev) (hd : List ByteArray) (lr : List UInt8) (br : Bool) : Prop :=
  (k = 0 ∧ MidR (stepsL 5 123 evZero [] l) b 4 e ((hd.take k).map bt) lr br) ∨ (0 < k ∧ HeadR (stepsL 5 123 evZero [] l) b (5 - k) e ((hd.take k).map bt) lr br)
theorem set_take {hd : List ByteArray} {k : Nat} {s : ByteArray} (hk : k < hd.length) : ((hd.set k s).take (k + 1)).map bt = (hd.take k).map bt ++ [bt s] := by
  rw [List.take_succ_eq_append_getElem (by simpa using hk), List.take_set, List.set_eq_of_length_le (by simp; omega)]
  simp
theorem loop_next {l : List UInt8} {b : Bool} {k : Nat} {e : Ev} {hd : List ByteArray} {lr : List UInt8} {br : Bool} (hk : k < 5) (h : HeadR (stepsL 5 123 evZero [] l) b (4 - k) e ((hd.take (k + 1)).map bt) lr br) : LoopR l b (k + 1) e hd lr br := by
  have e4 : 5 - (k + 1) = 4 - k := by omega
  refine .inr ⟨by omega, ?_⟩
  rw [e4]; exact h
def sorted (hd : List ByteArray) : List ByteArray := ((hd.map bt).mergeSort leL).map ba
theorem sorted_len (hd : List ByteArray) : (sorted hd).length = hd.length := by simp [sorted]
theorem plainText : Tryz.prog.plainKey 9 = true := by kernel_rfl
theorem cellsStr : Tryz.prog.cellsOf 9 = 1 := by kernel_rfl
theorem eq_step (W : World) (xs ys : Array Value) (i : Nat) (is : List Nat) (a b : ByteArray) (ha : xs[i]? = some (.string a)) (hb : ys[i]? = some (.string b)) :
    (Op.eqItems 9999 9 1 xs ys (i :: is)).run Tryz.prog W = if a = b then (Op.eqItems 9999 9 1 xs ys is).run Tryz.prog W else .ok false W := by
  have h1 : (part 9 xs (i * 1)).run Tryz.prog W = .ok (.string a) W := run_part_plain W plainText (by rw [Nat.mul_one]; exact ha)
  have h2 : (part 9 ys (i * 1)).run Tryz.prog W = .ok (.string b) W := run_part_plain W plainText (by rw [Nat.mul_one]; exact hb)
  have h3 : (Op.equalIn 9999 9 (.string a) (.string b)).run Tryz.prog W = .ok (a.toList == b.toList) W := run_equalIn_string W 9998 _ a b Tryz.underlying9
  simp only [Op.eqItems, Sem.run_bind, h1, h2, h3, Result.andThen_ok]
  by_cases he : a = b
  · subst he; simp
  · have : (a.toList == b.toList) = false := by
      rw [beq_eq_false_iff_ne]
      intro h
      exact he (by apply bytes_inj; rw [← ByteArray.toList_eq, h, ByteArray.toList_eq])
    rw [this, if_neg he]; rfl
end Go.Proofs.YtdjllnhahhjgmaaGreat
namespace Go.Proofs.YtdjllnhahhjgmaaGreat
open Go.RowKit Chron
theorem bool_cells {w : World} {N : Nat} {l : List Bool} {t : TypeId} (h : w.heap[N]? = some (.cells (l.map Value.bool).toArray t)) {i : Nat} {x : Bool} (hx : l[i]? = some x) : w.cell? ⟨N, i, none⟩ = some (.bool x) ∧ w.frozen? ⟨N, i, none⟩ = false := by
  constructor
  · simp [World.cell?, h, hx]
  · simp [World.frozen?, h]
end Go.Proofs.YtdjllnhahhjgmaaGreat
namespace Chron
open Go Go.RowKit
structure Few (n : Nat) (e : Ev) : Prop where
  tags : e.tags.length ≤ n
  each : ∀ t ∈ e.tags, t.size ≤ n
  task : e.task.size ≤ n
  body : e.body.size ≤ n
theorem ba_size (l : List UInt8) : (ba l).size = l.length := rfl
theorem items_each {one : List UInt8 → Option (List UInt8 × List UInt8)} {hone : ∀ l x r, one l = some (x, r) → r.length < l.length} (hx : ∀ l x r, one l = some (x, r) → x.length ≤ l.length) : ∀ (n : Nat) {l r : List UInt8} {xs : List (List UInt8)}, l.length ≤ n → itemsL one hone l = some (xs, r) → ∀ x ∈ xs, x.length ≤ l.length
  | n, l, r, xs, hn, h => by
    cases ho : one l with
    | none => rw [items_none ho] at h; cases h
    | some p =>
      obtain ⟨x, r0⟩ := p
      have h0 := hone l x r0 ho
      have x0 := hx l x r0 ho
      cases hs : signL 44 r0 with
      | none =>
        rw [items_last ho hs] at h
        cases h3 : signL 93 r0 with
        | none => rw [h3] at h; cases h
        | some r3 =>
          rw [h3] at h
          simp only [Option.map_some, Option.some.injEq, Prod.mk.injEq] at h
          obtain ⟨rfl, rfl⟩ := h
          intro y hy
          simp only [List.mem_singleton] at hy
          rw [hy]; exact x0
      | some r2 =>
        rw [items_more ho hs] at h
        have hl2 := (sign_suf hs).2
        cases hi : itemsL one hone r2 with
        | none => rw [hi] at h; cases h
        | some q =>
          obtain ⟨ys, r3⟩ := q
          rw [hi] at h
          simp only [Option.map_some, Option.some.injEq, Prod.mk.injEq] at h
          obtain ⟨rfl, rfl⟩ := h
          match n, hn with
          | 0, hn => omega
          | n + 1, hn =>
            have ih := items_each hx n (by omega) hi
            intro y hy
            rcases List.mem_cons.1 hy with rfl | hy
            · exact x0
            · have := ih y hy; omega
theorem tags_each {l r : List UInt8} {xs : List (List UInt8)} (h : tagsL l = some (xs, r)) : ∀ x ∈ xs, x.length ≤ l.length := by
  unfold tagsL listL at h
  split at h
  · cases h
  · rename_i r0 e0
    have h0 := (sign_suf e0).2
    split at h
    · simp only [Option.some.injEq, Prod.mk.injEq] at h
      obtain ⟨rfl, _⟩ := h
      intro x hx; cases hx
    · intro x hx
      have := items_each (fun l x r h => by have := (quote_suf h).2.2; omega) _ (Nat.le_refl _) h x hx
      omega
theorem field_few {n : Nat} {nm l r : List UInt8} {e e' : Ev} (hn : l.length ≤ n) (he : Few n e) (h : fieldL nm e l = some (e', r)) : Few n e' := by
  unfold fieldL at h
  split at h
  · cases hc : quoteL l with
    | none => rw [hc] at h; cases h
    | some p =>
      rw [hc] at h
      simp only [Option.map_some, Option.some.injEq, Prod.mk.injEq] at h
      obtain ⟨rfl, _⟩ := h
      have := (quote_suf (s := p.1) (r := p.2) hc).2.2
      exact ⟨he.tags, he.each, he.task, by show (ba p.1).size ≤ n; rw [ba_size]; omega⟩
  · split at h
    · cases hc : quoteL l with
      | none => rw [hc] at h; cases h
      | some p =>
        rw [hc] at h
        simp only [Option.bind_some] at h
        cases hk : kindW p.1 with
        | none => rw [hk] at h; cases h
        | some k =>
          rw [hk] at h
          simp only [Option.map_some, Option.some.injEq, Prod.mk.injEq] at h
          obtain ⟨rfl, _⟩ := h
          exact ⟨he.tags, he.each, he.task, he.body⟩
    · split at h
      · cases hc : tagsL l with
        | none => rw [hc] at h; cases h
        | some p =>
          rw [hc] at h
          simp only [Option.map_some, Option.some.injEq, Prod.mk.injEq] at h
          obtain ⟨rfl, _⟩ := h
          have h1 := (list_suf (fun l x r h => (quote_suf h).1) (xs := p.1) (r := p.2) hc).2.2
          have h2 := tags_each (xs := p.1) (r := p.2) hc
          refine ⟨by show (p.1.map ba).length ≤ n; rw [List.length_map]; omega, fun t ht => ?_, he.task, he.body⟩
          obtain ⟨x, hx, rfl⟩ := List.mem_map.1 ht
          have := h2 x hx
          rw [ba_size]; omega
      · split at h
        · cases hc : quoteL l with
          | none => rw [hc] at h; cases h
          | some p =>
            rw [hc] at h
            simp only [Option.map_some, Option.some.injEq, Prod.mk.injEq] at h
            obtain ⟨rfl, _⟩ := h
            have := (quote_suf (s := p.1) (r := p.2) hc).2.2
            exact ⟨he.tags, he.each, by show (ba p.1).size ≤ n; rw [ba_size]; omega, he.body⟩
        · split at h
          · cases hc : countL l with
            | none => rw [hc] at h; cases h
            | some p =>
              rw [hc] at h
              simp only [Option.map_some, Option.some.injEq, Prod.mk.injEq] at h
              obtain ⟨rfl, _⟩ := h
              exact ⟨he.tags, he.each, he.task, he.body⟩
          · cases h
theorem step_few {n : Nat} {c : UInt8} {l nm r : List UInt8} {e e' : Ev} (hn : l.length ≤ n) (he : Few n e) (h : stepL c e l = some (nm, e', r)) : Few n e' := by
  unfold stepL at h
  split at h
  · cases h
  · rename_i r0 e0
    split at h
    · cases h
    · rename_i nm' r1 e1
      split at h
      · cases h
      · rename_i r2 e2
        cases hf : fieldL nm' e r2 with
        | none => rw [hf] at h; cases h
        | some p =>
          rw [hf] at h
          simp only [Option.map_some, Option.some.injEq, Prod.mk.injEq] at h
          obtain ⟨_, rfl, _⟩ := h
          have a0 := (sign_suf e0).2
          have a1 := (quote_suf e1).2.1
          have a2 := (sign_suf e2).2
          exact field_few (by omega) he hf
theorem steps_few {n : Nat} : ∀ (k : Nat) {c : UInt8} {e e' : Ev} {had had' : List (List UInt8)} {l r : List UInt8}, l.length ≤ n → Few n e → stepsL k c e had l = some (e', had', r) → Few n e'
  | 0, c, e, e', had, had', l, r, _, he, h => by
    simp only [stepsL, Option.some.injEq, Prod.mk.injEq] at h
    obtain ⟨rfl, _⟩ := h
    exact he
  | k + 1, c, e, e', had, had', l, r, hn, he, h => by
    simp only [stepsL] at h
    split at h
    · cases h
    · rename_i nm e1 r1 hs
      have a2 := (step_suf hs).2
      exact steps_few k (by omega) (step_few hn he hs) h
theorem event_few {l r : List UInt8} {e : Ev} (h : eventL l = some (e, r)) : Few l.length e := by
  unfold eventL at h
  split at h
  · cases h
  · rename_i e' had r0 hs
    split at h
    · cases hc : signL 125 r0 with
      | none => rw [hc] at h; cases h
      | some r2 =>
        rw [hc] at h
        simp only [Option.map_some, Option.some.injEq, Prod.mk.injEq] at h
        obtain ⟨rfl, rfl⟩ := h
        refine steps_few 5 (Nat.le_refl _) ⟨?_, ?_, ?_, ?_⟩ hs
        · show 0 ≤ _; omega
        · intro t ht; cases ht
        · show 0 ≤ _; omega
        · show 0 ≤ _; omega
    · cases h
end Chron
