/- Walks of chroniclelaw's loan: badTag(0), one. -/
import Derived.Test.YtdjllnhahhjgmaaC4
import Derived.Test.YtdjllnhahhjgmaaB2
import Derived.Laws.CopyOwn
import Derived.Deep.AppendLies
namespace Go.Proofs.Ytdjllnhahhjgmaa
open Go.RowKit Chron
def badT : ByteArray := ⟨#[116, 104, 101, 32, 99, 97, 108, 108, 101, 114, 39, 115, 32]⟩
theorem badTag_zero (w : World) : Calls Try.prog 29 #[.int .i64 0] w fun e w' => e = .returned (.string badT) ∧ w' = w := by
  go_enter Try.func29, Try.ntmps29
  go_wp2
  go_loop [0, 3] (fun i s => i = .int .i64 0 ∧ s = .string badT) (fun _ _ => 0)
  case atStart => exact ⟨rfl, rfl⟩
  case round =>
    obtain ⟨rfl, rfl⟩ := hrel
    go_wp2
    go_ret
    exact ⟨rfl, rfl⟩
/- all but some blocks is as it was -/
structure Far (w w' : World) (R : List (Option Nat)) : Prop where
  os : w'.os = w.os
  tape : w'.tape = w.tape
  output : w'.output = w.output
  size : w.heap.size ≤ w'.heap.size
  block : ∀ k, k < w.heap.size → (∀ r ∈ R, r ≠ some k) → w'.heap[k]? = w.heap[k]?
theorem Far.refl (w : World) (R : List (Option Nat)) : Far w w R := ⟨rfl, rfl, rfl, Nat.le_refl _, fun _ _ _ => rfl⟩
theorem Far.trans {R : List (Option Nat)} {a b c : World} (h : Far a b R) (k : Far b c R) : Far a c R :=
  ⟨k.os.trans h.os, k.tape.trans h.tape, k.output.trans h.output, Nat.le_trans h.size k.size, fun i hi hR => (k.block i (Nat.lt_of_lt_of_le hi h.size) hR).trans (h.block i hi hR)⟩
theorem Far.of_below {R : List (Option Nat)} {a b : World} {B : Nat} (h : Below B a b) (hB : a.heap.size ≤ B) : Far a b R := ⟨h.os, h.tape, h.output, h.size, fun k hk _ => h.block k (Nat.lt_of_lt_of_le hk hB)⟩
theorem Far.setCell {R : List (Option Nat)} {a b : World} (h : Far a b R) {p : Addr} (hp : some p.block ∈ R ∨ a.heap.size ≤ p.block) (u : Value) : Far a (b.setCell p u) R :=
  ⟨h.os, h.tape, h.output, by simpa [World.setCell] using h.size, fun k hk hR => by
    rw [Below.heap_setCell _ _ _ _ (by
      rintro rfl
      rcases hp with hp | hp
      · exact hR _ hp rfl
      · omega)]; exact h.block k hk hR⟩
theorem Far.alloc {R : List (Option Nat)} {a b : World} (h : Far a b R) (o : Obj) : Far a (b.alloc o) R :=
  h.trans (Far.of_below ((Below.refl _ _).alloc (Nat.le_refl _) o) (Nat.le_refl _))
theorem Far.grown {R : List (Option Nat)} {a b c : World} (h : Far a b R) {row : Option Nat} (hg : b.grownBy c row) (hr : ∀ q, row = some q → row ∈ R ∨ a.heap.size ≤ q) : Far a c R :=
  ⟨hg.os.trans h.os, hg.tape.trans h.tape, hg.output.trans h.output, Nat.le_trans h.size hg.size, fun k hk hR => by
    refine (hg.block k (Nat.lt_of_lt_of_le hk h.size) ?_).trans (h.block k hk hR)
    rintro e
    rcases hr k e.symm with hp | hp
    · exact hR _ hp e.symm
    · omega⟩
theorem Far.below {R : List (Option Nat)} {a b : World} (h : Far a b R) {B : Nat} (hB : B ≤ a.heap.size) (hr : ∀ q, some q ∈ R → B ≤ q) : Below B a b :=
  ⟨h.os, h.tape, h.output, h.size, fun k hk => h.block k (by omega) (fun r hR e => by subst e; have := hr k hR; omega)⟩
/- a loan: its lists and their counts are rows of its own -/
structure LoanAt (b : Nat) (tv cv ev nv lv : Value) (nT : Nat) (xs : List Value) (nC : Nat) (cs : List Value) (w : World) : Prop where
  blk : w.heap[b]? = some (.cells #[tv, cv, ev, nv, lv] 33)
  tags : w.ownsRow (b + 1) 22 1 tv nT xs
  counts : w.ownsRow (b + 1) 3 1 cv nC cs
  apart : ∀ q, tv.ownBlock = some q → cv.ownBlock ≠ some q
theorem LoanAt.kept {b : Nat} {tv cv ev nv lv : Value} {nT : Nat} {xs : List Value} {nC : Nat} {cs : List Value} {w w' : World} {B : Nat} (h : LoanAt b tv cv ev nv lv nT xs nC cs w) (hb : Below B w w') (hB : w.heap.size ≤ B) : LoanAt b tv cv ev nv lv nT xs nC cs w' :=
  ⟨(hb.block b (Nat.lt_of_lt_of_le (Array.getElem?_eq_some_iff.1 h.blk).1 hB)).trans h.blk, own_below h.tags (hb.mono hB), own_below h.counts (hb.mono hB), h.apart⟩
theorem LoanAt.lt {b : Nat} {tv cv ev nv lv : Value} {nT : Nat} {xs : List Value} {nC : Nat} {cs : List Value} {w : World} (h : LoanAt b tv cv ev nv lv nT xs nC cs w) : b < w.heap.size := (Array.getElem?_eq_some_iff.1 h.blk).1
theorem loan_set {w : World} {b i : Nat} {x0 x1 x2 x3 x4 u : Value} {t : TypeId} (h : w.heap[b]? = some (.cells #[x0, x1, x2, x3, x4] t)) : (w.setCell ⟨b, i, none⟩ u).heap[b]? = some (.cells (#[x0, x1, x2, x3, x4].setIfInBounds i u) t) := by
  rw [setCell_eq_setRow w b i _ t (0, 0) u h, setRow_heap w b _ _ t (0, 0) h]
theorem LoanAt.tagged {b : Nat} {tv cv ev nv lv : Value} {nT : Nat} {xs ys : List Value} {nC : Nat} {cs : List Value} {w wa : World} {o : Obj} {g cap n : Nat} (h : LoanAt b tv cv ev nv lv nT xs nC cs w)
    (hg : (w.alloc o).grownBy wa tv.ownBlock) (hown : wa.ownsRow (b + 1) 22 1 (.slice (some ⟨g, 0, none⟩) n cap) n ys) (hat : tv.ownBlock = some g ∨ g = (w.alloc o).heap.size) :
    wa.heap[b]? = some (.cells #[tv, cv, ev, nv, lv] 33) ∧ LoanAt b (.slice (some ⟨g, 0, none⟩) n cap) cv ev nv lv n ys nC cs (wa.setCell ⟨b, 0, none⟩ (.slice (some ⟨g, 0, none⟩) n cap)) := by
  have hlt := h.lt
  have hblk : wa.heap[b]? = some (.cells #[tv, cv, ev, nv, lv] 33) := by
    rw [hg.block b (by rw [World.size_alloc]; omega) (fun e => by have := (h.tags.lt b e.symm).1; omega), Below.heap_alloc _ _ _ hlt]; exact h.blk
  refine ⟨hblk, loan_set hblk, ownsRow_setCell_below hown (Nat.lt_succ_self _) _, ownsRow_setCell_below ((h.counts.alloc o).kept hg ?_) (Nat.lt_succ_self _) _, ?_⟩
  · cases hc : cv.ownBlock with
    | none => exact .inl rfl
    | some q => exact .inr (fun e => h.apart q e.symm hc)
  · intro q hq hc
    simp only [Value.ownBlock, Option.some.injEq] at hq
    subst hq
    rcases hat with hat | hat
    · exact h.apart g hat hc
    · have := (h.counts.lt g hc).2
      rw [World.size_alloc] at hat; omega
theorem LoanAt.counted {b : Nat} {tv cv ev nv lv : Value} {nT : Nat} {xs : List Value} {nC : Nat} {cs ys : List Value} {w wa : World} {o : Obj} {g cap n : Nat} (h : LoanAt b tv cv ev nv lv nT xs nC cs w)
    (hg : (w.alloc o).grownBy wa cv.ownBlock) (hown : wa.ownsRow (b + 1) 3 1 (.slice (some ⟨g, 0, none⟩) n cap) n ys) (hat : cv.ownBlock = some g ∨ g = (w.alloc o).heap.size) :
    wa.heap[b]? = some (.cells #[tv, cv, ev, nv, lv] 33) ∧ LoanAt b tv (.slice (some ⟨g, 0, none⟩) n cap) ev nv lv nT xs n ys (wa.setCell ⟨b, 1, none⟩ (.slice (some ⟨g, 0, none⟩) n cap)) := by
  have hlt := h.lt
  have hblk : wa.heap[b]? = some (.cells #[tv, cv, ev, nv, lv] 33) := by
    rw [hg.block b (by rw [World.size_alloc]; omega) (fun e => by have := (h.counts.lt b e.symm).1; omega), Below.heap_alloc _ _ _ hlt]; exact h.blk
  refine ⟨hblk, loan_set hblk, ownsRow_setCell_below ((h.tags.alloc o).kept hg ?_) (Nat.lt_succ_self _) _, ownsRow_setCell_below hown (Nat.lt_succ_self _) _, ?_⟩
  · cases hc : tv.ownBlock with
    | none => exact .inl rfl
    | some q => exact .inr (fun e => h.apart q hc e.symm)
  · intro q hq hc
    simp only [Value.ownBlock, Option.some.injEq] at hc
    subst hc
    rcases hat with hat | hat
    · exact h.apart g hq hat
    · have := (h.tags.lt g hq).2
      rw [World.size_alloc] at hat; omega
def lent (ts : List ByteArray) (j : Nat) : List Value := ts.map Value.string ++ (List.replicate j (.string badT) ++ List.replicate (8 - j) (.string ⟨#[]⟩))
theorem lent_len (ts : List ByteArray) {j : Nat} (hj : j ≤ 8) : (lent ts j).length = ts.length + 8 := by simp [lent]; omega
theorem lent_set (ts : List ByteArray) {j : Nat} (hj : j < 8) : (lent ts j).set (ts.length + j) (.string badT) = lent ts (j + 1) := by
  obtain ⟨m, hm⟩ : ∃ m, 8 - j = m + 1 := ⟨7 - j, by omega⟩
  have hm2 : 8 - (j + 1) = m := by omega
  have e : List.replicate (j + 1) (Value.string badT) = List.replicate j (.string badT) ++ [.string badT] := by rw [List.replicate_succ']
  rw [lent, lent, hm, hm2, e, List.set_append_right _ _ (by simp), List.set_append_right _ _ (by simp)]
  simp [List.replicate_succ]
theorem made_splice (ts : List ByteArray) : splice (List.replicate (ts.length + 8) (Value.string ⟨#[]⟩)) 0 (ts.map Value.string) = lent ts 0 := by
  simp [splice, lent]
theorem set_row {w : World} {g i : Nat} {L : List Value} {t : TypeId} {u : Value} (h : w.heap[g]? = some (.cells L.toArray t (0, 0))) : (w.setCell ⟨g, i, none⟩ u).heap[g]? = some (.cells (L.set i u).toArray t (0, 0)) := by
  rw [setCell_eq_setRow w g i L.toArray t (0, 0) u h, setRow_heap w g _ _ t (0, 0) h]
  simp
end Go.Proofs.Ytdjllnhahhjgmaa
