/- The book of lists that came out: Book.keepTags. -/
import Derived.Test.YtdjllnhahhjgmaaI2
import Derived.Test.YtdjllnhahhjgmaaX1
namespace Go.Proofs.Ytdjllnhahhjgmaa
open Go.RowKit Chron
/- an entry of the book -/
def Entry (w : World) (b : Nat) (tv : Value) (B : Nat) (m : ByteArray) (v : Value) : Prop :=
  v = .slice none 0 0 ∨ ∃ g no cap, Out w (b + 1) 7 m v g no cap ∧ tv.ownBlock ≠ some g ∧ g < B
structure BookAt (b : Nat) (tv : Value) (xs : List Value) (B : Nat) (w : World) : Prop where
  blk : w.heap[b]? = some (.cells #[tv, .slice none 0 0] 43)
  tags : w.ownsRow (b + 1) 22 1 tv xs.length xs
  full : ∀ i v, xs[i]? = some v → Entry w b tv B (badB (i / 4)) v
  lt : b < B
  own : ∀ q, tv.ownBlock = some q → q < B
  size : B ≤ w.heap.size
theorem Out.keep {w w' : World} {B C most : Nat} {m : ByteArray} {v : Value} {g no cap : Nat} (h : Out w B most m v g no cap) (hb : Below C w w') (hg : g < C) : Out w' B most m v g no cap := by
  obtain ⟨h1, h2, h3, h4, h5, h6⟩ := h
  exact ⟨h1, h2, h3, h4, Nat.lt_of_lt_of_le h5 hb.size, fun j hj => (hb.cell (p := ⟨g, j, none⟩) hg).trans (h6 j hj)⟩
theorem own_low {w w' : World} {base C : Nat} {e : TypeId} {v : Value} {n : Nat} {xs : List Value} (h : w.ownsRow base e 1 v n xs) (hb : Below C w w') (hv : ∀ q, v.ownBlock = some q → q < C) : w'.ownsRow base e 1 v n xs := by
  obtain ⟨h1, h2 | ⟨g, cap, cur, rfl, a2, a3, a4, a5, a6, a7⟩⟩ := h
  · exact ⟨h1, .inl h2⟩
  · exact ⟨h1, .inr ⟨g, cap, cur, rfl, a2, (hb.block g (hv g rfl)).trans a3, a4, a5, a6, a7⟩⟩
theorem BookAt.keep {b : Nat} {tv : Value} {xs : List Value} {B : Nat} {w w' : World} (h : BookAt b tv xs B w) (hb : Below B w w') : BookAt b tv xs B w' := by
  refine ⟨(hb.block b h.lt).trans h.blk, own_low h.tags hb h.own, fun i v hv => ?_, h.lt, h.own, Nat.le_trans h.size hb.size⟩
  rcases h.full i v hv with h1 | ⟨g, no, cap, h1, h2, h3⟩
  · exact .inl h1
  · exact .inr ⟨g, no, cap, h1.keep hb h3, h2, h3⟩
theorem BookAt.grow {b : Nat} {tv : Value} {xs : List Value} {B C : Nat} {w : World} (h : BookAt b tv xs B w) (h1 : B ≤ C) (h2 : C ≤ w.heap.size) : BookAt b tv xs C w := by
  refine ⟨h.blk, h.tags, fun i v hv => ?_, Nat.lt_of_lt_of_le h.lt h1, fun q hq => Nat.lt_of_lt_of_le (h.own q hq) h1, h2⟩
  rcases h.full i v hv with h3 | ⟨g, no, cap, h3, h4, h5⟩
  · exact .inl h3
  · exact .inr ⟨g, no, cap, h3, h4, Nat.lt_of_lt_of_le h5 h1⟩
theorem book_set {w : World} {b i : Nat} {x0 x1 u : Value} {t : TypeId} (h : w.heap[b]? = some (.cells #[x0, x1] t)) : (w.setCell ⟨b, i, none⟩ u).heap[b]? = some (.cells (#[x0, x1].setIfInBounds i u) t) := by
  rw [setCell_eq_setRow w b i _ t (0, 0) u h, setRow_heap w b _ _ t (0, 0) h]
/- four more entries -/
theorem BookAt.push {b : Nat} {tv : Value} {xs ys : List Value} {B g cap r : Nat} {w wa : World} {o : Obj} (h : BookAt b tv xs B w) (hx : xs.length = 4 * r) (hy : ys.length = 4)
    (hys : ∀ v ∈ ys, v = .slice none 0 0 ∨ ∃ g no cap, Out w B 7 (badB r) v g no cap)
    (hnew : wa.ownsRow (b + 1) 22 1 (.slice (some ⟨g, 0, none⟩) (xs.length + 4) cap) (xs.length + 4) (xs ++ ys)) (hlay : Lay (w.alloc o) wa tv g (w.alloc o).heap.size) :
    wa.heap[b]? = some (.cells #[tv, .slice none 0 0] 43) ∧
    BookAt b (.slice (some ⟨g, 0, none⟩) (xs.length + 4) cap) (xs ++ ys) wa.heap.size (wa.setCell ⟨b, 0, none⟩ (.slice (some ⟨g, 0, none⟩) (xs.length + 4) cap)) ∧ Below b w wa := by
  have hB := h.size
  have hbB := h.lt
  have hsa : (w.alloc o).heap.size = w.heap.size + 1 := World.size_alloc _ _
  have hsz : w.heap.size ≤ wa.heap.size := by
    rcases hlay with ⟨_, hgr⟩ | ⟨_, hgr⟩ <;> (have := hgr.size; omega)
  /- blocks other than tv's are as they were -/
  have hfar : ∀ q, q < w.heap.size → tv.ownBlock ≠ some q → wa.heap[q]? = w.heap[q]? ∧ q ≠ g := by
    intro q hq hne
    rcases hlay with ⟨h1, hgr⟩ | ⟨h1, hgr⟩
    · have hqg : q ≠ g := fun e => hne (by rw [e]; exact h1)
      exact ⟨(hgr.block q (by omega) (fun e => hqg (Option.some.inj e))).trans (Below.heap_alloc _ _ _ hq), hqg⟩
    · exact ⟨(hgr.block q (by omega) (fun e => by cases e)).trans (Below.heap_alloc _ _ _ hq), by omega⟩
  have hbt : tv.ownBlock ≠ some b := fun e => by have := (h.tags.lt b e).1; omega
  have hblk : wa.heap[b]? = some (.cells #[tv, .slice none 0 0] 43) := (hfar b (by omega) hbt).1.trans h.blk
  have hgl := hnew.lt g rfl
  have hent : ∀ (m : ByteArray) (v : Value) (B' : Nat), b + 1 ≤ B' → (∃ g no cap, Out w B' 7 m v g no cap ∧ tv.ownBlock ≠ some g) → Entry (wa.setCell ⟨b, 0, none⟩ (.slice (some ⟨g, 0, none⟩) (xs.length + 4) cap)) b (.slice (some ⟨g, 0, none⟩) (xs.length + 4) cap) wa.heap.size m v := by
    rintro m v B' hB' ⟨g1, no, c1, ⟨o1, o2, o3, o4, o5, o6⟩, hne⟩
    obtain ⟨hs, hg1⟩ := hfar g1 o5 hne
    have hne2 : g1 ≠ b := by omega
    refine .inr ⟨g1, no, c1, ⟨o1, o2, o3, by omega, by rw [size_set]; omega, fun j hj => ?_⟩, fun e => hg1 (Option.some.inj e).symm, by omega⟩
    rw [World.cell?_of_block (a := ⟨g1, j, none⟩) ((set_other hne2).trans hs)]; exact o6 j hj
  refine ⟨hblk, ⟨book_set hblk, ?_, ?_, by omega, ?_, by rw [size_set]; exact Nat.le_refl _⟩, ?_⟩
  · have hl2 : (xs ++ ys).length = xs.length + 4 := by rw [List.length_append, hy]
    rw [hl2]; exact ownsRow_setCell_below hnew (Nat.lt_succ_self _) _
  · intro i v hv
    by_cases hi : i < xs.length
    · rw [List.getElem?_append_left hi] at hv
      rcases h.full i v hv with h1 | ⟨g1, no, c1, h1, h2, _⟩
      · exact .inl h1
      · exact hent _ v (b + 1) (Nat.le_refl _) ⟨g1, no, c1, h1, h2⟩
    · rw [List.getElem?_append_right (by omega)] at hv
      have hi2 := (List.getElem?_eq_some_iff.1 hv).1
      have hm : i / 4 = r := by omega
      rw [hm]
      rcases hys v (List.mem_of_getElem? hv) with h1 | ⟨g1, no, c1, h1⟩
      · exact .inl h1
      · exact hent _ v B (by omega) ⟨g1, no, c1, h1, fun e => by have := h.own g1 e; have := h1.base; omega⟩
  · intro q hq
    simp only [Value.ownBlock, Option.some.injEq] at hq
    omega
  · have hos : wa.os = w.os ∧ wa.tape = w.tape ∧ wa.output = w.output := by
      rcases hlay with ⟨_, hgr⟩ | ⟨_, hgr⟩ <;> exact ⟨hgr.os, hgr.tape, hgr.output⟩
    exact ⟨hos.1, hos.2.1, hos.2.2, hsz, fun q hq => (hfar q (by omega) (fun e => by have := (h.tags.lt q e).1; omega)).1⟩
end Go.Proofs.Ytdjllnhahhjgmaa
