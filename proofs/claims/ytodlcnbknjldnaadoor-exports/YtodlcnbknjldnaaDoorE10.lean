/- Walk of schema.ownTexts. -/
import Derived.Test.YtodlcnbknjldnaaDoorE9
namespace Go.Proofs.YtodlcnbknjldnaaDoor
open Go.RowKit Chron
theorem setCell_same_heap {w : World} {b o : Nat} {v : Value} (h : w.cell? ⟨b, o, none⟩ = some v) (k : Nat) : (w.setCell ⟨b, o, none⟩ v).heap[k]? = w.heap[k]? := by
  by_cases hk : k = b
  · subst hk
    simp only [World.cell?] at h
    simp only [World.setCell, Array.getElem?_modify, if_true]
    rcases hh : w.heap[k]? with _ | x
    · rfl
    · rw [hh] at h
      cases x with
      | cells c elem fr =>
        simp at h
        simp only [Option.map_some, Option.some.injEq, Obj.cells.injEq, and_true]
        show c.setIfInBounds o v = c
        apply Array.ext_getElem?
        intro i
        rw [Array.getElem?_setIfInBounds]
        split
        · rename_i hi
          subst hi
          split
          · exact h.symm
          · rename_i hn; rw [Array.getElem?_eq_none (by omega)] at h; cases h
        · rfl
      | _ => cases h
  · rw [Below.heap_setCell _ _ _ _ hk]
theorem below_same {B : Nat} {a w : World} {b o : Nat} {v : Value} (hB : Below B a w) (h : w.cell? ⟨b, o, none⟩ = some v) : Below B a (w.setCell ⟨b, o, none⟩ v) :=
  hB.trans ⟨rfl, rfl, rfl, by simp [World.setCell], fun k _ => setCell_same_heap h k⟩
structure Own (N : Nat) (w wx : World) (k : Int) (t : ByteArray) (m : Int) (b : ByteArray) (x : Value) : Prop where
  box : wx.heap[N]? = some (.cells #[.int .i64 k, .string t, .int .i64 m, .string b, x] 39)
  res : wx.heap[N + 1]? = some (.cells #[.int .i64 0, .string ⟨#[]⟩, .int .i64 0, .string ⟨#[]⟩, .slice none 0 0] 39)
  bel : Below N w wx
  big : N + 2 ≤ wx.heap.size
theorem Own.below {N : Nat} {w wx wy : World} {k : Int} {t : ByteArray} {m : Int} {b : ByteArray} {x : Value} (h : Own N w wx k t m b x) (hb : Below wx.heap.size wx wy) : Own N w wy k t m b x := by
  have hbig := h.big
  exact ⟨(hb.block N (by omega)).trans h.box, (hb.block (N + 1) (by omega)).trans h.res, h.bel.trans (hb.mono (by omega)), Nat.le_trans hbig hb.size⟩
theorem own_start (w : World) (k : Int) (t : ByteArray) (m : Int) (b : ByteArray) (x : Value) : Own w.heap.size w ((w.alloc (.cells #[.int .i64 k, .string t, .int .i64 m, .string b, x] 39)).alloc (.cells #[.int .i64 0, .string ⟨#[]⟩, .int .i64 0, .string ⟨#[]⟩, .slice none 0 0] 39)) k t m b x := by
  refine ⟨?_, ?_, ((Below.refl _ _).alloc (Nat.le_refl _) _).alloc (by simp) _, by simp⟩
  · rw [Below.heap_alloc _ _ _ (by simp), heap_alloc_new]
  · have := heap_alloc_new (w.alloc (.cells #[.int .i64 k, .string t, .int .i64 m, .string b, x] 39)) (.cells #[.int .i64 0, .string ⟨#[]⟩, .int .i64 0, .string ⟨#[]⟩, .slice none 0 0] 39)
    rw [World.size_alloc] at this; exact this
end Go.Proofs.YtodlcnbknjldnaaDoor
