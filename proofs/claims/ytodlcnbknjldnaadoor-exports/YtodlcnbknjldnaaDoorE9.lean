/- Walk of schema.readLetter. -/
import Derived.Test.YtodlcnbknjldnaaDoorE8
namespace Go.Proofs.YtodlcnbknjldnaaDoor
open Go.RowKit Chron
def evVal (e : Ev) (x : Value) : Value := .agg #[.int .i64 e.kind, .string e.task, .int .i64 e.time, .string e.body, x]
theorem below_set5 {B N : Nat} {a w : World} {x0 x1 x2 x3 x4 : Value} (h : Below B a w) (hN : B ≤ N) : Below B a (((((w.setCell ⟨N, 0, none⟩ x0).setCell ⟨N, 1, none⟩ x1).setCell ⟨N, 2, none⟩ x2).setCell ⟨N, 3, none⟩ x3).setCell ⟨N, 4, none⟩ x4) :=
  ((((h.setCell hN _).setCell hN _).setCell hN _).setCell hN _).setCell hN _
theorem new_cells (w : World) (nq : Nat) (Z : Obj) (a b c d e : Value) (t : TypeId) :
    (((w.alloc Z).drewN nq).alloc (.cells #[a, b, c, d, e] t)).cell? ⟨w.heap.size + 1, 0, none⟩ = some a ∧ (((w.alloc Z).drewN nq).alloc (.cells #[a, b, c, d, e] t)).cell? ⟨w.heap.size + 1, 1, none⟩ = some b ∧ (((w.alloc Z).drewN nq).alloc (.cells #[a, b, c, d, e] t)).cell? ⟨w.heap.size + 1, 2, none⟩ = some c ∧ (((w.alloc Z).drewN nq).alloc (.cells #[a, b, c, d, e] t)).cell? ⟨w.heap.size + 1, 3, none⟩ = some d ∧ (((w.alloc Z).drewN nq).alloc (.cells #[a, b, c, d, e] t)).cell? ⟨w.heap.size + 1, 4, none⟩ = some e ∧ ∀ o, (((w.alloc Z).drewN nq).alloc (.cells #[a, b, c, d, e] t)).frozen? ⟨w.heap.size + 1, o, none⟩ = false := by
  have h := heap_alloc_new ((w.alloc Z).drewN nq) (.cells #[a, b, c, d, e] t)
  rw [show ((w.alloc Z).drewN nq).heap.size = w.heap.size + 1 from World.size_alloc w Z] at h
  exact res_cells h
theorem old_block (w : World) (nq : Nat) (Z o : Obj) : (((w.alloc Z).drewN nq).alloc o).heap[w.heap.size]? = some Z := by
  rw [Below.heap_alloc _ _ _ (by show w.heap.size < (w.alloc Z).heap.size; simp)]
  exact heap_alloc_new w Z
theorem two_below (w : World) (nq : Nat) (Z o : Obj) : Below w.heap.size w (((w.alloc Z).drewN nq).alloc o) :=
  (below_drewN ((Below.refl _ _).alloc (Nat.le_refl _) _) nq).alloc (by show w.heap.size ≤ (w.alloc Z).heap.size; simp) _
theorem two_size (w : World) (nq : Nat) (Z o : Obj) : (((w.alloc Z).drewN nq).alloc o).heap.size = w.heap.size + 2 := by
  rw [World.size_alloc]; show (w.alloc Z).heap.size + 1 = _; simp
theorem two_lt (w : World) (nq : Nat) (Z o : Obj) : w.heap.size < (((w.alloc Z).drewN nq).alloc o).drew.heap.size := by
  show w.heap.size < (((w.alloc Z).drewN nq).alloc o).heap.size
  rw [two_size]; omega
theorem tags_none (w : World) : TagsAt w none [] := fun h => by simp at h
theorem short_none : Short [] := fun i h => by simp at h
end Go.Proofs.YtodlcnbknjldnaaDoor
