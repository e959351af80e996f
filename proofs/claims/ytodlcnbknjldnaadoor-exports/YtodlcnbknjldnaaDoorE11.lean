/- Walks of schema.read and schema.Decode. -/
import Derived.Test.YtodlcnbknjldnaaDoorS
import Derived.Test.YtodlcnbknjldnaaDoorE10
namespace Go.Proofs.YtodlcnbknjldnaaDoor
open Go.RowKit Chron
theorem own_form {w : World} {B n : Nat} {x : Value} {ts : List ByteArray} (h : w.ownsRow B 9 1 x n (ts.map Value.string)) :
    ∃ a cap, x = .slice a ts.length cap ∧ TagsAt w a ts ∧ (∀ q off, a = some ⟨q, off, none⟩ → B ≤ q ∧ q < w.heap.size ∧ ∀ o, w.frozen? ⟨q, o, none⟩ = false) := by
  obtain ⟨hl, h2⟩ := h
  have hn : n = ts.length := by simpa using hl.symm
  subst hn
  rcases h2 with ⟨rfl, h0⟩ | ⟨g, cap, cur, rfl, hb, hg, h3, h4, h5, h6⟩
  · refine ⟨none, 0, by rw [h0], ?_, fun q off e => by cases e⟩
    intro h1; omega
  · refine ⟨some ⟨g, 0, none⟩, cap, rfl, ?_, ?_⟩
    · intro _
      refine ⟨g, 0, rfl, fun i hi => ?_⟩
      have hi2 : (cur.toList.take (ts.length * 1))[i]? = (ts.map Value.string)[i]? := by rw [h6]
      rw [List.getElem?_take, if_pos (by omega)] at hi2
      simp only [World.cell?, hg]
      rw [List.getElem?_map, List.getElem?_eq_getElem hi] at hi2
      simp only [Option.map_some, Array.getElem?_toList] at hi2
      simp [hi2, hi]
    · intro q off e
      simp only [Option.some.injEq, Addr.mk.injEq] at e
      obtain ⟨rfl, _⟩ := e
      exact ⟨hb, (Array.getElem?_eq_some_iff.1 hg).1, fun o => by simp [World.frozen?, hg]⟩
theorem own_below {w w' : World} {base : Nat} {e : TypeId} {size : Nat} {v : Value} {n : Nat} {xs : List Value} (h : w.ownsRow base e size v n xs) (hb : Below w.heap.size w w') : w'.ownsRow base e size v n xs :=
  h.kept (row := none) ⟨hb.os, hb.tape, hb.output, hb.size, fun k hk _ => hb.block k hk⟩ (Classical.em _)
theorem own_set5 {w : World} {base base' N : Nat} {e : TypeId} {size : Nat} {v : Value} {n : Nat} {xs : List Value} {x0 x1 x2 x3 x4 : Value} (h : w.ownsRow base e size v n xs) (hN : N < base) (hb : base' ≤ base) :
    (((((w.setCell ⟨N, 0, none⟩ x0).setCell ⟨N, 1, none⟩ x1).setCell ⟨N, 2, none⟩ x2).setCell ⟨N, 3, none⟩ x3).setCell ⟨N, 4, none⟩ x4).ownsRow base' e size v n xs :=
  own_mono (ownsRow_setCell_below (ownsRow_setCell_below (ownsRow_setCell_below (ownsRow_setCell_below (ownsRow_setCell_below h hN _) hN _) hN _) hN _) hN _) hb
theorem alloc_cells {w : World} {N : Nat} {a b c d e : Value} {t : TypeId} (h : w.heap[N]? = some (.cells #[a, b, c, d, e] t)) :
    (∀ o, (w.alloc o).cell? ⟨N, 0, none⟩ = some a) ∧ (∀ o, (w.alloc o).cell? ⟨N, 1, none⟩ = some b) ∧ (∀ o, (w.alloc o).cell? ⟨N, 2, none⟩ = some c) ∧ (∀ o, (w.alloc o).cell? ⟨N, 3, none⟩ = some d) ∧ (∀ o, (w.alloc o).cell? ⟨N, 4, none⟩ = some e) ∧ ∀ o x, (w.alloc o).frozen? ⟨N, x, none⟩ = false := by
  have hlt := (Array.getElem?_eq_some_iff.1 h).1
  have hh : ∀ o, (w.alloc o).heap[N]? = some (.cells #[a, b, c, d, e] t) := fun o => (Below.heap_alloc _ _ _ hlt).trans h
  exact ⟨fun o => (res_cells (hh o)).1, fun o => (res_cells (hh o)).2.1, fun o => (res_cells (hh o)).2.2.1, fun o => (res_cells (hh o)).2.2.2.1, fun o => (res_cells (hh o)).2.2.2.2.1, fun o => (res_cells (hh o)).2.2.2.2.2⟩
theorem short_of {e : Ev} {n : Nat} (h : Fits e n) (hn : n ≤ maxLen) : Short e.tags := by
  intro i hi
  rw [List.getElem?_eq_getElem hi]
  exact Nat.le_trans (h.tags _ (List.getElem_mem hi)) hn
end Go.Proofs.YtodlcnbknjldnaaDoor
