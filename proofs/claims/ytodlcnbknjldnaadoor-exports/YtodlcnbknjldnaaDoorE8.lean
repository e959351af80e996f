/- Walk of schema.readFields. -/
import Derived.Test.YtodlcnbknjldnaaDoorE7
import Derived.Deep.AppendLies
import Derived.Deep.RegionLaw
namespace Go.Proofs.YtodlcnbknjldnaaDoor
open Go.RowKit Chron
structure Fld (N : Nat) (w wx : World) (s : List UInt8) (k : Int) (t : ByteArray) (m : Int) (b : ByteArray) (v : Value) : Prop where
  f0 : wx.cell? ⟨N + 2, 0, none⟩ = some (.string ⟨s.toArray⟩)
  ff : wx.frozen? ⟨N + 2, 0, none⟩ = false
  c0 : wx.cell? ⟨N + 1, 0, none⟩ = some (.int .i64 k)
  c1 : wx.cell? ⟨N + 1, 1, none⟩ = some (.string t)
  c2 : wx.cell? ⟨N + 1, 2, none⟩ = some (.int .i64 m)
  c3 : wx.cell? ⟨N + 1, 3, none⟩ = some (.string b)
  c4 : wx.cell? ⟨N + 1, 4, none⟩ = some v
  z1 : ∀ o, wx.frozen? ⟨N + 1, o, none⟩ = false
  bel : Below N w wx
  big : N + 3 ≤ wx.heap.size
  res : wx.heap[N]? = some (.cells #[.int .i64 0, .string ⟨#[]⟩, .int .i64 0, .string ⟨#[]⟩, .slice none 0 0] 39)
theorem Fld.held {N : Nat} {w wx wy : World} {s r : List UInt8} {k : Int} {t : ByteArray} {m : Int} {b : ByteArray} {v : Value} (h : Fld N w wx s k t m b v) (hh : Held (N + 2) r wx wy) : Fld N w wy r k t m b v := by
  obtain ⟨h1, h2, hg⟩ := hh
  have hbig := h.big
  have hblk : ∀ q, q ≤ N + 1 → wy.heap[q]? = wx.heap[q]? := fun q hq => hg.block q (by omega) (fun e => by simp only [Option.some.injEq] at e; omega)
  have hc : ∀ q o, q ≤ N + 1 → wy.cell? ⟨q, o, none⟩ = wx.cell? ⟨q, o, none⟩ := fun q o hq => World.cell?_of_block (hblk q hq)
  have hz : ∀ q o, q ≤ N + 1 → wy.frozen? ⟨q, o, none⟩ = wx.frozen? ⟨q, o, none⟩ := fun q o hq => World.frozen?_of_block (hblk q hq)
  exact ⟨h1, h2, (hc _ _ (by omega)).trans h.c0, (hc _ _ (by omega)).trans h.c1, (hc _ _ (by omega)).trans h.c2, (hc _ _ (by omega)).trans h.c3, (hc _ _ (by omega)).trans h.c4,
    fun o => (hz _ o (by omega)).trans (h.z1 o), h.bel.trans ⟨hg.os, hg.tape, hg.output, hg.size, fun q hq => hblk q (by omega)⟩, Nat.le_trans hbig hg.size, (hblk N (by omega)).trans h.res⟩
theorem Fld.put {N : Nat} {w wx : World} {s : List UInt8} {k : Int} {t : ByteArray} {m : Int} {b : ByteArray} {v : Value} (h : Fld N w wx s k t m b v) :
    (∀ k', Fld N w (wx.setCell ⟨N + 1, 0, none⟩ (.int .i64 k')) s k' t m b v) ∧ (∀ t', Fld N w (wx.setCell ⟨N + 1, 1, none⟩ (.string t')) s k t' m b v) ∧
    (∀ m', Fld N w (wx.setCell ⟨N + 1, 2, none⟩ (.int .i64 m')) s k t m' b v) ∧ (∀ b', Fld N w (wx.setCell ⟨N + 1, 3, none⟩ (.string b')) s k t m b' v) ∧ (∀ v', Fld N w (wx.setCell ⟨N + 1, 4, none⟩ v') s k t m b v') := by
  obtain ⟨f0, ff, c0, c1, c2, c3, c4, z1, bel, big, res⟩ := h
  refine ⟨fun x => ?_, fun x => ?_, fun x => ?_, fun x => ?_, fun x => ?_⟩
  all_goals
    constructor
    all_goals first
      | (go_simp; done)
      | (intro o; rw [World.frozen?_setCell]; exact z1 o)
      | exact bel.setCell (by simp) _
      | (rw [Below.heap_setCell _ _ _ _ (by simp)]; exact res)
      | (simp [World.setCell]; exact big)
      | (rw [World.frozen?_setCell]; exact ff)

theorem Fld.drew {N : Nat} {w wx : World} {s : List UInt8} {k : Int} {t : ByteArray} {m : Int} {b : ByteArray} {v : Value} (h : Fld N w wx s k t m b v) : Fld N w wx.drew s k t m b v :=
  ⟨h.f0, h.ff, h.c0, h.c1, h.c2, h.c3, h.c4, h.z1, h.bel.drew, h.big, h.res⟩
theorem Fld.grown {N : Nat} {w wx wy : World} {s : List UInt8} {k : Int} {t : ByteArray} {m : Int} {b : ByteArray} {v : Value} {row : Option Nat} (h : Fld N w wx s k t m b v) (hg : wx.grownBy wy row) (hr : ∀ q, row = some q → N + 3 ≤ q) : Fld N w wy s k t m b v := by
  have hbig := h.big
  have hblk : ∀ q, q ≤ N + 2 → wy.heap[q]? = wx.heap[q]? := fun q hq => hg.block q (by omega) (fun e => by have := hr q e.symm; omega)
  have hc : ∀ q o, q ≤ N + 2 → wy.cell? ⟨q, o, none⟩ = wx.cell? ⟨q, o, none⟩ := fun q o hq => World.cell?_of_block (hblk q hq)
  have hz : ∀ q o, q ≤ N + 2 → wy.frozen? ⟨q, o, none⟩ = wx.frozen? ⟨q, o, none⟩ := fun q o hq => World.frozen?_of_block (hblk q hq)
  exact ⟨(hc _ _ (by omega)).trans h.f0, (hz _ _ (by omega)).trans h.ff, (hc _ _ (by omega)).trans h.c0, (hc _ _ (by omega)).trans h.c1, (hc _ _ (by omega)).trans h.c2, (hc _ _ (by omega)).trans h.c3, (hc _ _ (by omega)).trans h.c4,
    fun o => (hz _ o (by omega)).trans (h.z1 o), h.bel.trans ⟨hg.os, hg.tape, hg.output, hg.size, fun q hq => hblk q (by omega)⟩, Nat.le_trans hbig hg.size, (hblk N (by omega)).trans h.res⟩
theorem Fld.alloc {N : Nat} {w wx : World} {s : List UInt8} {k : Int} {t : ByteArray} {m : Int} {b : ByteArray} {v : Value} (h : Fld N w wx s k t m b v) (o : Obj) : Fld N w (wx.alloc o) s k t m b v :=
  h.grown (World.grownBy_alloc wx o none) (fun q hq => by cases hq)
theorem own_kept {w w' : World} {base : Nat} {e : TypeId} {size : Nat} {v : Value} {n : Nat} {xs : List Value} {p : Nat} (h : w.ownsRow base e size v n xs) (hg : w.grownBy w' (some p)) (hp : p < base) : w'.ownsRow base e size v n xs := by
  refine h.kept hg ?_
  cases hv : v.ownBlock with
  | none => exact .inl rfl
  | some k => exact .inr (fun e => by have := (h.lt k hv).1; simp only [Option.some.injEq] at e; omega)
theorem res_cells {w : World} {N : Nat} {a b c d e : Value} {t : TypeId} (h : w.heap[N]? = some (.cells #[a, b, c, d, e] t)) :
    w.cell? ⟨N, 0, none⟩ = some a ∧ w.cell? ⟨N, 1, none⟩ = some b ∧ w.cell? ⟨N, 2, none⟩ = some c ∧ w.cell? ⟨N, 3, none⟩ = some d ∧ w.cell? ⟨N, 4, none⟩ = some e ∧ ∀ o, w.frozen? ⟨N, o, none⟩ = false := by
  simp [World.cell?, World.frozen?, h]
theorem one_string (x : ByteArray) : ∀ u ∈ [Value.string x], u.oneCell' = true := fun u hu => by simp at hu; subst hu; rfl
theorem own_mono {w : World} {base base' : Nat} {e : TypeId} {size : Nat} {v : Value} {n : Nat} {xs : List Value} (h : w.ownsRow base e size v n xs) (hb : base' ≤ base) : w.ownsRow base' e size v n xs := by
  obtain ⟨h1, h2 | ⟨g, cap, cur, a1, a2, a3⟩⟩ := h
  · exact ⟨h1, .inl h2⟩
  · exact ⟨h1, .inr ⟨g, cap, cur, a1, Nat.le_trans hb a2, a3⟩⟩
def lenAt (q : Nat) (w : World) : Nat := match w.cell? ⟨q, 4, none⟩ with | some (.slice _ n _) => n | _ => 0
theorem lenAt_of {q n cap : Nat} {a : Option Addr} {w : World} (h : w.cell? ⟨q, 4, none⟩ = some (.slice a n cap)) : lenAt q w = n := by simp [lenAt, h]
theorem infoString : (Tryd.prog.info? 9).map (fun i => (i.zero, i.size, i.bytes)) = some (some (.string ⟨#[]⟩), 1, 16) := by kernel_rfl
end Go.Proofs.YtodlcnbknjldnaaDoor
