/- Walks of schema.fields' methods. -/
import Derived.Test.YtodlcnbknjldnaaDoorR
import Derived.Test.YtodlcnbknjldnaaDoorE3
import Derived.Test.YtodlcnbknjldnaaDoorE6
namespace Go.Proofs.YtodlcnbknjldnaaDoor
open Go.RowKit Chron
def Held (p : Nat) (r : List UInt8) (w w' : World) : Prop := w'.cell? ⟨p, 0, none⟩ = some (.string ⟨r.toArray⟩) ∧ w'.frozen? ⟨p, 0, none⟩ = false ∧ w.grownBy w' (some p)
theorem held_store {p : Nat} {r : List UInt8} {w w1 : World} {x : Value} (hb : Below w.heap.size w w1) (hk : w1.cell? ⟨p, 0, none⟩ = some x) (hkf : w1.frozen? ⟨p, 0, none⟩ = false) :
    Held p r w (w1.setCell ⟨p, 0, none⟩ (.string ⟨r.toArray⟩)) := by
  refine ⟨World.cell?_setCell_same _ _ _ hk, by rw [World.frozen?_setCell]; exact hkf, hb.os, hb.tape, hb.output, by simpa [World.setCell] using hb.size, fun k hk hne => ?_⟩
  rw [Below.heap_setCell _ _ _ _ (fun e => hne (by simp [e]))]
  exact hb.block k hk
theorem rdVal_eq (l : List UInt8) : rdVal (readNum l) = .tuple #[.int .i64 (numOf l), .string ⟨(numRest l).toArray⟩, .bool (readNum l).isSome] := by
  unfold numOf numRest; rcases readNum l with _ | ⟨n, r⟩ <;> rfl
theorem txVal_eq (l : List UInt8) : txVal (readTx l) = .tuple #[.string ⟨(txOf l).toArray⟩, .string ⟨(txRest l).toArray⟩, .bool (readTx l).isSome] := by
  unfold txOf txRest; rcases readTx l with _ | ⟨n, r⟩ <;> rfl
theorem below_of_drewN {w : World} (n : Nat) : Below w.heap.size w (w.drewN n) := below_drewN (Below.refl _ _) n
end Go.Proofs.YtodlcnbknjldnaaDoor
