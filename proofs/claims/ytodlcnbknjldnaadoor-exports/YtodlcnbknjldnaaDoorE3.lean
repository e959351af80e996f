/- Walks of package wire's readers. -/
import Derived.Test.YtodlcnbknjldnaaDoorE1
namespace Go.Proofs.YtodlcnbknjldnaaDoor
open Go.RowKit Chron
def rdVal : Option (Nat × List UInt8) → Value
  | none => .tuple #[.int .i64 0, .string ⟨#[]⟩, .bool false]
  | some (n, r) => .tuple #[.int .i64 n, .string ⟨r.toArray⟩, .bool true]
theorem ret_some {l : List UInt8} {n : Nat} {r : List UInt8} {x : Int} {y : ByteArray} (h : readNum l = some (n, r)) (hx : x = (n : Int)) (hy : y = ⟨r.toArray⟩) :
    Ending.returned (.tuple #[.int .i64 x, .string y, .bool true]) = .returned (rdVal (readNum l)) := by rw [h, hx, hy]; rfl
theorem ret_none {l : List UInt8} (h : readNum l = none) :
    Ending.returned (.tuple #[.int .i64 0, .string ⟨#[]⟩, .bool false]) = .returned (rdVal (readNum l)) := by rw [h]; rfl
/- a text within bytes, and what is behind it -/
def txVal : Option (List UInt8 × List UInt8) → Value
  | none => .tuple #[.string ⟨#[]⟩, .string ⟨#[]⟩, .bool false]
  | some (t, r) => .tuple #[.string ⟨t.toArray⟩, .string ⟨r.toArray⟩, .bool true]
theorem ret_tx {l : List UInt8} {t r : List UInt8} {x y : ByteArray} (h : readTx l = some (t, r)) (hx : x = ⟨t.toArray⟩) (hy : y = ⟨r.toArray⟩) :
    Ending.returned (.tuple #[.string x, .string y, .bool true]) = .returned (txVal (readTx l)) := by rw [h, hx, hy]; rfl
end Go.Proofs.YtodlcnbknjldnaaDoor
