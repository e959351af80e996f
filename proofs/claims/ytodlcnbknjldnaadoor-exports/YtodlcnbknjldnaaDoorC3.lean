/- Walk of chronicleref.Encode. -/
import Derived.Test.YtodlcnbknjldnaaDoorC2
namespace Go.Proofs.YtodlcnbknjldnaaDoor
open Go.RowKit Chron
theorem refLetter_eq {e b : ByteArray} {c : UInt8} {x : List UInt8} (he : e.data.toList = [c]) : e ++ ⟨x.toArray⟩ ++ b = ⟨(c :: x ++ b.data.toList).toArray⟩ := letter_eq he
theorem refFront_eq (j : Nat) (t : ByteArray) : (⟨#[1]⟩ ++ ⟨(num j).toArray⟩ ++ ⟨#[2]⟩ ++ ⟨(text t.data.toList).toArray⟩ : ByteArray) = ⟨(front j t).toArray⟩ := by
  apply bytes_inj
  have h1 : num 1 = [1] := rfl
  have h2 : num 2 = [2] := rfl
  simp [front, h1, h2]
theorem mk_push (l : List UInt8) (c : UInt8) (x : List UInt8) : (⟨l.toArray⟩ ++ ⟨#[c]⟩ ++ ⟨x.toArray⟩ : ByteArray) = ⟨(l ++ (c :: x)).toArray⟩ := by
  apply bytes_inj; simp
end Go.Proofs.YtodlcnbknjldnaaDoor
