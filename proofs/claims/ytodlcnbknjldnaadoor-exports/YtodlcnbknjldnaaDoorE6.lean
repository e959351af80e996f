/- Walks of schema.writeLetter and schema.Encode. -/
import Derived.Test.YtodlcnbknjldnaaDoorE5
import Derived.Deep.RegionHeld
namespace Go.Proofs.YtodlcnbknjldnaaDoor
open Go.RowKit Chron
theorem hide0 {p : Prop} (h : p) : Hid p := h
theorem ret_enc {v : Int} {e : Ev} {s : ByteArray} {c : Int} {l : List UInt8} (hs : s = ⟨l.toArray⟩) (h : encB v e = (l, c)) :
    Ending.returned (.tuple #[.string s, .int .i64 c]) = .returned (.tuple #[.string ⟨(encB v e).1.toArray⟩, .int .i64 (encB v e).2]) := by rw [h, hs]
end Go.Proofs.YtodlcnbknjldnaaDoor
