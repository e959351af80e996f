/- Walk of chronicleref.Encode. -/
import Derived.Test.YtodlcnbknjldnaaDoorC3
namespace Go.Proofs.YtodlcnbknjldnaaDoor
open Go.RowKit Chron
end Go.Proofs.YtodlcnbknjldnaaDoor
