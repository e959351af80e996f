/- Walks of chroniclekeep.pick and chroniclekeep.OneWay. -/
import Derived.Test.YtodlcnbknjldnaaDoorU
import Derived.Test.YtodlcnbknjldnaaDoorE11
namespace Go.Proofs.YtodlcnbknjldnaaDoor
open Go.RowKit Chron
end Go.Proofs.YtodlcnbknjldnaaDoor
