/- The library's sort isn't reached in this program. -/
import Derived.Test.YtdjllnhahhjgmaaGreatShelf
import Derived.Shelf.Sort.Plain
namespace Go.Proofs
end Go.Proofs
