/- Walks of package wire's writers. -/
import Derived.Test.YtodlcnbknjldnaaDoorE1
import Derived.Test.YtodlcnbknjldnaaDoorShelf
namespace Go.Proofs.YtodlcnbknjldnaaDoor
open Go.RowKit Chron
theorem infoByte : (Tryd.prog.info? 5).map (fun i => (i.zero, i.size, i.bytes)) = some (some (.int .u8 0), 1, 1) := by kernel_rfl
theorem byteCells_snoc (l : List UInt8) (b : UInt8) (x : Int) (h : x = (b.toNat : Int)) : Lib.byteCells l ++ [.int .u8 x] = Lib.byteCells (l ++ [b]) := by
  subst h; simp [Lib.byteCells]
theorem conv_owned {w : World} {B n : Nat} {v : Value} {l : List UInt8} (h : w.ownsRow B 5 1 v n (Lib.byteCells l)) (hne : l ≠ []) :
    (convert 51 9 v).run Tryd.prog w = .ok (.string ⟨l.toArray⟩) w := by
  obtain ⟨hl, h | ⟨g, cap, cur, rfl, hg, hh, hn, hcap, hsz, htake⟩⟩ := h
  · obtain ⟨rfl, rfl⟩ := h
    simp [Lib.byteCells] at hl; exact absurd hl hne
  · have hn' : n = l.length := by simp [Lib.byteCells] at hl; omega
    subst hn'
    refine run_convert_bytes_back w _ _ 5 ⟨g, 0, none⟩ cap l Tryd.underlying51 Tryd.underlying5 Tryd.underlying9 ?_
    intro j hj
    have h1 : World.ownsRow w B 5 1 (.slice (some ⟨g, 0, none⟩) l.length cap) l.length (Lib.byteCells l) := ⟨hl, .inr ⟨g, cap, cur, rfl, hg, hh, hn, hcap, hsz, htake⟩⟩
    refine h1.cells (g := g) rfl j _ ?_
    simp [Lib.byteCells, hj]
end Go.Proofs.YtodlcnbknjldnaaDoor
