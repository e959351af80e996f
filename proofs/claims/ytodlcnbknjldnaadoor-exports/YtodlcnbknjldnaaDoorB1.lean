/- Walks of chroniclekeep's small functions: raw, line, sameTexts, same. -/
import Derived.Test.YtodlcnbknjldnaaDoorE12
import Derived.Test.YtodlcnbknjldnaaDoorW
namespace Go.Proofs.YtodlcnbknjldnaaDoor
open Go.RowKit Chron
/- n ints lie behind an address -/
def IntsAt (w : World) (a : Option Addr) (n : Nat) : Prop :=
  ∀ i, i < n → ∃ b off z, a = some ⟨b, off, none⟩ ∧ w.cell? ⟨b, off + i, none⟩ = some (.int .i64 z) ∧ -9223372036854775808 ≤ z
theorem IntsAt.below {w w' : World} {a : Option Addr} {n B : Nat} (h : IntsAt w a n) (hb : Below B w w') (hB : w.heap.size ≤ B) : IntsAt w' a n := by
  intro i hi
  obtain ⟨b, off, z, rfl, hc, hz⟩ := h i hi
  have hlt := World.block_lt_of_cell? w _ hc
  exact ⟨b, off, z, rfl, (hb.cell (p := ⟨b, off + i, none⟩) (Nat.lt_of_lt_of_le hlt hB)).trans hc, hz⟩
theorem conv_one (x : Int) (h0 : 0 ≤ x) (h1 : x < 256) (w : World) :
    (convert 51 9 (.slice (some ⟨w.heap.size, 0, none⟩) 1 1)).run Tryd.prog (w.alloc (.cells #[.int .u8 x] 5)) = .ok (.string ⟨#[UInt8.ofNat x.toNat]⟩) (w.alloc (.cells #[.int .u8 x] 5)) := by
  refine run_convert_bytes_back (w.alloc (.cells #[.int .u8 x] 5)) _ _ 5 ⟨w.heap.size, 0, none⟩ 1 [UInt8.ofNat x.toNat] Tryd.underlying51 Tryd.underlying5 Tryd.underlying9 ?_
  intro j hj
  have hj0 : j = 0 := by simpa using hj
  subst hj0
  refine cell_one_new w (.int .u8 x) 5 0 _ ?_
  simp
  omega
theorem wrap64_lo (x : Int) : -9223372036854775808 ≤ wrap64 x := by unfold wrap64; omega
theorem line_push {s : ByteArray} {p : Int} (h : s.data.toList.all byteOk = true) (h0 : 0 ≤ p) (h1 : p < 95) : (s ++ ⟨#[UInt8.ofNat (32 + p).toNat]⟩).data.toList.all byteOk = true := by
  have e : (s ++ ⟨#[UInt8.ofNat (32 + p).toNat]⟩ : ByteArray).data.toList = s.data.toList ++ [UInt8.ofNat (32 + p).toNat] := by
    obtain ⟨⟨s⟩⟩ := s; simp
  rw [e, List.all_append, h]
  simp [byteOk]
  omega
end Go.Proofs.YtodlcnbknjldnaaDoor
