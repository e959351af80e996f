/- Walks of chroniclekeep's small functions: raw, line, sameTexts, same. -/
import Derived.Test.YtdjllnhahhjgmaaE12
import Derived.Test.YtdjllnhahhjgmaaW
namespace Go.Proofs.Ytdjllnhahhjgmaa
open Go.RowKit Chron
/- n ints lie behind an address -/
def IntsAt (w : World) (a : Option Addr) (n : Nat) : Prop :=
  ∀ i, i < n → ∃ b off z, a = some ⟨b, off, none⟩ ∧ w.cell? ⟨b, off + i, none⟩ = some (.int .i64 z) ∧ -9223372036854775808 ≤ z
theorem IntsAt.below {w w' : World} {a : Option Addr} {n B : Nat} (h : IntsAt w a n) (hb : Below B w w') (hB : w.heap.size ≤ B) : IntsAt w' a n := by
  intro i hi
  obtain ⟨b, off, z, rfl, hc, hz⟩ := h i hi
  have hlt := World.block_lt_of_cell? w _ hc
  exact ⟨b, off, z, rfl, (hb.cell (p := ⟨b, off + i, none⟩) (Nat.lt_of_lt_of_le hlt hB)).trans hc, hz⟩
set_option maxRecDepth 100000 in
set_option maxHeartbeats 400000 in
theorem raw_any (a : Option Addr) (n cap i : Nat) (w : World) (h : Hid (IntsAt w a n)) (_hn : n ≤ maxLen) (_hi : i ≤ 100) :
    Calls Try.prog 48 #[.slice a n cap, .int .i64 i] w fun e w' => (∃ z, e = .returned (.int .i64 z) ∧ Hid (-9223372036854775808 ≤ z)) ∧ w' = w := by
  unfold maxLen at _hn
  by_cases hlt : i < n
  · obtain ⟨b, off, z, rfl, hc, hz⟩ := h.out i hlt
    have HZ := hide0 hz
    clear hz
    go_enter Try.func48, Try.ntmps48
    go_wp2
    go_ret
    exact ⟨⟨z, rfl, HZ⟩, rfl⟩
  · go_enter Try.func48, Try.ntmps48
    go_wp2
    go_ret
    exact ⟨⟨0, rfl, by show (-9223372036854775808 : Int) ≤ 0; decide⟩, rfl⟩
theorem conv_one (x : Int) (h0 : 0 ≤ x) (h1 : x < 256) (w : World) :
    (convert 77 9 (.slice (some ⟨w.heap.size, 0, none⟩) 1 1)).run Try.prog (w.alloc (.cells #[.int .u8 x] 5)) = .ok (.string ⟨#[UInt8.ofNat x.toNat]⟩) (w.alloc (.cells #[.int .u8 x] 5)) := by
  refine run_convert_bytes_back (w.alloc (.cells #[.int .u8 x] 5)) _ _ 5 ⟨w.heap.size, 0, none⟩ 1 [UInt8.ofNat x.toNat] Try.underlying77 Try.underlying5 Try.underlying9 ?_
  intro j hj
  have hj0 : j = 0 := by simpa using hj
  subst hj0
  refine cell_one_new w (.int .u8 x) 5 0 _ ?_
  simp
  omega
theorem wrap64_lo (x : Int) : -9223372036854775808 ≤ wrap64 x := by unfold wrap64; omega
theorem line_push {s : ByteArray} {p : Int} (h : s.data.toList.all byteOk = true) (h0 : 0 ≤ p) (h1 : p < 95) : (s ++ ⟨#[UInt8.ofNat (32 + p).toNat]⟩).data.toList.all byteOk = true := by
  have e : (s ++ ⟨#[UInt8.ofNat (32 + p).toNat]⟩ : ByteArray).data.toList = s.data.toList ++ [UInt8.ofNat (32 + p).toNat] := by
    obtain ⟨⟨s⟩⟩ := s; simp
  rw [e, List.all_append, h]
  simp [byteOk]
  omega
set_option maxRecDepth 100000 in
set_option maxHeartbeats 400000 in
theorem line_any (c : Int) (n : Nat) (w : World) (h0 : Hid (-9223372036854775808 ≤ c)) (hn : n ≤ 60) :
    Calls Try.prog 49 #[.int .i64 c, .int .i64 n] w fun e w' => (∃ s, e = .returned (.string s) ∧ Hid (lineN s n)) ∧ Below w.heap.size w w' := by
  go_enter Try.func49, Try.ntmps49
  go_wp2_with fail
  refine (pick_any c _ _ h0.out (by omega)).mono ?_
  rintro e w0 ⟨⟨p, rfl, hp0, hp1⟩, hw0⟩
  have hw1 := hw0.symm
  subst hw1
  clear hw0
  obtain ⟨m, rfl⟩ := Int.eq_ofNat_of_zero_le hp0
  go_wp2_with fail
  go_loopw [6, 7] (fun sv i wx => ∃ (k : Nat) (s : ByteArray), k ≤ m ∧ i = .int .i64 k ∧ sv = .string s ∧ s.size = k ∧ Hid (s.data.toList.all byteOk = true) ∧ Hid (Below w.heap.size w wx)) (fun _ i _ => m - (intOf i).toNat)
  case atStart => exact ⟨0, ⟨#[]⟩, Nat.zero_le _, rfl, rfl, rfl, rfl, Below.refl _ _⟩
  case round =>
    obtain ⟨k, s, hk, rfl, rfl, hsk, HA, HB⟩ := hrel
    by_cases hlt : k < m
    · go_wp2_with fail
      refine (pick_any _ 95 _ (wrap64_lo _) (by omega)).mono ?_
      rintro e w1 ⟨⟨p, rfl, hp2, hp3⟩, hw0⟩
      have hw1 := hw0.symm
      subst hw1
      clear hw0
      have hcv := conv_one (32 + p) (by omega) (by omega)
      have hsz := HB.out.size
      go_wp2
      go_roundw
      case rel => exact ⟨k + 1, _, by omega, by go_num, rfl, by rw [ByteArray.size_append, hsk]; rfl, line_push HA.out (by omega) (by omega), HB.out.alloc hsz _⟩
      case measure => simp [intOf]; omega
    · have HN : Hid (lineN s n) := ⟨by omega, HA.out⟩
      go_wp2
      go_ret
      exact ⟨⟨s, rfl, HN⟩, HB.out⟩
end Go.Proofs.Ytdjllnhahhjgmaa
