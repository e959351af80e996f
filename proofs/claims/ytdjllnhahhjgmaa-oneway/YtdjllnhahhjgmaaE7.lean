/- Walks of schema.fields' methods. -/
import Derived.Test.YtdjllnhahhjgmaaR
import Derived.Test.YtdjllnhahhjgmaaE3
import Derived.Test.YtdjllnhahhjgmaaE6
namespace Go.Proofs.Ytdjllnhahhjgmaa
open Go.RowKit Chron
def Held (p : Nat) (r : List UInt8) (w w' : World) : Prop := w'.cell? ⟨p, 0, none⟩ = some (.string ⟨r.toArray⟩) ∧ w'.frozen? ⟨p, 0, none⟩ = false ∧ w.grownBy w' (some p)
theorem held_store {p : Nat} {r : List UInt8} {w w1 : World} {x : Value} (hb : Below w.heap.size w w1) (hk : w1.cell? ⟨p, 0, none⟩ = some x) (hkf : w1.frozen? ⟨p, 0, none⟩ = false) :
    Held p r w (w1.setCell ⟨p, 0, none⟩ (.string ⟨r.toArray⟩)) := by
  refine ⟨World.cell?_setCell_same _ _ _ hk, by rw [World.frozen?_setCell]; exact hkf, hb.os, hb.tape, hb.output, by simpa [World.setCell] using hb.size, fun k hk hne => ?_⟩
  rw [Below.heap_setCell _ _ _ _ (fun e => hne (by simp [e]))]
  exact hb.block k hk
set_option maxRecDepth 100000 in
set_option maxHeartbeats 1000000 in
theorem next_any (p : Nat) (s : ByteArray) (tag : Int) (w : World) (hc : w.cell? ⟨p, 0, none⟩ = some (.string s)) (hf : w.frozen? ⟨p, 0, none⟩ = false) (h0 : 0 ≤ tag) (h1 : tag ≤ 5) :
    Calls Try.prog 66 #[.pointer (some ⟨p, 0, none⟩), .int .i64 tag] w fun e w' =>
      e = .returned (.bool (Lib.hasPrefix s.data.toList (num tag.toNat))) ∧ Hid (Held p (Lib.trimPrefix s.data.toList (num tag.toNat)) w w') := by
  have hp := World.block_lt_of_cell? w _ hc
  simp only at hp
  go_enter Try.func66, Try.ntmps66
  go_wp2_with fail
  go_region_held (fun w' => w'.cell? ⟨p, 0, none⟩ = some (.string s)) (go_keep)
    (first
      | (go_at_call 46; refine (wireNumber_any tag _ h0 (by show tag.toNat < 128 ^ 9; omega)).mono ?_; rintro e w1 ⟨rfl, hb1⟩; have hk1 : w1.cell? ⟨p, 0, none⟩ = some (.string s) := (hb1.cell (p := ⟨p, 0, none⟩) hp).trans hc; have hkf : w1.frozen? ⟨p, 0, none⟩ = false := (hb1.frozen (p := ⟨p, 0, none⟩) hp).trans hf)
      | (go_at_call 73; refine (Try.strings_CutPrefix _ _ _).mono ?_; rintro e w' ⟨rfl, rfl⟩))
  go_wp2
  go_ret
  exact ⟨rfl, held_store ((Below.refl w.heap.size w).drew.trans hb1) hk1 hkf⟩

theorem rdVal_eq (l : List UInt8) : rdVal (readNum l) = .tuple #[.int .i64 (numOf l), .string ⟨(numRest l).toArray⟩, .bool (readNum l).isSome] := by
  unfold numOf numRest; rcases readNum l with _ | ⟨n, r⟩ <;> rfl
theorem txVal_eq (l : List UInt8) : txVal (readTx l) = .tuple #[.string ⟨(txOf l).toArray⟩, .string ⟨(txRest l).toArray⟩, .bool (readTx l).isSome] := by
  unfold txOf txRest; rcases readTx l with _ | ⟨n, r⟩ <;> rfl
theorem below_of_drewN {w : World} (n : Nat) : Below w.heap.size w (w.drewN n) := below_drewN (Below.refl _ _) n
set_option maxRecDepth 100000 in
set_option maxHeartbeats 1000000 in
theorem number_any (p : Nat) (s : ByteArray) (w : World) (hc : w.cell? ⟨p, 0, none⟩ = some (.string s)) (hf : w.frozen? ⟨p, 0, none⟩ = false) (hs : s.size ≤ maxLen) :
    Calls Try.prog 67 #[.pointer (some ⟨p, 0, none⟩)] w fun e w' =>
      e = .returned (.int .i64 (numOf s.data.toList)) ∧ Hid (Held p (numRest s.data.toList) w w') := by
  have hR := readNumber_any s w hs
  rw [rdVal_eq] at hR
  go_enter Try.func67, Try.ntmps67
  go_wp2_with fail
  refine hR.mono ?_
  rintro e w1 ⟨rfl, nq, rfl⟩
  go_wp2
  go_ret
  exact ⟨rfl, held_store (below_of_drewN nq) hc hf⟩
set_option maxRecDepth 100000 in
set_option maxHeartbeats 1000000 in
theorem text_any (p : Nat) (s : ByteArray) (w : World) (hc : w.cell? ⟨p, 0, none⟩ = some (.string s)) (hf : w.frozen? ⟨p, 0, none⟩ = false) (hs : s.size ≤ maxLen) :
    Calls Try.prog 68 #[.pointer (some ⟨p, 0, none⟩)] w fun e w' =>
      e = .returned (.string ⟨(txOf s.data.toList).toArray⟩) ∧ Hid (Held p (txRest s.data.toList) w w') := by
  have hR := readText_any s w hs
  rw [txVal_eq] at hR
  go_enter Try.func68, Try.ntmps68
  go_wp2_with fail
  refine hR.mono ?_
  rintro e w1 ⟨rfl, nq, rfl⟩
  go_wp2
  go_ret
  exact ⟨rfl, held_store (below_of_drewN nq) hc hf⟩
end Go.Proofs.Ytdjllnhahhjgmaa
