/- Walks of chronicleref's small functions: lineOK, number, text, Fits. -/
import Derived.Test.YtodlcnbknjldnaaDoorE6
import Derived.Test.YtodlcnbknjldnaaDoorB1
namespace Go.Proofs.YtodlcnbknjldnaaDoor
open Go.RowKit Chron
set_option maxRecDepth 100000 in
set_option maxHeartbeats 400000 in
theorem lineOK_any (s : ByteArray) (w : World) (hs : s.size ≤ maxLen) :
    Calls Tryd.prog 22 #[.string s] w fun e w' => e = .returned (.bool (lineB s)) ∧ w' = w := by
  unfold maxLen at hs
  go_enter Tryd.func22, Tryd.ntmps22
  go_wp2
  go_loop [3] (fun i => ∃ k : Nat, k ≤ s.size ∧ i = .int .i64 k ∧ Hid ((s.data.toList.take k).all byteOk = true)) (fun i => s.size - (intOf i).toNat)
  case atStart => exact ⟨0, Nat.zero_le _, rfl, rfl⟩
  case round =>
    obtain ⟨k, hk, rfl, HA⟩ := hrel
    by_cases hlt : k < s.size
    · go_wp2
      · go_ret
        exact ⟨ret_bool (all_fails s k hlt (by assumption)).symm, rfl⟩
      · have hb : 32 ≤ (s[k].toNat : Int) ∧ (s[k].toNat : Int) ≤ 126 := by assumption
        go_round
        case rel => exact ⟨k + 1, by omega, by go_num, all_step s k hlt HA.out hb.1 hb.2⟩
        case measure => simp [intOf]; omega
      · go_ret
        exact ⟨ret_bool (all_fails s k hlt (Or.inl (by assumption))).symm, rfl⟩
    · have hall : s.data.toList.all byteOk = true := by
        have := HA.out
        rwa [List.take_of_length_le (by simp; omega)] at this
      have HL : Hid (lineB s = decide (s.size ≤ 60)) := by simp [Hid, lineB, hall]
      clear hall
      go_wp2
      go_ret
      exact ⟨ret_bool (by rw [HL.out]; exact decide_eq_decide.2 (by omega)), rfl⟩
theorem conv_blk (x : Int) (h0 : 0 ≤ x) (h1 : x < 256) (X : World) (b : Nat) (hX : X.heap[b]? = some (.cells #[.int .u8 x] 5)) :
    (convert 51 9 (.slice (some ⟨b, 0, none⟩) 1 1)).run Tryd.prog X = .ok (.string ⟨#[UInt8.ofNat x.toNat]⟩) X := by
  refine run_convert_bytes_back X _ _ 5 ⟨b, 0, none⟩ 1 [UInt8.ofNat x.toNat] Tryd.underlying51 Tryd.underlying5 Tryd.underlying9 ?_
  intro j hj
  have hj0 : j = 0 := by simpa using hj
  subst hj0
  simp [World.cell?, Addr.add, hX]
  omega
def fitsR (v k : Int) (t : ByteArray) (m : Int) (n : Nat) : Bool := if v = 3 then true else if v = 2 then decide (n = 0) else (decide (n = 0) && (decide (m = 0) && (decide (k ≠ 4) && !dashB t)))
theorem fitsR_eq {v : Int} {e : Ev} (h : isVer v = true) : fitsR v e.kind e.task e.time e.tags.length = fitsB v e := by
  simp [isVer] at h
  have : v = 1 ∨ v = 2 ∨ v = 3 := by omega
  have hz : decide (e.tags.length = 0) = !decide (0 < e.tags.length) := by
    by_cases h0 : e.tags.length = 0 <;> simp [h0]; omega
  rcases this with rfl | rfl | rfl
  · simp only [fitsR, fitsB]; rw [if_neg (by omega), if_neg (by omega), hz]; simp
  · simp only [fitsR, fitsB]; rw [if_neg (by omega), if_pos trivial, hz]; simp
  · simp [fitsR, fitsB]
theorem fitsR_three {v k : Int} {t : ByteArray} {m : Int} {n : Nat} (h : (v == 3) = true) : fitsR v k t m n = true := by simp at h; simp [fitsR, h]
theorem fitsR_two {v k : Int} {t : ByteArray} {m : Int} {n : Nat} (h3 : (v == 3) = false) (h : (v == 2) = true) : fitsR v k t m n = ((n : Int) == 0) := by
  simp at h h3; rw [fitsR, if_neg h3, if_pos h, Bool.eq_iff_iff]; simp
theorem fitsR_one {v k : Int} {t : ByteArray} {m : Int} {n : Nat} (h3 : (v == 3) = false) (h : (v == 2) = false) : fitsR v k t m n = (((n : Int) == 0) && ((m == 0) && ((k != 4) && !(t.toList == [45])))) := by
  simp at h h3; rw [fitsR, if_neg h3, if_neg h, dashB, Bool.eq_iff_iff]; simp
end Go.Proofs.YtodlcnbknjldnaaDoor
