/- Walks of chronicleref's small functions: lineOK, number, text, Fits. -/
import Derived.Test.YtdjllnhahhjgmaaE6
import Derived.Test.YtdjllnhahhjgmaaB1
namespace Go.Proofs.Ytdjllnhahhjgmaa
open Go.RowKit Chron
set_option maxRecDepth 100000 in
set_option maxHeartbeats 400000 in
theorem lineOK_any (s : ByteArray) (w : World) (hs : s.size ≤ maxLen) :
    Calls Try.prog 40 #[.string s] w fun e w' => e = .returned (.bool (lineB s)) ∧ w' = w := by
  unfold maxLen at hs
  go_enter Try.func40, Try.ntmps40
  go_wp2
  go_loop [3] (fun i => ∃ k : Nat, k ≤ s.size ∧ i = .int .i64 k ∧ Hid ((s.data.toList.take k).all byteOk = true)) (fun i => s.size - (intOf i).toNat)
  case atStart => exact ⟨0, Nat.zero_le _, rfl, rfl⟩
  case round =>
    obtain ⟨k, hk, rfl, HA⟩ := hrel
    by_cases hlt : k < s.size
    · go_wp2
      · go_ret
        exact ⟨ret_bool (all_fails s k hlt (by assumption)).symm, rfl⟩
      · have hb : 32 ≤ (s[k].toNat : Int) ∧ (s[k].toNat : Int) ≤ 126 := by assumption
        go_round
        case rel => exact ⟨k + 1, by omega, by go_num, all_step s k hlt HA.out hb.1 hb.2⟩
        case measure => simp [intOf]; omega
      · go_ret
        exact ⟨ret_bool (all_fails s k hlt (Or.inl (by assumption))).symm, rfl⟩
    · have hall : s.data.toList.all byteOk = true := by
        have := HA.out
        rwa [List.take_of_length_le (by simp; omega)] at this
      have HL : Hid (lineB s = decide (s.size ≤ 60)) := by simp [Hid, lineB, hall]
      clear hall
      go_wp2
      go_ret
      exact ⟨ret_bool (by rw [HL.out]; exact decide_eq_decide.2 (by omega)), rfl⟩
theorem conv_blk (x : Int) (h0 : 0 ≤ x) (h1 : x < 256) (X : World) (b : Nat) (hX : X.heap[b]? = some (.cells #[.int .u8 x] 5)) :
    (convert 77 9 (.slice (some ⟨b, 0, none⟩) 1 1)).run Try.prog X = .ok (.string ⟨#[UInt8.ofNat x.toNat]⟩) X := by
  refine run_convert_bytes_back X _ _ 5 ⟨b, 0, none⟩ 1 [UInt8.ofNat x.toNat] Try.underlying77 Try.underlying5 Try.underlying9 ?_
  intro j hj
  have hj0 : j = 0 := by simpa using hj
  subst hj0
  simp [World.cell?, Addr.add, hX]
  omega
set_option maxRecDepth 100000 in
set_option maxHeartbeats 1000000 in
theorem number_ref (f : Nat) : ∀ (n : Int) (w : World), 0 ≤ n → Hid (n.toNat < 128 ^ f) → 0 < f → f ≤ 10 →
    Calls Try.prog 33 #[.int .i64 n] w fun e w' => e = .returned (.string ⟨(numF f n.toNat).toArray⟩) ∧ Below w.heap.size w w' := by
  induction f with
  | zero => intro n w _ _ h; omega
  | succ f ih =>
    intro n w h0 h1 _ h10
    by_cases hs : n < 128
    · have HN : Hid (numF (f + 1) n.toNat = [UInt8.ofNat n.toNat]) := numF_small (by omega)
      have hcv := conv_one n h0 (by omega)
      go_enter Try.func33, Try.ntmps33
      go_wp2
      go_ret
      exact ⟨ret_str (by rw [HN.out]), (Below.refl _ _).alloc (Nat.le_refl _) _⟩
    · have HN : Hid (numF (f + 1) n.toNat = UInt8.ofNat (128 + n.toNat % 128) :: numF f (n.toNat / 128)) := numF_more (by omega)
      have hf0 : 0 < f := by
        have := h1.out
        rcases Nat.eq_zero_or_pos f with h | h
        · subst h; simp at this; omega
        · exact h
      have hdiv : Hid ((n / 128).toNat < 128 ^ f) := by
        have := h1.out
        rw [Nat.pow_succ] at this
        show (n / 128).toNat < 128 ^ f
        rw [show (n / 128).toNat = n.toNat / 128 by omega]
        exact Nat.div_lt_of_lt_mul (by omega)
      obtain ⟨B, hB, hB0, hB1, HB⟩ : ∃ B : Int, IntKind.u8.wrap (IntKind.i64.wrap (128 + n.tmod 128)) = B ∧ 0 ≤ B ∧ B < 256 ∧ Hid (B.toNat = 128 + n.toNat % 128) := by
        have e : n.tmod 128 = n % 128 := Int.tmod_eq_emod_of_nonneg h0
        refine ⟨128 + n % 128, ?_, by omega, by omega, by show (128 + n % 128).toNat = _; omega⟩
        rw [e, wrapI_small (by omega) (by omega)]
        simp [IntKind.wrap, IntKind.bits, IntKind.signed]; omega
      obtain ⟨D, hD, HD⟩ : ∃ D : Int, IntKind.i64.wrap (n.tdiv 128) = D ∧ Hid (D = n / 128) := by
        have e : n.tdiv 128 = n / 128 := Int.tdiv_eq_ediv_of_nonneg h0
        have hn9 : n.toNat < 128 ^ 10 := Nat.lt_of_lt_of_le h1.out (Nat.pow_le_pow_right (by omega) h10)
        refine ⟨n / 128, ?_, rfl⟩
        rw [e, wrapI_small (by omega) (by omega)]
      have hlenF := numF_len f D.toNat
      have hnum : ∀ X, (X = w.drew ∨ X = (w.alloc (.cells #[.int .u8 B] 5)).drew) → Calls Try.prog 33 #[.int .i64 D] X fun e wz => e = .returned (.string ⟨(numF f D.toNat).toArray⟩) ∧ Hid (Below w.heap.size w wz) ∧
          (X = (w.alloc (.cells #[.int .u8 B] 5)).drew → (convert 77 9 (.slice (some ⟨w.heap.size, 0, none⟩) 1 1)).run Try.prog wz = .ok (.string ⟨#[UInt8.ofNat B.toNat]⟩) wz) := by
        intro X hX
        refine (ih D X (by rw [HD.out]; omega) (by rw [HD.out]; exact hdiv) hf0 (by omega)).mono ?_
        rintro e wz ⟨rfl, hb⟩
        refine ⟨rfl, ?_, ?_⟩
        · rcases hX with rfl | rfl
          · exact (Below.refl w.heap.size w).drew.trans hb
          · exact ((Below.refl w.heap.size w).alloc (Nat.le_refl _) _).drew.trans (hb.mono (by show w.heap.size ≤ (w.alloc _).heap.size; simp))
        · intro hX2
          subst hX2
          exact conv_blk _ hB0 hB1 wz _ ((hb.block w.heap.size (by show w.heap.size < (w.alloc _).heap.size; simp)).trans (heap_alloc_new w _))
      have hcvD : (convert 77 9 (.slice (some ⟨w.heap.size, 0, none⟩) 1 1)).run Try.prog (w.alloc (.cells #[.int .u8 B] 5)).drew = .ok (.string ⟨#[UInt8.ofNat B.toNat]⟩) (w.alloc (.cells #[.int .u8 B] 5)).drew := conv_blk _ hB0 hB1 _ _ (heap_alloc_new w _)
      have hcv := conv_one B hB0 hB1
      have hnl : ¬ 9223372036854775807 < 1 + (numF f D.toNat).length := by omega
      have HF : Hid (numF (f + 1) n.toNat = UInt8.ofNat B.toNat :: numF f D.toNat) := by
        show _ = _
        rw [HN.out, HB.out, HD.out, show (n / 128).toNat = n.toNat / 128 by omega]
      clear ih hlenF hdiv HN h1
      go_enter Try.func33, Try.ntmps33
      go_wp2_with fail
      go_region_law (first
        | (go_simp; go_at_call 33; refine (hnum _ ?_).mono ?_; first | exact Or.inl rfl | exact Or.inr rfl
           rintro e wz ⟨rfl, HBz, cvz⟩))
      all_goals
        go_wp2
        go_ret
        refine ⟨ret_str ?_, ?_⟩
        · rw [HF.out]; apply bytes_inj; simp
        · first | exact HBz.out | exact HBz.out.alloc (by have := HBz.out.size; omega) _
set_option maxHeartbeats 400000 in
theorem numRef_any (n : Int) (w : World) (h0 : 0 ≤ n) (h1 : Hid (n.toNat < 128 ^ 9)) :
    Calls Try.prog 33 #[.int .i64 n] w fun e w' => e = .returned (.string ⟨(num n.toNat).toArray⟩) ∧ Below w.heap.size w w' :=
  number_ref 10 n w h0 (Nat.lt_of_lt_of_le h1.out (Nat.pow_le_pow_right (by omega) (by omega))) (by omega) (by omega)
set_option maxHeartbeats 400000 in
theorem textRef_any (s : ByteArray) (w : World) (hs : s.size ≤ 65536) :
    Calls Try.prog 32 #[.string s] w fun e w' => e = .returned (.string ⟨(text s.data.toList).toArray⟩) ∧ Below w.heap.size w w' := by
  have hN := numRef_any (s.size : Int) w (by omega) (by show (s.size : Int).toNat < 128 ^ 9; omega)
  rw [Int.toNat_natCast] at hN
  have HT : Hid (text s.data.toList = num s.size ++ s.data.toList) := by simp [text, Hid]
  go_enter Try.func32, Try.ntmps32
  go_wp2_with fail
  refine hN.mono ?_
  rintro e w' ⟨rfl, hb⟩
  have hnl := num_len s.size
  go_wp2
  go_ret
  exact ⟨ret_str (by rw [HT.out]; exact mk_append _ _), hb⟩
def fitsR (v k : Int) (t : ByteArray) (m : Int) (n : Nat) : Bool := if v = 3 then true else if v = 2 then decide (n = 0) else (decide (n = 0) && (decide (m = 0) && (decide (k ≠ 4) && !dashB t)))
theorem fitsR_eq {v : Int} {e : Ev} (h : isVer v = true) : fitsR v e.kind e.task e.time e.tags.length = fitsB v e := by
  simp [isVer] at h
  have : v = 1 ∨ v = 2 ∨ v = 3 := by omega
  have hz : decide (e.tags.length = 0) = !decide (0 < e.tags.length) := by
    by_cases h0 : e.tags.length = 0 <;> simp [h0]; omega
  rcases this with rfl | rfl | rfl
  · simp only [fitsR, fitsB]; rw [if_neg (by omega), if_neg (by omega), hz]; simp
  · simp only [fitsR, fitsB]; rw [if_neg (by omega), if_pos trivial, hz]; simp
  · simp [fitsR, fitsB]
theorem fitsR_three {v k : Int} {t : ByteArray} {m : Int} {n : Nat} (h : (v == 3) = true) : fitsR v k t m n = true := by simp at h; simp [fitsR, h]
theorem fitsR_two {v k : Int} {t : ByteArray} {m : Int} {n : Nat} (h3 : (v == 3) = false) (h : (v == 2) = true) : fitsR v k t m n = ((n : Int) == 0) := by
  simp at h h3; rw [fitsR, if_neg h3, if_pos h, Bool.eq_iff_iff]; simp
theorem fitsR_one {v k : Int} {t : ByteArray} {m : Int} {n : Nat} (h3 : (v == 3) = false) (h : (v == 2) = false) : fitsR v k t m n = (((n : Int) == 0) && ((m == 0) && ((k != 4) && !(t.toList == [45])))) := by
  simp at h h3; rw [fitsR, if_neg h3, if_neg h, dashB, Bool.eq_iff_iff]; simp
set_option maxRecDepth 100000 in
set_option maxHeartbeats 1000000 in
theorem fits_any (v k : Int) (t : ByteArray) (m : Int) (b : ByteArray) (a : Option Addr) (n cap : Nat) (w : World) :
    Calls Try.prog 31 #[.int .i64 v, .agg #[.int .i64 k, .string t, .int .i64 m, .string b, .slice a n cap]] w fun e w' =>
      e = .returned (.bool (fitsR v k t m n)) ∧ Below w.heap.size w w' := by
  go_enter Try.func31, Try.ntmps31
  go_wp2
  all_goals
    go_ret
    refine ⟨ret_bool ?_, (Below.refl _ _).alloc (Nat.le_refl _) _⟩
    first
      | (rw [fitsR_three ‹_›]; done)
      | (rw [fitsR_two ‹_› ‹_›]; done)
      | (rw [fitsR_one ‹(v == 3) = false› ‹(v == 2) = false›]; simp_all; done)
end Go.Proofs.Ytdjllnhahhjgmaa
