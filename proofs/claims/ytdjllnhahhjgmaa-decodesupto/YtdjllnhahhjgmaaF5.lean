/- Walk of chronicleref.Decode: no version, and the first version. -/
import Derived.Test.YtdjllnhahhjgmaaF4
namespace Go.Proofs.Ytdjllnhahhjgmaa
open Go.RowKit Chron
set_option maxRecDepth 100000 in
set_option maxHeartbeats 400000 in
theorem decodeRef_no (v : Int) (s : ByteArray) (w : World) (hv : isVer v = false) :
    Calls Try.prog 15 #[.int .i64 v, .string s] w fun e w' => ∃ x, e = .returned (.tuple #[evVal (decB v s.data.toList).1 x, .int .i64 (decB v s.data.toList).2]) ∧ w'.ownsRow w.heap.size 9 1 x (decB v s.data.toList).1.tags.length ((decB v s.data.toList).1.tags.map Value.string) ∧ Below w.heap.size w w' := by
  have HD : Hid (decB v s.data.toList = (zeroEv, 1)) := by simp [Hid, decB, hv]
  have h13 : v < 1 ∨ 3 < v := by simp [isVer] at hv; omega
  clear hv
  obtain ⟨r0, r1, r2, r3, r4, rf⟩ := res_cells (heap_alloc_new w (.cells #[.int .i64 0, .string ⟨#[]⟩, .int .i64 0, .string ⟨#[]⟩, .slice none 0 0] 24))
  have HB := hide0 (Below.alloc (Below.refl w.heap.size w) (Nat.le_refl _) (.cells #[.int .i64 0, .string ⟨#[]⟩, .int .i64 0, .string ⟨#[]⟩, .slice none 0 0] 24))
  rcases h13 with h | h
  · go_enter Try.func15, Try.ntmps15
    go_wp2
    refine bodyPost_ret (v := .tuple #[evVal zeroEv (.slice none 0 0), .int .i64 1]) (by simp [results, Try.results15, go_sem, evVal, zeroEv, r0, r1, r2, r3, r4]) rfl ⟨.slice none 0 0, ?_, ?_, ?_⟩
    · rw [HD.out]
    · rw [HD.out]; exact World.ownsRow_nil _ _ _ _
    · exact HB.out
  · have h1 : ¬ v < 1 := by omega
    go_enter Try.func15, Try.ntmps15
    go_wp2
    refine bodyPost_ret (v := .tuple #[evVal zeroEv (.slice none 0 0), .int .i64 1]) (by simp [results, Try.results15, go_sem, evVal, zeroEv, r0, r1, r2, r3, r4]) rfl ⟨.slice none 0 0, ?_, ?_, ?_⟩
    · rw [HD.out]
    · rw [HD.out]; exact World.ownsRow_nil _ _ _ _
    · exact HB.out
theorem enc_zero : encB 1 ⟨0, ⟨#[]⟩, 0, ⟨#[]⟩, []⟩ = ([], 2) := by decide +kernel
set_option maxRecDepth 100000 in
set_option maxHeartbeats 1000000 in
theorem decodeRef_bare (s : ByteArray) (w : World) (hs : s.size ≤ 1 ∨ ∃ h : 0 < s.size, s[0] = 0) :
    Calls Try.prog 15 #[.int .i64 1, .string s] w fun e w' => ∃ x, e = .returned (.tuple #[evVal (decB 1 s.data.toList).1 x, .int .i64 (decB 1 s.data.toList).2]) ∧ w'.ownsRow w.heap.size 9 1 x (decB 1 s.data.toList).1.tags.length ((decB 1 s.data.toList).1.tags.map Value.string) ∧ Below w.heap.size w w' := by
  have HD : Hid (decB 1 s.data.toList = (zeroEv, 3)) := by
    rcases hs with h | ⟨h, h0⟩
    · exact dec_short h
    · have := drop_cons s 0 h
      rw [List.drop_zero, h0] at this
      show decB 1 s.data.toList = _
      rw [this]; exact dec_null _
  have HW1 := hide0 (Gs.start w)
  have HR := hide0 enc_zero
  have htm : (⟨#[]⟩ : ByteArray).size ≤ maxLen := Nat.zero_le _
  have hbm : (⟨#[]⟩ : ByteArray).size ≤ maxLen := Nat.zero_le _
  by_cases h1 : s.size ≤ 1
  · clear hs
    go_enter Try.func15, Try.ntmps15
    have hc8 := fun w' => encodeRef_any 1 0 ⟨#[]⟩ 0 ⟨#[]⟩ none 0 [] w' (tags_none w') short_none (Nat.zero_le _) htm hbm
    rw [HR.out] at hc8
    go_wp2_with fail
    refine (hc8 _).mono ?_
    clear hc8
    rintro e w8 ⟨rfl, hb8⟩
    have H8 := hide0 (HW1.out.below hb8)
    clear hb8 HW1
    obtain ⟨b0, b1, b2, b3, b4, bf⟩ := res_cells H8.out.box
    obtain ⟨r0, r1, r2, r3, r4, rf⟩ := res_cells H8.out.res
    have n1 : ¬ w.heap.size = w.heap.size + 1 := by omega
    have n2 : ¬ w.heap.size + 1 = w.heap.size := by omega
    go_wp2
    refine bodyPost_ret (v := .tuple #[evVal zeroEv (.slice none 0 0), .int .i64 3]) (by simp [results, Try.results15, go_sem, evVal, zeroEv, r0, r1, r2, r3, r4]) rfl ⟨.slice none 0 0, ?_, ?_, ?_⟩
    · rw [HD.out]
    · rw [HD.out]; exact World.ownsRow_nil _ _ _ _
    · exact below_set5 H8.out.bel (Nat.le_refl _)
  · have h0 : 0 < s.size := by omega
    have h1i : (1 : Int) < (s.size : Int) := by omega
    have hz : ((s[0].toNat : Int) != 0) = false := by
      rcases hs with h | ⟨h, h0⟩
      · omega
      · rw [h0]; rfl
    clear hs
    go_enter Try.func15, Try.ntmps15
    have hc8 := fun w' => encodeRef_any 1 0 ⟨#[]⟩ 0 ⟨#[]⟩ none 0 [] w' (tags_none w') short_none (Nat.zero_le _) htm hbm
    rw [HR.out] at hc8
    go_wp2_with fail
    refine (hc8 _).mono ?_
    clear hc8
    rintro e w8 ⟨rfl, hb8⟩
    have H8 := hide0 (HW1.out.below hb8)
    clear hb8 HW1
    obtain ⟨b0, b1, b2, b3, b4, bf⟩ := res_cells H8.out.box
    obtain ⟨r0, r1, r2, r3, r4, rf⟩ := res_cells H8.out.res
    have n1 : ¬ w.heap.size = w.heap.size + 1 := by omega
    have n2 : ¬ w.heap.size + 1 = w.heap.size := by omega
    go_wp2
    refine bodyPost_ret (v := .tuple #[evVal zeroEv (.slice none 0 0), .int .i64 3]) (by simp [results, Try.results15, go_sem, evVal, zeroEv, r0, r1, r2, r3, r4]) rfl ⟨.slice none 0 0, ?_, ?_, ?_⟩
    · rw [HD.out]
    · rw [HD.out]; exact World.ownsRow_nil _ _ _ _
    · exact below_set5 H8.out.bel (Nat.le_refl _)
end Go.Proofs.Ytdjllnhahhjgmaa
