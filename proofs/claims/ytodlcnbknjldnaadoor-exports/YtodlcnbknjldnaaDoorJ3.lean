/- Walk of canon.tellList of texts. -/
import Derived.Test.YtodlcnbknjldnaaDoorJ2
namespace Go.Proofs.YtodlcnbknjldnaaDoor
open Go.RowKit Chron
/- one byte and one text into a builder at a block that is the call's own -/
theorem put_byte (b : Nat) (l : List UInt8) (X : World) (hX : Lib.IsBuilderF 56 5 b b (Lib.byteCells l) X) (hl : l.length ≤ 1000000) (z : Int) (c : UInt8) (hz : z = (c.toNat : Int)) :
    Calls Tryd.prog 27 #[.pointer (some ⟨b, 0, none⟩), .int .u8 z] X fun e X' => e = .returned .nilIface ∧ Hid (Lib.IsBuilderF 56 5 b b (Lib.byteCells (l ++ [c])) X') ∧ Below b X X' := by
  subst hz
  refine (Tryd.Builder_WriteByte_k b b _ _ _ hX (by rw [Lib.byteCells_length]; omega) (Nat.le_of_lt (builder_lt hX))).mono ?_
  rintro e w1 ⟨rfl, hB1, hb1, _⟩
  rw [byteCells_push] at hB1
  exact ⟨rfl, .inr hB1, hb1⟩
theorem put_text (b : Nat) (l : List UInt8) (s : List UInt8) (X : World) (hX : Lib.IsBuilderF 56 5 b b (Lib.byteCells l) X) (hl : l.length + s.length ≤ 1000000) :
    Calls Tryd.prog 28 #[.pointer (some ⟨b, 0, none⟩), .string ⟨s.toArray⟩] X fun e X' => (∃ v, e = .returned v) ∧ Hid (Lib.IsBuilderF 56 5 b b (Lib.byteCells (l ++ s)) X') ∧ Below b X X' := by
  refine (Tryd.Builder_WriteString_k b b _ _ _ hX (by rw [Lib.byteCells_length]; show l.length + s.length ≤ _; omega) (Nat.le_of_lt (builder_lt hX))).mono ?_
  rintro e w1 ⟨rfl, hB1, hb1, _⟩
  rw [strCells_bytes] at hB1
  exact ⟨⟨_, rfl⟩, .inr hB1, hb1⟩
set_option maxRecDepth 100000 in
set_option maxHeartbeats 1000000 in
theorem tellTags_any (a : Option Addr) (cap : Nat) (ts : List ByteArray) (w : World) (ht : Hid (TagsAt w a ts)) (hs : Hid (Lines ts)) (hl : ts.length ≤ 4) :
    Calls Tryd.prog 31 #[.slice a ts.length cap, .func (.func 30) #[] #[]] w fun e w' => e = .returned (.string ⟨(listB (tagsT ts)).toArray⟩) ∧ Below w.heap.size w w' := by
  have HBN := hide0 (builder_new 56 5 w)
  go_enter Tryd.func31, Tryd.ntmps31
  go_wp2_with fail
  refine (put_byte w.heap.size [] _ HBN.out (by decide) 91 91 rfl).mono ?_
  rintro e w1 ⟨rfl, HB1, hb1⟩
  have HW1 : Hid (Below w.heap.size w w1) := ((Below.refl _ _).alloc (Nat.le_refl _) _).trans hb1
  clear hb1 HBN
  go_wp2
  go_loopw [11] (fun i wx => ∃ k : Nat, k ≤ ts.length ∧ i = .int .i64 k ∧ Hid (Lib.IsBuilderF 56 5 w.heap.size w.heap.size (Lib.byteCells (91 :: jn ((tagsT ts).take k))) wx) ∧ Hid (Below w.heap.size w wx)) (fun i _ => ts.length - (intOf i).toNat)
  case atStart => exact ⟨0, Nat.zero_le _, rfl, HB1, HW1⟩
  case round =>
    obtain ⟨k, hk, rfl, HB, HW⟩ := hrel
    by_cases hlt : k < ts.length
    · obtain ⟨b1, o1, rfl, hc1⟩ := ht.out.below HW.out (Nat.le_refl _) (by omega)
      have e1 := hc1 k hlt
      obtain ⟨x, hx⟩ : ∃ x, ts[k]?.getD ByteArray.empty = x := ⟨_, rfl⟩
      rw [hx] at e1
      have HX := hide0 hx
      have hx60 : x.size ≤ 60 := by
        rw [← hx, List.getElem?_eq_getElem hlt]
        exact hs.out _ (List.getElem_mem hlt)
      have hAT := tagsT_at hlt
      rw [hx] at hAT
      have HAT := hide0 hAT
      have hq := qB_len x.data.toList
      have hq2 : (qB x.data.toList).length ≤ 122 := by simp at hq; omega
      clear hc1 hx hAT hq
      have hlen : (91 :: jn ((tagsT ts).take k) : List UInt8).length ≤ 1000 := by
        have h1 := jn_len (l := (tagsT ts).take k) (m := 122) (fun y hy => tagsT_short hs.out y (List.mem_of_mem_take hy))
        rw [List.length_take, tagsT_len] at h1
        have h2 : min k ts.length * 123 ≤ 4 * 123 := Nat.mul_le_mul_right _ (by omega)
        simp only [List.length_cons]
        omega
      by_cases h0 : 0 < k
      · have HE := hide0 (jn_take HAT.out h0)
        go_wp2_with fail
        refine (put_byte w.heap.size _ _ HB.out (by omega) 44 44 rfl).mono ?_
        rintro e w2 ⟨rfl, HB2, hb2⟩
        go_wp2_with fail
        refine (quote_any x _ (by omega)).mono ?_
        rintro e w3 ⟨rfl, hb3⟩
        have HB3 := hide0 (builder_below HB2.out hb3)
        have hlt2 := builder_lt HB2.out
        go_wp2_with fail
        refine (put_text w.heap.size _ _ _ HB3.out (by rw [List.length_append]; simp only [List.length_singleton]; omega)).mono ?_
        rintro e w4 ⟨⟨v, rfl⟩, HB4, hb4⟩
        have HW4 := hide0 (((HW.out.trans hb2).trans (hb3.mono (by omega))).trans hb4)
        clear hb2 hb3 hb4 HB2 HB3
        go_wp2
        go_roundw
        case rel => exact ⟨k + 1, by omega, by go_num, by rw [HE.out]; simpa using HB4, HW4⟩
        case measure => simp [intOf]; omega
      · have hk0 : k = 0 := by omega
        have HE : Hid (jn ((tagsT ts).take (k + 1)) = jn ((tagsT ts).take k) ++ qB x.data.toList) := by
          have := HAT.out
          subst hk0
          rw [Hid, jn_take_zero this]; rfl
        clear hk0
        go_wp2_with fail
        refine (quote_any x _ (by omega)).mono ?_
        rintro e w3 ⟨rfl, hb3⟩
        have HB3 := hide0 (builder_below HB.out hb3)
        have hlt2 := builder_lt HB.out
        go_wp2_with fail
        refine (put_text w.heap.size _ _ _ HB3.out (by omega)).mono ?_
        rintro e w4 ⟨⟨v, rfl⟩, HB4, hb4⟩
        have HW4 := hide0 ((HW.out.trans (hb3.mono (by omega))).trans hb4)
        clear hb3 hb4 HB3
        go_wp2
        go_roundw
        case rel => exact ⟨k + 1, by omega, by go_num, by rw [HE.out]; simpa using HB4, HW4⟩
        case measure => simp [intOf]; omega
    · have HA : Hid (listB (tagsT ts) = 91 :: jn ((tagsT ts).take k) ++ [93]) := by
        rw [List.take_of_length_le (by rw [tagsT_len]; omega)]; rfl
      have hlen : (91 :: jn ((tagsT ts).take k) : List UInt8).length ≤ 1000 := by
        have h1 := jn_len (l := (tagsT ts).take k) (m := 122) (fun y hy => tagsT_short hs.out y (List.mem_of_mem_take hy))
        rw [List.length_take, tagsT_len] at h1
        have h2 : min k ts.length * 123 ≤ 4 * 123 := Nat.mul_le_mul_right _ (by omega)
        simp only [List.length_cons]
        omega
      go_wp2_with fail
      refine (put_byte w.heap.size _ _ HB.out (by omega) 93 93 rfl).mono ?_
      rintro e w2 ⟨rfl, HB2, hb2⟩
      have hlt2 := builder_lt HB2.out
      go_wp2_with fail
      refine (Tryd.Builder_String_any_k w.heap.size w.heap.size _ _ HB2.out (by omega)).mono ?_
      rintro e w3 ⟨rfl, hB3, hb3, _⟩
      go_wp2
      go_ret
      exact ⟨ret_str (by rw [HA.out]; rfl), (HW.out.trans hb2).trans hb3⟩
end Go.Proofs.YtodlcnbknjldnaaDoor
