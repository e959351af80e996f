/- Walks and plain facts, in the order in which they lean on one another. -/
import Derived.Test.YtodlcnbknjldnaaGreatDoorW04
import Derived.Test.YtodlcnbknjldnaaGreatDoorW03
import Derived.Lib.LaidTab
import Derived.Lib.AppendIntMem
import Derived.WalkSmall
import Derived.Test.YtodlcnbknjldnaaGreatDoorW01
namespace Go.Proofs.YtodlcnbknjldnaaGreatDoor
open Go.RowKit Chron
/- one byte and one text into a builder at a block that is the call's own -/
theorem put_byte (b : Nat) (l : List UInt8) (X : World) (hX : Lib.IsBuilderF 83 5 b b (Lib.byteCells l) X) (hl : l.length ≤ 1000000) (z : Int) (c : UInt8) (hz : z = (c.toNat : Int)) :
    Calls Tryz.prog 50 #[.pointer (some ⟨b, 0, none⟩), .int .u8 z] X fun e X' => e = .returned .nilIface ∧ Hid (Lib.IsBuilderF 83 5 b b (Lib.byteCells (l ++ [c])) X') ∧ Below b X X' := by
  subst hz
  refine (Tryz.Builder_WriteByte_k b b _ _ _ hX (by rw [Lib.byteCells_length]; omega) (Nat.le_of_lt (builder_lt hX))).mono ?_
  rintro e w1 ⟨rfl, hB1, hb1, _⟩
  rw [byteCells_push] at hB1
  exact ⟨rfl, .inr hB1, hb1⟩
theorem put_text (b : Nat) (l : List UInt8) (s : List UInt8) (X : World) (hX : Lib.IsBuilderF 83 5 b b (Lib.byteCells l) X) (hl : l.length + s.length ≤ 1000000) :
    Calls Tryz.prog 51 #[.pointer (some ⟨b, 0, none⟩), .string ⟨s.toArray⟩] X fun e X' => (∃ v, e = .returned v) ∧ Hid (Lib.IsBuilderF 83 5 b b (Lib.byteCells (l ++ s)) X') ∧ Below b X X' := by
  refine (Tryz.Builder_WriteString_k b b _ _ _ hX (by rw [Lib.byteCells_length]; show l.length + s.length ≤ _; omega) (Nat.le_of_lt (builder_lt hX))).mono ?_
  rintro e w1 ⟨rfl, hB1, hb1, _⟩
  rw [strCells_bytes] at hB1
  exact ⟨⟨_, rfl⟩, .inr hB1, hb1⟩
set_option maxRecDepth 100000 in
set_option maxHeartbeats 1000000 in
theorem tellTags_any (a : Option Addr) (cap : Nat) (ts : List ByteArray) (w : World) (ht : Hid (TagsAt w a ts)) (hs : Hid (Lines ts)) (hl : ts.length ≤ 4) :
    Calls Tryz.prog 54 #[.slice a ts.length cap, .func (.func 53) #[] #[]] w fun e w' => e = .returned (.string ⟨(listB (tagsT ts)).toArray⟩) ∧ Below w.heap.size w w' := by
  have HBN := hide0 (builder_new 83 5 w)
  go_enter Tryz.func54, Tryz.ntmps54
  go_wp2_with fail
  refine (put_byte w.heap.size [] _ HBN.out (by decide) 91 91 rfl).mono ?_
  rintro e w1 ⟨rfl, HB1, hb1⟩
  have HW1 : Hid (Below w.heap.size w w1) := ((Below.refl _ _).alloc (Nat.le_refl _) _).trans hb1
  clear hb1 HBN
  go_wp2
  go_loopw [11] (fun i wx => ∃ k : Nat, k ≤ ts.length ∧ i = .int .i64 k ∧ Hid (Lib.IsBuilderF 83 5 w.heap.size w.heap.size (Lib.byteCells (91 :: jn ((tagsT ts).take k))) wx) ∧ Hid (Below w.heap.size w wx)) (fun i _ => ts.length - (intOf i).toNat)
  case atStart => exact ⟨0, Nat.zero_le _, rfl, HB1, HW1⟩
  case round =>
    obtain ⟨k, hk, rfl, HB, HW⟩ := hrel
    by_cases hlt : k < ts.length
    · obtain ⟨b1, o1, rfl, hc1⟩ := ht.out.below HW.out (Nat.le_refl _) (by omega)
      have e1 := hc1 k hlt
      obtain ⟨x, hx⟩ : ∃ x, ts[k]?.getD ByteArray.empty = x := ⟨_, rfl⟩
      rw [hx] at e1
      have HX := hide0 hx
      have hx60 : x.size ≤ 60 := by
        rw [← hx, List.getElem?_eq_getElem hlt]
        exact hs.out _ (List.getElem_mem hlt)
      have hAT := tagsT_at hlt
      rw [hx] at hAT
      have HAT := hide0 hAT
      have hq := qB_len x.data.toList
      have hq2 : (qB x.data.toList).length ≤ 122 := by simp at hq; omega
      clear hc1 hx hAT hq
      have hlen : (91 :: jn ((tagsT ts).take k) : List UInt8).length ≤ 1000 := by
        have h1 := jn_len (l := (tagsT ts).take k) (m := 122) (fun y hy => tagsT_short hs.out y (List.mem_of_mem_take hy))
        rw [List.length_take, tagsT_len] at h1
        have h2 : min k ts.length * 123 ≤ 4 * 123 := Nat.mul_le_mul_right _ (by omega)
        simp only [List.length_cons]
        omega
      by_cases h0 : 0 < k
      · have HE := hide0 (jn_take HAT.out h0)
        go_wp2_with fail
        refine (put_byte w.heap.size _ _ HB.out (by omega) 44 44 rfl).mono ?_
        rintro e w2 ⟨rfl, HB2, hb2⟩
        go_wp2_with fail
        refine (quote_any x _ (by omega)).mono ?_
        rintro e w3 ⟨rfl, hb3⟩
        have HB3 := hide0 (builder_below HB2.out hb3)
        have hlt2 := builder_lt HB2.out
        go_wp2_with fail
        refine (put_text w.heap.size _ _ _ HB3.out (by rw [List.length_append]; simp only [List.length_singleton]; omega)).mono ?_
        rintro e w4 ⟨⟨v, rfl⟩, HB4, hb4⟩
        have HW4 := hide0 (((HW.out.trans hb2).trans (hb3.mono (by omega))).trans hb4)
        clear hb2 hb3 hb4 HB2 HB3
        go_wp2
        go_roundw
        case rel => exact ⟨k + 1, by omega, by go_num, by rw [HE.out]; simpa using HB4, HW4⟩
        case measure => simp [intOf]; omega
      · have hk0 : k = 0 := by omega
        have HE : Hid (jn ((tagsT ts).take (k + 1)) = jn ((tagsT ts).take k) ++ qB x.data.toList) := by
          have := HAT.out
          subst hk0
          rw [Hid, jn_take_zero this]; rfl
        clear hk0
        go_wp2_with fail
        refine (quote_any x _ (by omega)).mono ?_
        rintro e w3 ⟨rfl, hb3⟩
        have HB3 := hide0 (builder_below HB.out hb3)
        have hlt2 := builder_lt HB.out
        go_wp2_with fail
        refine (put_text w.heap.size _ _ _ HB3.out (by omega)).mono ?_
        rintro e w4 ⟨⟨v, rfl⟩, HB4, hb4⟩
        have HW4 := hide0 ((HW.out.trans (hb3.mono (by omega))).trans hb4)
        clear hb3 hb4 HB3
        go_wp2
        go_roundw
        case rel => exact ⟨k + 1, by omega, by go_num, by rw [HE.out]; simpa using HB4, HW4⟩
        case measure => simp [intOf]; omega
    · have HA : Hid (listB (tagsT ts) = 91 :: jn ((tagsT ts).take k) ++ [93]) := by
        rw [List.take_of_length_le (by rw [tagsT_len]; omega)]; rfl
      have hlen : (91 :: jn ((tagsT ts).take k) : List UInt8).length ≤ 1000 := by
        have h1 := jn_len (l := (tagsT ts).take k) (m := 122) (fun y hy => tagsT_short hs.out y (List.mem_of_mem_take hy))
        rw [List.length_take, tagsT_len] at h1
        have h2 : min k ts.length * 123 ≤ 4 * 123 := Nat.mul_le_mul_right _ (by omega)
        simp only [List.length_cons]
        omega
      go_wp2_with fail
      refine (put_byte w.heap.size _ _ HB.out (by omega) 93 93 rfl).mono ?_
      rintro e w2 ⟨rfl, HB2, hb2⟩
      have hlt2 := builder_lt HB2.out
      go_wp2_with fail
      refine (Tryz.Builder_String_any_k w.heap.size w.heap.size _ _ HB2.out (by omega)).mono ?_
      rintro e w3 ⟨rfl, hB3, hb3, _⟩
      go_wp2
      go_ret
      exact ⟨ret_str (by rw [HA.out]; rfl), (HW.out.trans hb2).trans hb3⟩
end Go.Proofs.YtodlcnbknjldnaaGreatDoor
namespace Go.Proofs.YtodlcnbknjldnaaGreatDoor
open Go.RowKit Chron
def Kinds (w : World) : Prop := ∀ i : Nat, i < 4 → w.cell? ⟨1, i, none⟩ = some (.string ⟨(wordB ((i : Int) + 1)).toArray⟩)
def Pows (w : World) : Prop := Lib.TabIs Tryz.prog w "internal/strconv.uint64pow10" .u64 Lib.pow10Tab
theorem gPows : Tryz.prog.globalNamed "internal/strconv.uint64pow10" = some 4 := by kernel_rfl
theorem Kinds.below {w w' : World} {B : Nat} (h : Kinds w) (hb : Below B w w') (hB : w.heap.size ≤ B) : Kinds w' := fun i hi => by
  have hi' := h i hi
  have hlt := World.block_lt_of_cell? w _ hi'
  exact (hb.cell (p := ⟨1, i, none⟩) (Nat.lt_of_lt_of_le hlt hB)).trans hi'
theorem Pows.below {w w' : World} {B : Nat} (h : Pows w) (hb : Below B w w') (hB : w.heap.size ≤ B) : Pows w' := by
  have hlt : 4 < w.heap.size := by
    have h0 := Lib.TabIs.cell h gPows 0 (by decide)
    exact World.block_lt_of_cell? w _ h0
  exact var?_below hb gPows (Nat.lt_of_lt_of_le hlt hB) h
structure LaidAt (w : World) : Prop where
  kinds : Kinds w
  pows : Pows w
theorem LaidAt.below {w w' : World} {B : Nat} (h : LaidAt w) (hb : Below B w w') (hB : w.heap.size ≤ B) : LaidAt w' := ⟨h.kinds.below hb hB, h.pows.below hb hB⟩
structure EvBox (N : Nat) (w wx : World) (k : Int) (t : ByteArray) (m : Int) (b : ByteArray) (x : Value) : Prop where
  bel : Below N w wx
  box : wx.heap[N]? = some (.cells #[.int .i64 k, .string t, .int .i64 m, .string b, x] 29)
theorem EvBox.more {N : Nat} {w wx wy : World} {k : Int} {t : ByteArray} {m : Int} {b : ByteArray} {x : Value} (h : EvBox N w wx k t m b x) (hb : Below wx.heap.size wx wy) : EvBox N w wy k t m b x := by
  have hlt := (Array.getElem?_eq_some_iff.1 h.box).1
  exact ⟨h.bel.trans (hb.mono (by omega)), (hb.block N hlt).trans h.box⟩
theorem catted (a b : ByteArray) (l r : List UInt8) (ha : Hid (a.data.toList = l)) (hb : b.data.toList = r) (h : l.length + r.length ≤ 1000000) : ∃ S : ByteArray, (∀ W : World, (Op.stringOp .add a b).run Tryz.prog W = .ok (.string S) W) ∧ Hid (S.data.toList = l ++ r) := by
  refine ⟨a ++ b, fun W => run_string_add_sum W a b ?_, ?_⟩
  · have h1 : a.size = l.length := by rw [← ha.out]; simp
    have h2 : b.size = r.length := by rw [← hb]; simp
    omega
  · show (a ++ b).data.toList = l ++ r
    rw [← ha.out, ← hb]; simp
theorem bytes_mk (l : List UInt8) : (⟨l.toArray⟩ : ByteArray).data.toList = l := by simp
set_option maxRecDepth 100000 in
set_option maxHeartbeats 2000000 in
theorem tellEvent_any (k : Int) (t : ByteArray) (m : Int) (b : ByteArray) (a : Option Addr) (cap : Nat) (ts : List ByteArray) (w : World) (ht : Hid (TagsAt w a ts)) (hE : Hid (isB ⟨k, t, m, b, ts⟩ = true)) (hL : Hid (LaidAt w)) :
    Calls Tryz.prog 38 #[.agg #[.int .i64 k, .string t, .int .i64 m, .string b, .slice a ts.length cap]] w fun e w' => e = .returned (.string ⟨(tellB ⟨k, t, m, b, ts⟩).toArray⟩) ∧ Below w.heap.size w w' := by
  obtain ⟨h1, h4, htk, _, ht0, ht1, hbd, hfew, hlines⟩ := is_known hE.out
  simp only at h1 h4 htk ht0 ht1 hbd hfew hlines
  have HLN := hide0 hlines
  clear hlines
  obtain ⟨j, hj, hj4, HJ⟩ : ∃ j : Nat, IntKind.i64.wrap (k - 1) = j ∧ j < 4 ∧ Hid ((j : Int) + 1 = k) := ⟨(k - 1).toNat, by rw [wrapI_small (by omega) (by omega)]; omega, by omega, by show _ = _; omega⟩
  obtain ⟨wd, HWD, hwd⟩ : ∃ wd : ByteArray, Hid (wd = ⟨(wordB k).toArray⟩) ∧ wd.size ≤ 60 := ⟨_, rfl, by have := word_len k; show (wordB k).length ≤ 60; omega⟩
  have HT0 : Hid (EvBox w.heap.size w (w.alloc (.cells #[.int .i64 k, .string t, .int .i64 m, .string b, .slice a ts.length cap] 29)).drew k t m b (.slice a ts.length cap)) := ⟨((Below.refl _ _).alloc (Nat.le_refl _) _).drew, heap_alloc_new w _⟩
  have hcells : ∀ X, EvBox w.heap.size w X k t m b (.slice a ts.length cap) → X.cell? ⟨w.heap.size, 0, none⟩ = some (.int .i64 k) ∧ X.cell? ⟨w.heap.size, 1, none⟩ = some (.string t) ∧ X.cell? ⟨w.heap.size, 2, none⟩ = some (.int .i64 m) ∧ X.cell? ⟨w.heap.size, 3, none⟩ = some (.string b) ∧ X.cell? ⟨w.heap.size, 4, none⟩ = some (.slice a ts.length cap) ∧ X.cell? ⟨1, j, none⟩ = some (.string wd) := by
    intro X hX
    obtain ⟨d0, d1, d2, d3, d4, _⟩ := res_cells hX.box
    have hk := hL.out.kinds j hj4
    have hlt := World.block_lt_of_cell? w _ hk
    rw [HJ.out, ← HWD.out] at hk
    exact ⟨d0, d1, d2, d3, d4, (hX.bel.cell (p := ⟨1, j, none⟩) hlt).trans hk⟩
  have hQ : ∀ (s : ByteArray) (X : World), s.size ≤ 60 → Hid (EvBox w.heap.size w X k t m b (.slice a ts.length cap)) → Calls Tryz.prog 53 #[.string s] X fun e X' => e = .returned (.string ⟨(qB s.data.toList).toArray⟩) ∧ Hid (EvBox w.heap.size w X' k t m b (.slice a ts.length cap)) ∧ X'.cell? ⟨w.heap.size, 0, none⟩ = some (.int .i64 k) ∧ X'.cell? ⟨w.heap.size, 1, none⟩ = some (.string t) ∧ X'.cell? ⟨w.heap.size, 2, none⟩ = some (.int .i64 m) ∧ X'.cell? ⟨w.heap.size, 3, none⟩ = some (.string b) ∧ X'.cell? ⟨w.heap.size, 4, none⟩ = some (.slice a ts.length cap) ∧ X'.cell? ⟨1, j, none⟩ = some (.string wd) := by
    intro s X hs HX
    refine (quote_any s X (by omega)).mono ?_
    rintro e X' ⟨rfl, hb⟩
    exact ⟨rfl, HX.out.more hb, hcells _ (HX.out.more hb)⟩
  have hT : ∀ (X : World), Hid (EvBox w.heap.size w X k t m b (.slice a ts.length cap)) → Calls Tryz.prog 54 #[.slice a ts.length cap, .func (.func 53) #[] #[]] X fun e X' => e = .returned (.string ⟨(listB (tagsT ts)).toArray⟩) ∧ Hid (EvBox w.heap.size w X' k t m b (.slice a ts.length cap)) ∧ X'.cell? ⟨w.heap.size, 0, none⟩ = some (.int .i64 k) ∧ X'.cell? ⟨w.heap.size, 1, none⟩ = some (.string t) ∧ X'.cell? ⟨w.heap.size, 2, none⟩ = some (.int .i64 m) ∧ X'.cell? ⟨w.heap.size, 3, none⟩ = some (.string b) ∧ X'.cell? ⟨w.heap.size, 4, none⟩ = some (.slice a ts.length cap) ∧ X'.cell? ⟨1, j, none⟩ = some (.string wd) := by
    intro X HX
    refine (tellTags_any a cap ts X (ht.out.below HX.out.bel (Nat.le_refl _)) HLN hfew).mono ?_
    rintro e X' ⟨rfl, hb⟩
    exact ⟨rfl, HX.out.more hb, hcells _ (HX.out.more hb)⟩
  have hI : ∀ (X : World), Hid (EvBox w.heap.size w X k t m b (.slice a ts.length cap)) → Calls Tryz.prog 55 #[.int .i64 m] X fun e X' => e = .returned (.string ⟨(Lib.itoa m).toArray⟩) ∧ Hid (EvBox w.heap.size w X' k t m b (.slice a ts.length cap)) ∧ X'.cell? ⟨w.heap.size, 0, none⟩ = some (.int .i64 k) ∧ X'.cell? ⟨w.heap.size, 1, none⟩ = some (.string t) ∧ X'.cell? ⟨w.heap.size, 2, none⟩ = some (.int .i64 m) ∧ X'.cell? ⟨w.heap.size, 3, none⟩ = some (.string b) ∧ X'.cell? ⟨w.heap.size, 4, none⟩ = some (.slice a ts.length cap) ∧ X'.cell? ⟨1, j, none⟩ = some (.string wd) := by
    intro X HX
    refine (Tryz.strconv_Itoa m (by omega) (by omega) X (hL.out.pows.below HX.out.bel (Nat.le_refl _))).mono ?_
    rintro e X' ⟨rfl, q, os, rfl⟩
    have hb := Lib.below_grow X.heap.size X (Nat.le_refl _) q os
    exact ⟨rfl, HX.out.more hb, hcells _ (HX.out.more hb)⟩
  obtain ⟨c0, c1, c2, c3, c4, c5⟩ := hcells _ HT0.out
  have hq0 : ∀ s : ByteArray, s.size ≤ 60 → (qB s.data.toList).length ≤ 122 := fun s hs => by have := qB_len s.data.toList; simp at this; omega
  have hq1 := hq0 b hbd
  have hq2 := hq0 wd hwd
  have hq3 := hq0 t htk
  have hq4 : (listB (tagsT ts)).length ≤ 600 := by
    have h1 := jn_len (tagsT_short HLN.out)
    rw [tagsT_len] at h1
    have h2 : ts.length * 123 ≤ 4 * 123 := Nat.mul_le_mul_right _ hfew
    simp only [listB, List.length_cons, List.length_append, List.length_nil]
    omega
  have hq5 := itoa_len ht0 ht1
  clear hq0
  clear hcells
  obtain ⟨S1, hS1, HS1⟩ := catted ⟨#[123, 34, 98, 111, 100, 121, 34, 58]⟩ ⟨(qB b.data.toList).toArray⟩ lit1 _ rfl rfl (by simp only [lit1, List.length_cons, List.length_nil]; omega)
  obtain ⟨S2, hS2, HS2⟩ := catted S1 ⟨#[44, 34, 107, 105, 110, 100, 34, 58]⟩ _ lit2 HS1 rfl (by simp only [lit1, lit2, List.length_append, List.length_cons, List.length_nil]; omega)
  obtain ⟨S3, hS3, HS3⟩ := catted S2 ⟨(qB wd.data.toList).toArray⟩ _ _ HS2 rfl (by simp only [lit1, lit2, List.length_append, List.length_cons, List.length_nil]; omega)
  obtain ⟨S4, hS4, HS4⟩ := catted S3 ⟨#[44, 34, 116, 97, 103, 115, 34, 58]⟩ _ lit3 HS3 rfl (by simp only [lit1, lit2, lit3, List.length_append, List.length_cons, List.length_nil]; omega)
  obtain ⟨S5, hS5, HS5⟩ := catted S4 ⟨(listB (tagsT ts)).toArray⟩ _ _ HS4 rfl (by simp only [lit1, lit2, lit3, List.length_append, List.length_cons, List.length_nil]; omega)
  obtain ⟨S6, hS6, HS6⟩ := catted S5 ⟨#[44, 34, 116, 97, 115, 107, 34, 58]⟩ _ lit4 HS5 rfl (by simp only [lit1, lit2, lit3, lit4, List.length_append, List.length_cons, List.length_nil]; omega)
  obtain ⟨S7, hS7, HS7⟩ := catted S6 ⟨(qB t.data.toList).toArray⟩ _ _ HS6 rfl (by simp only [lit1, lit2, lit3, lit4, List.length_append, List.length_cons, List.length_nil]; omega)
  obtain ⟨S8, hS8, HS8⟩ := catted S7 ⟨#[44, 34, 116, 105, 109, 101, 34, 58]⟩ _ lit5 HS7 rfl (by simp only [lit1, lit2, lit3, lit4, lit5, List.length_append, List.length_cons, List.length_nil]; omega)
  obtain ⟨S9, hS9, HS9⟩ := catted S8 ⟨(Lib.itoa m).toArray⟩ _ _ HS8 rfl (by simp only [lit1, lit2, lit3, lit4, lit5, List.length_append, List.length_cons, List.length_nil]; omega)
  obtain ⟨S10, hS10, HS10⟩ := catted S9 ⟨#[125]⟩ _ [125] HS9 rfl (by simp only [lit1, lit2, lit3, lit4, lit5, List.length_append, List.length_cons, List.length_nil]; omega)
  have HF : Hid (S10 = ⟨(tellB ⟨k, t, m, b, ts⟩).toArray⟩) := bytes_inj (HS10.out.trans (by rw [HWD.out]; simp [tellB]))
  clear HS1 HS2 HS3 HS4 HS5 HS6 HS7 HS8 HS9 HS10 hq1 hq2 hq3 hq4 hq5
  go_enter Tryz.func38, Tryz.ntmps38
  go_wp2_with fail
  go_region_held (fun w' => w'.cell? ⟨w.heap.size, 0, none⟩ = some (.int .i64 k) ∧ w'.cell? ⟨w.heap.size, 1, none⟩ = some (.string t) ∧ w'.cell? ⟨w.heap.size, 2, none⟩ = some (.int .i64 m) ∧ w'.cell? ⟨w.heap.size, 3, none⟩ = some (.string b) ∧ w'.cell? ⟨w.heap.size, 4, none⟩ = some (.slice a ts.length cap) ∧ w'.cell? ⟨1, j, none⟩ = some (.string wd)) (go_keep)
    (first
      | (go_at_call 53; refine (hQ _ _ (by assumption) (by first | assumption | exact HT0)).mono ?_; rintro e w3 ⟨rfl, HT3, q0, q1, q2, q3, q4, q5⟩)
      | (go_at_call 54; refine (hT _ (by first | assumption | exact HT0)).mono ?_; rintro e w3 ⟨rfl, HT3, q0, q1, q2, q3, q4, q5⟩)
      | (go_at_call 55; refine (hI _ (by first | assumption | exact HT0)).mono ?_; rintro e w3 ⟨rfl, HT3, q0, q1, q2, q3, q4, q5⟩))
  all_goals
    go_wp2
    go_ret
    exact ⟨ret_str HF.out, HT3.out.bel⟩
end Go.Proofs.YtodlcnbknjldnaaGreatDoor
namespace Go.Proofs.YtodlcnbknjldnaaGreatDoor
open Go.RowKit Chron
/- a place in a text by what is left of the text from there on; -1: none -/
def pos (s : ByteArray) : Option (List UInt8) → Int
  | some r => (s.size : Int) - (r.length : Int)
  | none => -1
def Suf (s : ByteArray) (r : List UInt8) : Prop := r <:+ s.data.toList
theorem Suf.le {s : ByteArray} {r : List UInt8} (h : Suf s r) : r.length ≤ s.size := by have := h.length_le; simpa using this
theorem Suf.at {s : ByteArray} {r : List UInt8} (h : Suf s r) : s.data.toList.drop (s.size - r.length) = r := by
  have := (List.suffix_iff_eq_drop.1 h).symm
  simpa using this
theorem Suf.byte {s : ByteArray} {x : UInt8} {r : List UInt8} (h : Suf s (x :: r)) {k : Nat} (hk : k = s.size - (x :: r).length) : ∃ hlt : k < s.size, s[k] = x := by
  have h1 := h.le
  simp only [List.length_cons] at h1 hk
  have hlt : k < s.size := by omega
  refine ⟨hlt, ?_⟩
  have h2 := h.at
  simp only [List.length_cons] at h2
  rw [← hk, List.drop_eq_getElem_cons (by simpa using hlt)] at h2
  exact (List.cons.inj h2).1
theorem Suf.tail {s : ByteArray} {x : UInt8} {r : List UInt8} (h : Suf s (x :: r)) : Suf s r := (List.suffix_cons x r).trans h
theorem Suf.trans {s : ByteArray} {r t : List UInt8} (h : Suf s r) (ht : t <:+ r) : Suf s t := ht.trans h
theorem skip_blank {x : UInt8} {r : List UInt8} (h : isBlank x = true) : skipL (x :: r) = skipL r := List.dropWhile_cons_of_pos h
theorem skip_stop {x : UInt8} {r : List UInt8} (h : isBlank x = false) : skipL (x :: r) = x :: r := List.dropWhile_cons_of_neg (by simp [h])
theorem blank_iff (x : UInt8) : isBlank x = true ↔ ((x.toNat : Int) = 32 ∨ (x.toNat : Int) = 10 ∨ (x.toNat : Int) = 13 ∨ (x.toNat : Int) = 9) := by
  have key : ∀ n : Nat, n < 256 → ((x == UInt8.ofNat n) = true ↔ (x.toNat : Int) = n) := fun n hn => by
    rw [beq_iff_eq]
    constructor
    · rintro rfl; simp; omega
    · intro h; apply UInt8.toNat_inj.1; simp; omega
  simp only [isBlank, Bool.or_eq_true]
  have h1 := key 32 (by omega)
  have h2 := key 10 (by omega)
  have h3 := key 13 (by omega)
  have h4 := key 9 (by omega)
  simp only [show UInt8.ofNat 32 = 32 from rfl, show UInt8.ofNat 10 = 10 from rfl, show UInt8.ofNat 13 = 13 from rfl, show UInt8.ofNat 9 = 9 from rfl] at h1 h2 h3 h4
  rw [h1, h2, h3, h4]
  simp only [or_assoc]
  exact Iff.rfl
set_option maxRecDepth 100000 in
set_option maxHeartbeats 1000000 in
theorem behind_any (s : ByteArray) (r : List UInt8) (w : World) (h : Suf s r) (hs : s.size ≤ 1048576) :
    Calls Tryz.prog 34 #[.string s, .int .i64 (pos s (some r))] w fun e w' => e = .returned (.int .i64 (pos s (some (skipL r)))) ∧ w' = w := by
  obtain ⟨k0, hk0⟩ : ∃ k0 : Nat, pos s (some r) = k0 := ⟨s.size - r.length, by have := h.le; simp only [pos]; omega⟩
  rw [hk0]
  go_enter Tryz.func34, Tryz.ntmps34
  go_wp2
  go_loop [1] (fun i => ∃ k : Nat, k ≤ s.size ∧ i = .int .i64 k ∧ Hid (∃ t, Suf s t ∧ skipL t = skipL r ∧ k = s.size - t.length)) (fun i => s.size - (intOf i).toNat)
  case atStart => exact ⟨k0, by have := h.le; simp only [pos] at hk0; omega, rfl, r, h, rfl, by have := h.le; simp only [pos] at hk0; omega⟩
  case round =>
    obtain ⟨k, hks, rfl, HT⟩ := hrel
    clear hk0
    by_cases hlt : k < s.size
    · cases hbl : isBlank s[k]
      · have hno : ¬ ((s[k].toNat : Int) = 32 ∨ (s[k].toNat : Int) = 10 ∨ (s[k].toNat : Int) = 13 ∨ (s[k].toNat : Int) = 9) := by
          rw [← blank_iff, hbl]; simp
        have n1 : ((s[k].toNat : Int) == 32) = false := by simp; omega
        have n2 : ((s[k].toNat : Int) == 10) = false := by simp; omega
        have n3 : ((s[k].toNat : Int) == 13) = false := by simp; omega
        have n4 : ((s[k].toNat : Int) == 9) = false := by simp; omega
        have HF : Hid (pos s (some (skipL r)) = k) := by
          obtain ⟨t, h1, h2, h3⟩ := HT.out
          have hle := h1.le
          match t, h1, h2, h3, hle with
          | [], h1, h2, h3, hle => simp at h3; omega
          | x :: t', h1, h2, h3, hle =>
            obtain ⟨_, hx⟩ := h1.byte h3
            rw [← h2, skip_stop (by rw [← hx]; exact hbl)]
            show (s.size : Int) - ((x :: t').length : Int) = k
            omega
        clear hno
        go_wp2
        go_ret
        exact ⟨ret_int HF.out.symm, rfl⟩
      · have hyes := (blank_iff s[k]).1 hbl
        have HN : Hid (∃ t, Suf s t ∧ skipL t = skipL r ∧ k + 1 = s.size - t.length) := by
          obtain ⟨t, h1, h2, h3⟩ := HT.out
          have hle := h1.le
          match t, h1, h2, h3, hle with
          | [], h1, h2, h3, hle => simp at h3; omega
          | x :: t', h1, h2, h3, hle =>
            obtain ⟨_, hx⟩ := h1.byte h3
            refine ⟨t', h1.tail, by rw [← h2, skip_blank (by rw [← hx]; exact hbl)], ?_⟩
            simp only [List.length_cons] at h3 hle
            omega
        rcases hyes with h | h | h | h
        all_goals
          go_wp2
          go_round
          case rel => exact ⟨k + 1, by omega, by go_num, HN⟩
          case measure => simp [intOf]; omega
    · have HF : Hid (pos s (some (skipL r)) = k) := by
        obtain ⟨t, h1, h2, h3⟩ := HT.out
        have hle := h1.le
        have : t = [] := List.eq_nil_of_length_eq_zero (by omega)
        subst this
        rw [← h2]
        show (s.size : Int) - 0 = k
        omega
      go_wp2
      go_ret
      exact ⟨ret_int HF.out.symm, rfl⟩
set_option maxRecDepth 100000 in
set_option maxHeartbeats 1000000 in
theorem behind_no (s : ByteArray) (w : World) : Calls Tryz.prog 34 #[.string s, .int .i64 (-1)] w fun e w' => e = .returned (.int .i64 (-1)) ∧ w' = w := by
  go_enter Tryz.func34, Tryz.ntmps34
  go_wp2
  go_loop [1] (fun i => i = .int .i64 (-1)) (fun _ => 0)
  case atStart => rfl
  case round =>
    subst hrel
    go_wp2
    go_ret
    exact ⟨rfl, rfl⟩
set_option maxRecDepth 100000 in
set_option maxHeartbeats 1000000 in
theorem sign_any (s : ByteArray) (r : List UInt8) (c : UInt8) (z : Int) (hz : z = (c.toNat : Int)) (w : World) (h : Suf s r) (hs : s.size ≤ 1048576) :
    Calls Tryz.prog 32 #[.string s, .int .i64 (pos s (some r)), .int .u8 z] w fun e w' => e = .returned (.int .i64 (pos s (signL c r))) ∧ w' = w := by
  have hB := behind_any s r w h hs
  cases hc : skipL r with
  | nil =>
    rw [hc] at hB
    have hp : pos s (some []) = (s.size : Int) := by simp [pos]
    rw [hp] at hB
    have HF : Hid (pos s (signL c r) = -1) := by unfold signL; rw [hc]; rfl
    go_enter Tryz.func32, Tryz.ntmps32
    go_wp2_with (first | (go_at_call 34; refine hB.mono ?_; rintro e w' ⟨rfl, rfl⟩))
    go_ret
    exact ⟨ret_int HF.out.symm, rfl⟩
  | cons x t =>
    have hsuf : Suf s (x :: t) := h.trans (by rw [← hc]; exact skip_suf r)
    have hle := hsuf.le
    obtain ⟨k, hk⟩ : ∃ k : Nat, k = s.size - (x :: t).length := ⟨_, rfl⟩
    obtain ⟨hlt, hx⟩ := hsuf.byte hk
    have hp : pos s (some (x :: t)) = (k : Int) := by simp only [pos]; omega
    rw [hc, hp] at hB
    by_cases hxc : x = c
    · have HF : Hid (pos s (signL c r) = (k : Int) + 1) := by
        unfold signL
        rw [hc]
        simp only [hxc, if_true, pos]
        simp only [List.length_cons] at hk hle
        show _ = _
        omega
      have hsc : (s[k].toNat : Int) = z := by rw [hx, hxc, hz]
      have hcb : ((s[k].toNat : Int) != z) = false := by simp [hsc]
      clear hk hp hle hx hz hsc
      go_enter Tryz.func32, Tryz.ntmps32
      go_wp2_with (first | (go_at_call 34; refine hB.mono ?_; rintro e w' ⟨rfl, rfl⟩))
      go_ret
      exact ⟨ret_int HF.out.symm, rfl⟩
    · have HF : Hid (pos s (signL c r) = -1) := by
        unfold signL
        rw [hc]
        simp only [hxc, if_false, pos]
        exact trivial
      have hsc : ¬ (s[k].toNat : Int) = z := by
        rw [hx, hz]
        intro h
        exact hxc (UInt8.toNat_inj.1 (by omega))
      have hcb : ((s[k].toNat : Int) != z) = true := by simp [hsc]
      clear hk hp hle hx hz hsc
      go_enter Tryz.func32, Tryz.ntmps32
      go_wp2_with (first | (go_at_call 34; refine hB.mono ?_; rintro e w' ⟨rfl, rfl⟩))
      go_ret
      exact ⟨ret_int HF.out.symm, rfl⟩
set_option maxRecDepth 100000 in
theorem sign_no (s : ByteArray) (z : Int) (w : World) : Calls Tryz.prog 32 #[.string s, .int .i64 (-1), .int .u8 z] w fun e w' => e = .returned (.int .i64 (-1)) ∧ w' = w := by
  go_enter Tryz.func32, Tryz.ntmps32
  go_wp2_with (first | (go_at_call 34; refine (behind_no s _).mono ?_; rintro e w' ⟨rfl, rfl⟩))
  go_ret
  exact ⟨rfl, rfl⟩
/- both together -/
theorem sign_pos (s : ByteArray) (o : Option (List UInt8)) (c : UInt8) (z : Int) (hz : z = (c.toNat : Int)) (w : World) (h : ∀ r, o = some r → Suf s r) (hs : s.size ≤ 1048576) :
    Calls Tryz.prog 32 #[.string s, .int .i64 (pos s o), .int .u8 z] w fun e w' => e = .returned (.int .i64 (pos s (o.bind (signL c)))) ∧ w' = w := by
  cases o with
  | none => exact sign_no s z w
  | some r => exact sign_any s r c z hz w (h r rfl) hs
theorem hex_iff (b : UInt8) : hexD b = if 48 ≤ (b.toNat : Int) ∧ (b.toNat : Int) ≤ 57 then some (b.toNat - 48) else if 97 ≤ (b.toNat : Int) ∧ (b.toNat : Int) ≤ 102 then some (b.toNat - 87) else if 65 ≤ (b.toNat : Int) ∧ (b.toNat : Int) ≤ 70 then some (b.toNat - 55) else none := by
  unfold hexD
  simp only [Int.ofNat_le, show (48 : Int) = ((48 : Nat) : Int) from rfl, show (57 : Int) = ((57 : Nat) : Int) from rfl, show (97 : Int) = ((97 : Nat) : Int) from rfl, show (102 : Int) = ((102 : Nat) : Int) from rfl, show (65 : Int) = ((65 : Nat) : Int) from rfl, show (70 : Int) = ((70 : Nat) : Int) from rfl]
def hexI (b : UInt8) : Int := match hexD b with | some n => (n : Int) | none => -1
set_option maxRecDepth 100000 in
set_option maxHeartbeats 1000000 in
theorem digit_any (b : UInt8) (w : World) : Calls Tryz.prog 102 #[.int .u8 (b.toNat : Int)] w fun e w' => e = .returned (.int .i64 (hexI b)) ∧ w' = w := by
  have hb := b.toNat_lt
  by_cases h1 : 48 ≤ (b.toNat : Int) ∧ (b.toNat : Int) ≤ 57
  · have HF : Hid (hexI b = (b.toNat : Int) - 48) := by unfold hexI; rw [hex_iff, if_pos h1]; show ((b.toNat - 48 : Nat) : Int) = _; omega
    obtain ⟨a1, a2⟩ := h1
    go_enter Tryz.func102, Tryz.ntmps102
    go_wp2
    go_ret
    exact ⟨ret_int HF.out.symm, rfl⟩
  · by_cases h2 : 97 ≤ (b.toNat : Int) ∧ (b.toNat : Int) ≤ 102
    · have HF : Hid (hexI b = (b.toNat : Int) - 87) := by unfold hexI; rw [hex_iff, if_neg h1, if_pos h2]; show ((b.toNat - 87 : Nat) : Int) = _; omega
      obtain ⟨a1, a2⟩ := h2
      have a3 : ¬ (b.toNat : Int) ≤ 57 := by omega
      clear h1
      go_enter Tryz.func102, Tryz.ntmps102
      go_wp2
      go_ret
      exact ⟨ret_int HF.out.symm, rfl⟩
    · by_cases h3 : 65 ≤ (b.toNat : Int) ∧ (b.toNat : Int) ≤ 70
      · have HF : Hid (hexI b = (b.toNat : Int) - 55) := by unfold hexI; rw [hex_iff, if_neg h1, if_neg h2, if_pos h3]; show ((b.toNat - 55 : Nat) : Int) = _; omega
        obtain ⟨a1, a2⟩ := h3
        have a3 : ¬ (b.toNat : Int) ≤ 57 := by omega
        have a4 : ¬ 97 ≤ (b.toNat : Int) := by omega
        clear h1 h2
        go_enter Tryz.func102, Tryz.ntmps102
        go_wp2
        go_ret
        exact ⟨ret_int HF.out.symm, rfl⟩
      · have HF : Hid (hexI b = -1) := by unfold hexI; rw [hex_iff, if_neg h1, if_neg h2, if_neg h3]; exact rfl
        have HH := hide0 (And.intro h1 (And.intro h2 h3))
        clear h1 h2 h3
        go_enter Tryz.func102, Tryz.ntmps102
        go_wp2
        all_goals
          first
            | (exfalso; have := HH.out; omega)
            | (go_ret; exact ⟨ret_int HF.out.symm, rfl⟩)
end Go.Proofs.YtodlcnbknjldnaaGreatDoor
namespace Go.Proofs.YtodlcnbknjldnaaGreatDoor
open Go.RowKit Chron
def letC : Option (UInt8 × List UInt8) → Int
  | some (c, _) => (c.toNat : Int)
  | none => 0
def letP (s : ByteArray) : Option (UInt8 × List UInt8) → Int
  | some (_, r) => pos s (some r)
  | none => -1
theorem ret_two {a b c d : Int} {k l : IntKind} (h1 : a = c) (h2 : b = d) : Ending.returned (.tuple #[.int k a, .int l b]) = .returned (.tuple #[.int k c, .int l d]) := by rw [h1, h2]
theorem pos_at {s : ByteArray} {r : List UInt8} {k n : Nat} (h : Suf s r) (hk : k + n = s.size - r.length) : pos s (some r) = (k : Int) + n := by have := h.le; simp only [pos]; omega
theorem two_bytes {s : ByteArray} {k : Nat} (h : k + 1 < s.size) : (s.extract k (k + 2)).toList = [s[k], s[k + 1]] := by
  rw [ByteArray.toList_eq]
  have hl : k < s.data.toList.length := by simp; omega
  have hl2 : k + 1 < s.data.toList.length := by simpa using h
  have e : (s.extract k (k + 2)).data.toList = (s.data.toList.drop k).take 2 := by simp
  rw [e, List.drop_eq_getElem_cons hl, List.drop_eq_getElem_cons hl2]; rfl
theorem coded_short {l : List UInt8} (h : l.length < 4) : codedL l = none := by
  match l, h with
  | [], _ => rfl
  | [_], _ => rfl
  | [_, _], _ => rfl
  | [_, _, _], _ => rfl
set_option maxRecDepth 100000 in
set_option maxHeartbeats 2000000 in
theorem letter_any (s : ByteArray) (x : UInt8) (r : List UInt8) (w : World) (h : Suf s (x :: r)) (hs : s.size ≤ 1048576) :
    Calls Tryz.prog 90 #[.string s, .int .i64 (pos s (some (x :: r)))] w fun e w' => e = .returned (.tuple #[.int .u8 (letC (letterL (x :: r))), .int .i64 (letP s (letterL (x :: r)))]) ∧ w' = w := by
  obtain ⟨k, hk⟩ : ∃ k : Nat, k = s.size - (x :: r).length := ⟨_, rfl⟩
  have hle := h.le
  obtain ⟨hlt, hx⟩ := h.byte hk
  have hp : pos s (some (x :: r)) = (k : Int) := by have := pos_at (k := k) (n := 0) h (by omega); simpa using this
  rw [hp]
  have HX := hide0 hx
  have HK : Hid (k + 1 = s.size - r.length) := by simp only [List.length_cons] at hk hle; show _ = _; omega
  by_cases hx92 : x = 92
  · subst hx92
    have hs92 : (s[k].toNat : Int) = 92 := by rw [hx]; rfl
    clear hx
    match r, h, HK with
    | [], h, HK =>
      have hend : ¬ (k : Int) + 1 < (s.size : Int) := by have := HK.out; simp only [List.length_nil] at this; omega
      clear hk hle hp
      go_enter Tryz.func90, Tryz.ntmps90
      go_wp2
      go_ret2
      exact ⟨rfl, rfl⟩
    | c :: r2, h, HK =>
      obtain ⟨hlt1, hc⟩ := h.tail.byte HK.out
      have HK2 : Hid (k + 2 = s.size - r2.length) := by have := HK.out; have := h.tail.le; simp only [List.length_cons] at *; show _ = _; omega
      have hl1 : (k : Int) + 1 < (s.size : Int) := by omega
      have HS2 := hide0 h.tail.tail
      clear hk hle hp h
      by_cases hc3 : c = 34 ∨ c = 92 ∨ c = 47
      · have HF : Hid (letterL (92 :: c :: r2) = some (c, r2)) := by simp [Hid, letterL, hc3]
        have hcv : (s[k + 1].toNat : Int) = 34 ∨ (s[k + 1].toNat : Int) = 92 ∨ (s[k + 1].toNat : Int) = 47 := by
          rw [hc]
          rcases hc3 with rfl | rfl | rfl
          · exact .inl rfl
          · exact .inr (.inl rfl)
          · exact .inr (.inr rfl)
        have HC := hide0 hc
        clear hc hc3
        rcases hcv with hcv | hcv | hcv
        all_goals
          go_enter Tryz.func90, Tryz.ntmps90
          go_wp2
          go_ret2
          refine ⟨ret_two ?_ ?_, rfl⟩
          · rw [HF.out]; show _ = (c.toNat : Int); rw [← HC.out]; omega
          · rw [HF.out]; exact (pos_at (n := 2) HS2.out HK2.out).symm
      · have hn : ¬ (s[k + 1].toNat : Int) = 34 ∧ ¬ (s[k + 1].toNat : Int) = 92 ∧ ¬ (s[k + 1].toNat : Int) = 47 := by
          rw [hc]
          refine ⟨fun h => hc3 (.inl (UInt8.toNat_inj.1 ?_)), fun h => hc3 (.inr (.inl (UInt8.toNat_inj.1 ?_))), fun h => hc3 (.inr (.inr (UInt8.toNat_inj.1 ?_)))⟩
          · show c.toNat = 34; omega
          · show c.toNat = 92; omega
          · show c.toNat = 47; omega
        have n1 : ((s[k + 1].toNat : Int) == 34) = false := by simp [hn.1]
        have n2 : ((s[k + 1].toNat : Int) == 92) = false := by simp [hn.2.1]
        have n3 : ((s[k + 1].toNat : Int) == 47) = false := by simp [hn.2.2]
        clear hn
        by_cases hcu : c = 117
        · subst hcu
          have hu : ((s[k + 1].toNat : Int) != 117) = false := by rw [hc]; rfl
          have HL0 : Hid (letterL (92 :: 117 :: r2) = plainL (codedL r2)) := by simp [Hid, letterL]
          clear hc hc3
          by_cases h4 : r2.length < 4
          · have HF : Hid (letterL (92 :: 117 :: r2) = none) := by rw [HL0.out, coded_short h4]; exact rfl
            have hend : (s.size : Int) < (k : Int) + 6 := by have := HK2.out; have := HS2.out.le; omega
            clear h4
            go_enter Tryz.func90, Tryz.ntmps90
            go_wp2
            go_ret2
            exact ⟨ret_two (by rw [HF.out]; rfl) (by rw [HF.out]; rfl), rfl⟩
          · match r2, HK2, HS2, HL0, h4 with
            | [], HK2, HS2, HL0, h4 => simp at h4
            | [_], HK2, HS2, HL0, h4 => simp at h4
            | [_, _], HK2, HS2, HL0, h4 => simp at h4
            | [_, _, _], HK2, HS2, HL0, h4 => simp at h4
            | z :: y :: a :: b :: r3, HK2, HS2, HL0, _ =>
              have hle := HS2.out.le
              have hkk := HK2.out
              simp only [List.length_cons] at hle hkk
              obtain ⟨lt2, hz⟩ := HS2.out.byte (k := k + 2) (by simp only [List.length_cons]; omega)
              obtain ⟨lt3, hy⟩ := HS2.out.tail.byte (k := k + 3) (by simp only [List.length_cons]; omega)
              obtain ⟨lt4, ha⟩ := HS2.out.tail.tail.byte (k := k + 4) (by simp only [List.length_cons]; omega)
              obtain ⟨lt5, hb⟩ := HS2.out.tail.tail.tail.byte (k := k + 5) (by simp only [List.length_cons]; omega)
              obtain ⟨P, hext, HPP⟩ : ∃ P, (s.extract (k + 2) (k + 4)).toList = P ∧ Hid (P = [z, y]) := ⟨_, rfl, by
                have := two_bytes (s := s) (k := k + 2) (by omega)
                show _ = _
                rw [this, hz, hy]⟩
              have hend : ¬ (s.size : Int) < (k : Int) + 6 := by omega
              have HP6 := hide0 (pos_at (k := k) (n := 6) HS2.out.tail.tail.tail.tail (by omega))
              clear hle hkk hz hy
              by_cases hzy : z = 48 ∧ y = 48
              · obtain ⟨rfl, rfl⟩ := hzy
                have heq : (P == [48, 48]) = true := by rw [HPP.out]; rfl
                have HL1 : Hid (letterL (92 :: 117 :: 48 :: 48 :: a :: b :: r3) = plainL (match hexD a, hexD b with | some m, some n => some (UInt8.ofNat (16 * m + n), r3) | _, _ => none)) := by rw [Hid, HL0.out, codedL, if_pos ⟨rfl, rfl⟩]; rfl
                obtain ⟨A, hA, hA1, HAA⟩ : ∃ A : Int, Hid (hexI a = A) ∧ (-1 ≤ A ∧ A < 16) ∧ Hid (hexD a = if A < 0 then none else some A.toNat) := by
                  refine ⟨hexI a, rfl, ?_, ?_⟩
                  · unfold hexI; split
                    · rename_i n e; have := hex_lt e; omega
                    · omega
                  · show _ = _
                    unfold hexI; split
                    · rename_i n e; rw [if_neg (by omega), e]; simp
                    · rename_i e; rw [if_pos (by omega), e]
                obtain ⟨B, hB, hB1, HBB⟩ : ∃ A : Int, Hid (hexI b = A) ∧ (-1 ≤ A ∧ A < 16) ∧ Hid (hexD b = if A < 0 then none else some A.toNat) := by
                  refine ⟨hexI b, rfl, ?_, ?_⟩
                  · unfold hexI; split
                    · rename_i n e; have := hex_lt e; omega
                    · omega
                  · show _ = _
                    unfold hexI; split
                    · rename_i n e; rw [if_neg (by omega), e]; simp
                    · rename_i e; rw [if_pos (by omega), e]
                have hD : ∀ (q : UInt8) (X : World), Calls Tryz.prog 102 #[.int .u8 (q.toNat : Int)] X fun e w' => e = .returned (.int .i64 (hexI q)) ∧ w' = X := fun q X => digit_any q X
                have hD1 := hD s[k + 4] w
                have hD2 := hD s[k + 5] w
                rw [show hexI s[k + 4] = A by rw [ha]; exact hA.out] at hD1
                rw [show hexI s[k + 5] = B by rw [hb]; exact hB.out] at hD2
                clear ha hb hD
                obtain ⟨hA2, hA3⟩ := hA1
                obtain ⟨hB2, hB3⟩ := hB1
                by_cases hgood : 0 ≤ A ∧ 0 ≤ B ∧ 32 ≤ 16 * A + B ∧ 16 * A + B ≤ 126
                · obtain ⟨g1, g2, g3, g4⟩ := hgood
                  have HF : Hid (letterL (92 :: 117 :: 48 :: 48 :: a :: b :: r3) = some (UInt8.ofNat (16 * A + B).toNat, r3)) := by
                    show _ = _
                    rw [HL1.out, HAA.out, HBB.out, if_neg (by omega), if_neg (by omega)]
                    have e : 16 * A.toNat + B.toNat = (16 * A + B).toNat := by omega
                    simp only [e, plainL]
                    rw [if_pos]
                    simp only [byteOk, Bool.and_eq_true, decide_eq_true_eq, UInt8.toNat_ofNat']
                    omega
                  go_enter Tryz.func90, Tryz.ntmps90
                  go_wp2_with fail
                  refine hD1.mono ?_
                  rintro e w1 ⟨rfl, hw1⟩
                  have hw2 := hw1.symm
                  subst hw2
                  go_wp2_with fail
                  refine hD2.mono ?_
                  rintro e w2 ⟨rfl, hw3⟩
                  have hw4 := hw3.symm
                  subst hw4
                  clear hD1 hD2 hw1 hw3
                  go_wp2
                  go_ret2
                  refine ⟨ret_two ?_ ?_, rfl⟩
                  · rw [HF.out]; show _ = ((UInt8.ofNat (16 * A + B).toNat).toNat : Int); simp; omega
                  · rw [HF.out]; exact HP6.out.symm
                · have HF : Hid (letterL (92 :: 117 :: 48 :: 48 :: a :: b :: r3) = none) := by
                    show _ = _
                    rw [HL1.out, HAA.out, HBB.out]
                    by_cases g1 : A < 0
                    · rw [if_pos g1]; rfl
                    · by_cases g2 : B < 0
                      · rw [if_neg g1, if_pos g2]; rfl
                      · rw [if_neg g1, if_neg g2]
                        have e : 16 * A.toNat + B.toNat = (16 * A + B).toNat := by omega
                        simp only [e, plainL]
                        rw [if_neg]
                        simp only [byteOk, Bool.and_eq_true, decide_eq_true_eq, UInt8.toNat_ofNat']
                        omega
                  have HG := hide0 hgood
                  clear hgood
                  go_enter Tryz.func90, Tryz.ntmps90
                  go_wp2_with fail
                  refine hD1.mono ?_
                  rintro e w1 ⟨rfl, hw1⟩
                  have hw2 := hw1.symm
                  subst hw2
                  go_wp2_with fail
                  refine hD2.mono ?_
                  rintro e w2 ⟨rfl, hw3⟩
                  have hw4 := hw3.symm
                  subst hw4
                  clear hD1 hD2 hw1 hw3
                  go_wp2
                  all_goals
                    first
                      | (exfalso; have := HG.out; omega)
                      | (go_ret2; exact ⟨ret_two (by rw [HF.out]; rfl) (by rw [HF.out]; rfl), rfl⟩)
              · have hne : (P == [48, 48]) = false := by rw [HPP.out, beq_eq_false_iff_ne]; simp only [ne_eq, List.cons.injEq, and_true]; exact hzy
                have HF : Hid (letterL (92 :: 117 :: z :: y :: a :: b :: r3) = none) := by rw [HL0.out]; simp [Hid, codedL, hzy, plainL]
                clear ha hb hzy
                go_enter Tryz.func90, Tryz.ntmps90
                go_wp2
                go_ret2
                exact ⟨ret_two (by rw [HF.out]; rfl) (by rw [HF.out]; rfl), rfl⟩
        · have HF : Hid (letterL (92 :: c :: r2) = none) := by simp [Hid, letterL, hc3, hcu]
          have hu : ((s[k + 1].toNat : Int) != 117) = true := by
            rw [hc]
            simp only [bne_iff_ne, ne_eq]
            intro h
            exact hcu (UInt8.toNat_inj.1 (by show c.toNat = 117; omega))
          clear hc hc3 hcu
          go_enter Tryz.func90, Tryz.ntmps90
          go_wp2
          go_ret2
          exact ⟨ret_two (by rw [HF.out]; rfl) (by rw [HF.out]; rfl), rfl⟩
  · have hs92 : ((s[k].toNat : Int) != 92) = true := by
      rw [hx]
      simp only [bne_iff_ne, ne_eq]
      intro h
      exact hx92 (UInt8.toNat_inj.1 (by show x.toNat = 92; omega))
    have HS := hide0 h
    cases hok : byteOk x
    · have HF : Hid (letterL (x :: r) = none) := by simp [Hid, letterL, hx92, plainL, hok]
      have hno : (s[k].toNat : Int) < 32 ∨ 126 < (s[k].toNat : Int) := by
        rw [hx]
        simp only [byteOk, Bool.and_eq_false_iff, decide_eq_false_iff_not] at hok
        omega
      clear hx hx92 hok hp h hk hle
      go_enter Tryz.func90, Tryz.ntmps90
      rcases hno with hno | hno
      all_goals
        go_wp2
        go_ret2
        exact ⟨ret_two (by rw [HF.out]; rfl) (by rw [HF.out]; rfl), rfl⟩
    · have HF : Hid (letterL (x :: r) = some (x, r)) := by simp [Hid, letterL, hx92, plainL, hok]
      have hyes : 32 ≤ (s[k].toNat : Int) ∧ (s[k].toNat : Int) ≤ 126 := by
        rw [hx]
        simpa only [byteOk, Bool.and_eq_true, decide_eq_true_eq] using hok
      obtain ⟨hy1, hy2⟩ := hyes
      have y1 : ¬ (s[k].toNat : Int) < 32 := by omega
      have y2 : ¬ 126 < (s[k].toNat : Int) := by omega
      clear hx hx92 hok hp h hk hle
      go_enter Tryz.func90, Tryz.ntmps90
      go_wp2
      go_ret2
      exact ⟨ret_two (by rw [HF.out]; show _ = (x.toNat : Int); rw [← HX.out]) (by rw [HF.out]; exact (pos_at (n := 1) HS.out.tail HK.out).symm), rfl⟩
end Go.Proofs.YtodlcnbknjldnaaGreatDoor
namespace Go.Proofs.YtodlcnbknjldnaaGreatDoor
open Go.RowKit Chron
def qS : Option (List UInt8 × List UInt8) → ByteArray
  | some (b, _) => ba b
  | none => ⟨#[]⟩
def qP : Option (List UInt8 × List UInt8) → Option (List UInt8)
  | some (_, r) => some r
  | none => none
theorem ret_sp {a b : ByteArray} {c d : Int} {l : IntKind} (h1 : a = b) (h2 : c = d) : Ending.returned (.tuple #[.string a, .int l c]) = .returned (.tuple #[.string b, .int l d]) := by rw [h1, h2]
theorem letC_byte (o : Option (UInt8 × List UInt8)) : ∃ c : UInt8, letC o = (c.toNat : Int) := by
  match o with
  | some (c, _) => exact ⟨c, rfl⟩
  | none => exact ⟨0, rfl⟩
theorem conv_nil (w : World) : (convert 56 9 (.slice none 0 0)).run Tryz.prog w = .ok (.string ⟨#[]⟩) w := by
  kernel_rfl
def left (n : Nat) (i : Int) : Nat := if i < 0 then 0 else n + 1 - i.toNat
/- where the reading within quotes stands -/
def InAt (s : ByteArray) (r : List UInt8) (acc : List UInt8) : Option (List UInt8) → Prop
  | some t => Suf s t ∧ acc.length + t.length ≤ s.size ∧ inL r = (inL t).map fun p => (acc ++ p.1, p.2)
  | none => inL r = none
set_option maxRecDepth 100000 in
set_option maxHeartbeats 2000000 in
theorem quoteRef_any (s : ByteArray) (o : Option (List UInt8)) (w : World) (h : ∀ r, o = some r → Suf s r) (hs : s.size ≤ 1048576) :
    Calls Tryz.prog 67 #[.string s, .int .i64 (pos s o)] w fun e w' => e = .returned (.tuple #[.string (qS (o.bind quoteL)), .int .i64 (pos s (qP (o.bind quoteL)))]) ∧ Below w.heap.size w w' := by
  obtain ⟨i0, hi, hz0, hz1, hz2⟩ := info_parts infoByte
  have hS := sign_pos s o 34 34 rfl w h hs
  cases hq : o.bind (signL 34) with
  | none =>
    rw [hq] at hS
    have HF : Hid (o.bind quoteL = none) := by
      cases o with
      | none => rfl
      | some r => simp only [Option.bind_some] at hq ⊢; rw [Hid, quoteL, hq]
    go_enter Tryz.func67, Tryz.ntmps67
    go_wp2_with fail
    refine hS.mono ?_
    rintro e w1 ⟨rfl, hw1⟩
    have hw2 := hw1.symm
    subst hw2
    clear hw1 hS
    have hm1 : pos s none = -1 := rfl
    rw [hm1]
    go_wp2_with fail
    go_loopw [1, 6] (fun i v wx => i = .int .i64 (-1) ∧ v = .slice none 0 0 ∧ wx = w) (fun _ _ _ => 0)
    case atStart => exact ⟨rfl, rfl, rfl⟩
    case round =>
      obtain ⟨rfl, rfl, hwx⟩ := hrel
      have hwy := hwx.symm
      subst hwy
      go_wp2
      go_ret2
      exact ⟨ret_sp (by rw [HF.out]; rfl) (by rw [HF.out]; rfl), Below.refl _ _⟩
  | some r =>
    have hr : Suf s r := by
      cases o with
      | none => cases hq
      | some r0 => exact (h r0 rfl).trans (sign_suf hq).1
    have HQ : Hid (o.bind quoteL = inL r) := by
      cases o with
      | none => cases hq
      | some r0 => simp only [Option.bind_some] at hq ⊢; rw [Hid, quoteL, hq]
    rw [hq] at hS
    clear hq h
    go_enter Tryz.func67, Tryz.ntmps67
    go_wp2_with fail
    refine hS.mono ?_
    rintro e w1 ⟨rfl, hw1⟩
    have hw2 := hw1.symm
    subst hw2
    clear hw1 hS
    go_wp2_with fail
    go_loopw [1, 6] (fun i v wx => ∃ (p : Option (List UInt8)) (acc : List UInt8), i = .int .i64 (pos s p) ∧ acc.length ≤ 1048577 ∧ Hid (InAt s r acc p) ∧ Hid (acc = [] → v = .slice none 0 0) ∧ wx.ownsRow w.heap.size 5 1 v acc.length (Lib.byteCells acc) ∧ Below w.heap.size w wx) (fun i _ _ => left s.size (intOf i))
    case atStart => exact ⟨some r, [], rfl, by decide, ⟨hr, by have := hr.le; simpa using this, by simp⟩, fun _ => rfl, World.ownsRow_nil _ _ _ _, Below.refl _ _⟩
    case round =>
      obtain ⟨p, acc, rfl, hacc, HI, HV, hown, hbl⟩ := hrel
      have HB := hide0 hbl
      have hsz := hbl.size
      clear hbl
      match p, HI with
      | none, HI =>
        have HF : Hid (o.bind quoteL = none) := by rw [HQ.out]; exact HI.out
        have hm1 : pos s none = -1 := rfl
        rw [hm1]
        go_wp2
        go_ret2
        exact ⟨ret_sp (by rw [HF.out]; rfl) (by rw [HF.out]; rfl), HB.out⟩
      | some [], HI =>
        have HF : Hid (o.bind quoteL = none) := by
          rw [HQ.out]
          have := HI.out.2.2
          rw [in_nil] at this
          exact this
        have hm1 : pos s (some []) = (s.size : Int) := by simp [pos]
        rw [hm1]
        go_wp2
        go_ret2
        exact ⟨ret_sp (by rw [HF.out]; rfl) (by rw [HF.out]; rfl), HB.out⟩
      | some (x :: t), HI =>
        have hsuf := HI.out.1
        obtain ⟨k, hk⟩ : ∃ k : Nat, k = s.size - (x :: t).length := ⟨_, rfl⟩
        have hle := hsuf.le
        obtain ⟨hlt, hx⟩ := hsuf.byte hk
        have hp : pos s (some (x :: t)) = (k : Int) := by have := pos_at (k := k) (n := 0) hsuf (by omega); simpa using this
        have hL := letter_any s x t
        by_cases hx34 : x = 34
        · have HF : Hid (o.bind quoteL = some (acc, t)) := by
            rw [HQ.out]
            have := HI.out.2.2
            rw [hx34, in_end] at this
            exact hide0 (by simpa using this)
          have hs34 : (s[k].toNat : Int) = 34 := by rw [hx, hx34]; rfl
          have HP1 := hide0 (pos_at (k := k) (n := 1) hsuf.tail (by simp only [List.length_cons] at hk hle; omega))
          rw [hp]
          clear hk hle hp hx hL
          by_cases hne : acc = []
          · have hv := HV.out hne
            subst hv
            have hconv : (convert 56 9 (.slice none 0 0)).run Tryz.prog wr = .ok (.string ⟨#[]⟩) wr := conv_nil wr
            clear hown
            go_wp2
            go_ret2
            exact ⟨ret_sp (by rw [HF.out, hne]; rfl) (by rw [HF.out]; exact HP1.out.symm), HB.out⟩
          · have hconv := conv_owned hown hne
            clear hown
            go_wp2
            go_ret2
            exact ⟨ret_sp (by rw [HF.out]; rfl) (by rw [HF.out]; exact HP1.out.symm), HB.out⟩
        · have hs34 : ((s[k].toNat : Int) == 34) = false := by
            rw [hx, beq_eq_false_iff_ne]
            intro h
            exact hx34 (UInt8.toNat_inj.1 (by show x.toNat = 34; omega))
          have hL2 := hL wr hsuf hs
          obtain ⟨c, hc⟩ := letC_byte (letterL (x :: t))
          rw [hc, hp] at hL2
          have hN : Hid (InAt s r (acc ++ [c]) ((letterL (x :: t)).map (·.2))) := by
            have h3 := HI.out.2.2
            cases hl : letterL (x :: t) with
            | none => rw [in_bad hx34 hl] at h3; exact h3
            | some q =>
              obtain ⟨c', t'⟩ := q
              rw [hl] at hc
              have hcc : c' = c := UInt8.toNat_inj.1 (by simp only [letC] at hc; omega)
              subst hcc
              have hsf := letter_suf hl
              have hlt2 := hsf.2
              refine ⟨hsuf.trans hsf.1, ?_, ?_⟩
              · have := HI.out.2.1
                simp only [List.length_append, List.length_cons, List.length_nil] at this hlt2 ⊢
                omega
              · rw [h3, in_step hx34 hl]
                simp [Option.map_map, Function.comp_def]
          have HPL : Hid (letP s (letterL (x :: t)) = pos s ((letterL (x :: t)).map (·.2))) := by
            cases letterL (x :: t) with
            | none => rfl
            | some q => rfl
          have HLT : Hid (left s.size (pos s ((letterL (x :: t)).map (·.2))) < left s.size (k : Int)) := by
            cases hl : letterL (x :: t) with
            | none =>
              show left s.size (-1) < left s.size k
              simp only [left]
              rw [if_pos (by omega), if_neg (by omega)]
              omega
            | some q =>
              obtain ⟨c', t'⟩ := q
              have hsf := letter_suf hl
              have hlt2 := hsf.2
              have hle2 := (hsuf.trans hsf.1).le
              show left s.size ((s.size : Int) - (t'.length : Int)) < left s.size k
              simp only [left]
              rw [if_neg (by omega), if_neg (by omega)]
              simp only [List.length_cons] at hlt2 hk hle
              omega
          have hal : acc.length + 1 ≤ 1048577 := by
            have := HI.out.2.1
            simp only [List.length_cons] at this
            omega
          rw [hp]
          have HK := hide0 hk
          clear hk hle hp hx hL hc hx34
          go_wp2_with fail
          refine hL2.mono ?_
          rintro e w2 ⟨rfl, hw3⟩
          have hw4 := hw3.symm
          subst hw4
          clear hL2 hw3
          go_wp2_with (first | (at_builtin; refine wpList_append_own _ rfl _ _ 56 rfl w.heap.size 5 i0 (.int .u8 0) 1 1 Tryz.underlying56 hi hz0 hz1 hz2 rfl (by decide) _ _ _ rfl (hown.alloc _) ⟨wr.heap.size, 0, none⟩ 1 1 [_] rfl rfl (cell_one_new _ _ _) ?c2 ?c3 ?c4 ?c5 ?_))
          case c2 => first | (intro u hu; simp at hu; subst hu; rfl) | rfl
          case c3 => unfold maxLen; omega
          case c4 => omega
          case c5 => first | omega | (simp; omega)
          intro v' w1 hown' hgrow _
          rw [byteCells_snoc _ _ _ rfl] at hown'
          have HB1 := hide0 (Below.grown (HB.out.alloc (by omega) _) hgrow (by simp; omega) (fun j hj => by have := (hown.lt _ hj).1; omega))
          go_wp2
          go_roundw
          case rel => exact ⟨(letterL (x :: t)).map (·.2), acc ++ [c], by rw [HPL.out], by simp; omega, hN, fun h => by simp at h, by simpa using hown', HB1.out⟩
          case measure => rw [HPL.out]; exact HLT.out
end Go.Proofs.YtodlcnbknjldnaaGreatDoor
