/- What the laid variables hold; walk of canon.tellEvent. -/
import Derived.Test.YtodlcnbknjldnaaDoorJ3
import Derived.Test.YtodlcnbknjldnaaDoorD4
import Derived.Lib.LaidTab
import Derived.Lib.AppendIntMem
import Derived.WalkSmall
namespace Go.Proofs.YtodlcnbknjldnaaDoor
open Go.RowKit Chron
def Kinds (w : World) : Prop := ∀ i : Nat, i < 4 → w.cell? ⟨0, i, none⟩ = some (.string ⟨(wordB ((i : Int) + 1)).toArray⟩)
def Pows (w : World) : Prop := Lib.TabIs Tryd.prog w "internal/strconv.uint64pow10" .u64 Lib.pow10Tab
theorem gPows : Tryd.prog.globalNamed "internal/strconv.uint64pow10" = some 1 := by kernel_rfl
theorem Kinds.below {w w' : World} {B : Nat} (h : Kinds w) (hb : Below B w w') (hB : w.heap.size ≤ B) : Kinds w' := fun i hi => by
  have hi' := h i hi
  have hlt := World.block_lt_of_cell? w _ hi'
  exact (hb.cell (p := ⟨0, i, none⟩) (Nat.lt_of_lt_of_le hlt hB)).trans hi'
theorem Pows.below {w w' : World} {B : Nat} (h : Pows w) (hb : Below B w w') (hB : w.heap.size ≤ B) : Pows w' := by
  have hlt : 1 < w.heap.size := by
    have h0 := Lib.TabIs.cell h gPows 0 (by decide)
    exact World.block_lt_of_cell? w _ h0
  exact var?_below hb gPows (Nat.lt_of_lt_of_le hlt hB) h
structure LaidAt (w : World) : Prop where
  kinds : Kinds w
  pows : Pows w
theorem LaidAt.below {w w' : World} {B : Nat} (h : LaidAt w) (hb : Below B w w') (hB : w.heap.size ≤ B) : LaidAt w' := ⟨h.kinds.below hb hB, h.pows.below hb hB⟩
structure EvBox (N : Nat) (w wx : World) (k : Int) (t : ByteArray) (m : Int) (b : ByteArray) (x : Value) : Prop where
  bel : Below N w wx
  box : wx.heap[N]? = some (.cells #[.int .i64 k, .string t, .int .i64 m, .string b, x] 39)
theorem EvBox.more {N : Nat} {w wx wy : World} {k : Int} {t : ByteArray} {m : Int} {b : ByteArray} {x : Value} (h : EvBox N w wx k t m b x) (hb : Below wx.heap.size wx wy) : EvBox N w wy k t m b x := by
  have hlt := (Array.getElem?_eq_some_iff.1 h.box).1
  exact ⟨h.bel.trans (hb.mono (by omega)), (hb.block N hlt).trans h.box⟩
theorem catted (a b : ByteArray) (l r : List UInt8) (ha : Hid (a.data.toList = l)) (hb : b.data.toList = r) (h : l.length + r.length ≤ 1000000) : ∃ S : ByteArray, (∀ W : World, (Op.stringOp .add a b).run Tryd.prog W = .ok (.string S) W) ∧ Hid (S.data.toList = l ++ r) := by
  refine ⟨a ++ b, fun W => run_string_add_sum W a b ?_, ?_⟩
  · have h1 : a.size = l.length := by rw [← ha.out]; simp
    have h2 : b.size = r.length := by rw [← hb]; simp
    omega
  · show (a ++ b).data.toList = l ++ r
    rw [← ha.out, ← hb]; simp
theorem bytes_mk (l : List UInt8) : (⟨l.toArray⟩ : ByteArray).data.toList = l := by simp
set_option maxRecDepth 100000 in
set_option maxHeartbeats 2000000 in
theorem tellEvent_any (k : Int) (t : ByteArray) (m : Int) (b : ByteArray) (a : Option Addr) (cap : Nat) (ts : List ByteArray) (w : World) (ht : Hid (TagsAt w a ts)) (hE : Hid (isB ⟨k, t, m, b, ts⟩ = true)) (hL : Hid (LaidAt w)) :
    Calls Tryd.prog 21 #[.agg #[.int .i64 k, .string t, .int .i64 m, .string b, .slice a ts.length cap]] w fun e w' => e = .returned (.string ⟨(tellB ⟨k, t, m, b, ts⟩).toArray⟩) ∧ Below w.heap.size w w' := by
  obtain ⟨h1, h4, htk, _, ht0, ht1, hbd, hfew, hlines⟩ := is_known hE.out
  simp only at h1 h4 htk ht0 ht1 hbd hfew hlines
  have HLN := hide0 hlines
  clear hlines
  obtain ⟨j, hj, hj4, HJ⟩ : ∃ j : Nat, IntKind.i64.wrap (k - 1) = j ∧ j < 4 ∧ Hid ((j : Int) + 1 = k) := ⟨(k - 1).toNat, by rw [wrapI_small (by omega) (by omega)]; omega, by omega, by show _ = _; omega⟩
  obtain ⟨wd, HWD, hwd⟩ : ∃ wd : ByteArray, Hid (wd = ⟨(wordB k).toArray⟩) ∧ wd.size ≤ 60 := ⟨_, rfl, by have := word_len k; show (wordB k).length ≤ 60; omega⟩
  have HT0 : Hid (EvBox w.heap.size w (w.alloc (.cells #[.int .i64 k, .string t, .int .i64 m, .string b, .slice a ts.length cap] 39)).drew k t m b (.slice a ts.length cap)) := ⟨((Below.refl _ _).alloc (Nat.le_refl _) _).drew, heap_alloc_new w _⟩
  have hcells : ∀ X, EvBox w.heap.size w X k t m b (.slice a ts.length cap) → X.cell? ⟨w.heap.size, 0, none⟩ = some (.int .i64 k) ∧ X.cell? ⟨w.heap.size, 1, none⟩ = some (.string t) ∧ X.cell? ⟨w.heap.size, 2, none⟩ = some (.int .i64 m) ∧ X.cell? ⟨w.heap.size, 3, none⟩ = some (.string b) ∧ X.cell? ⟨w.heap.size, 4, none⟩ = some (.slice a ts.length cap) ∧ X.cell? ⟨0, j, none⟩ = some (.string wd) := by
    intro X hX
    obtain ⟨d0, d1, d2, d3, d4, _⟩ := res_cells hX.box
    have hk := hL.out.kinds j hj4
    have hlt := World.block_lt_of_cell? w _ hk
    rw [HJ.out, ← HWD.out] at hk
    exact ⟨d0, d1, d2, d3, d4, (hX.bel.cell (p := ⟨0, j, none⟩) hlt).trans hk⟩
  have hQ : ∀ (s : ByteArray) (X : World), s.size ≤ 60 → Hid (EvBox w.heap.size w X k t m b (.slice a ts.length cap)) → Calls Tryd.prog 30 #[.string s] X fun e X' => e = .returned (.string ⟨(qB s.data.toList).toArray⟩) ∧ Hid (EvBox w.heap.size w X' k t m b (.slice a ts.length cap)) ∧ X'.cell? ⟨w.heap.size, 0, none⟩ = some (.int .i64 k) ∧ X'.cell? ⟨w.heap.size, 1, none⟩ = some (.string t) ∧ X'.cell? ⟨w.heap.size, 2, none⟩ = some (.int .i64 m) ∧ X'.cell? ⟨w.heap.size, 3, none⟩ = some (.string b) ∧ X'.cell? ⟨w.heap.size, 4, none⟩ = some (.slice a ts.length cap) ∧ X'.cell? ⟨0, j, none⟩ = some (.string wd) := by
    intro s X hs HX
    refine (quote_any s X (by omega)).mono ?_
    rintro e X' ⟨rfl, hb⟩
    exact ⟨rfl, HX.out.more hb, hcells _ (HX.out.more hb)⟩
  have hT : ∀ (X : World), Hid (EvBox w.heap.size w X k t m b (.slice a ts.length cap)) → Calls Tryd.prog 31 #[.slice a ts.length cap, .func (.func 30) #[] #[]] X fun e X' => e = .returned (.string ⟨(listB (tagsT ts)).toArray⟩) ∧ Hid (EvBox w.heap.size w X' k t m b (.slice a ts.length cap)) ∧ X'.cell? ⟨w.heap.size, 0, none⟩ = some (.int .i64 k) ∧ X'.cell? ⟨w.heap.size, 1, none⟩ = some (.string t) ∧ X'.cell? ⟨w.heap.size, 2, none⟩ = some (.int .i64 m) ∧ X'.cell? ⟨w.heap.size, 3, none⟩ = some (.string b) ∧ X'.cell? ⟨w.heap.size, 4, none⟩ = some (.slice a ts.length cap) ∧ X'.cell? ⟨0, j, none⟩ = some (.string wd) := by
    intro X HX
    refine (tellTags_any a cap ts X (ht.out.below HX.out.bel (Nat.le_refl _)) HLN hfew).mono ?_
    rintro e X' ⟨rfl, hb⟩
    exact ⟨rfl, HX.out.more hb, hcells _ (HX.out.more hb)⟩
  have hI : ∀ (X : World), Hid (EvBox w.heap.size w X k t m b (.slice a ts.length cap)) → Calls Tryd.prog 32 #[.int .i64 m] X fun e X' => e = .returned (.string ⟨(Lib.itoa m).toArray⟩) ∧ Hid (EvBox w.heap.size w X' k t m b (.slice a ts.length cap)) ∧ X'.cell? ⟨w.heap.size, 0, none⟩ = some (.int .i64 k) ∧ X'.cell? ⟨w.heap.size, 1, none⟩ = some (.string t) ∧ X'.cell? ⟨w.heap.size, 2, none⟩ = some (.int .i64 m) ∧ X'.cell? ⟨w.heap.size, 3, none⟩ = some (.string b) ∧ X'.cell? ⟨w.heap.size, 4, none⟩ = some (.slice a ts.length cap) ∧ X'.cell? ⟨0, j, none⟩ = some (.string wd) := by
    intro X HX
    refine (Tryd.strconv_Itoa m (by omega) (by omega) X (hL.out.pows.below HX.out.bel (Nat.le_refl _))).mono ?_
    rintro e X' ⟨rfl, q, os, rfl⟩
    have hb := Lib.below_grow X.heap.size X (Nat.le_refl _) q os
    exact ⟨rfl, HX.out.more hb, hcells _ (HX.out.more hb)⟩
  obtain ⟨c0, c1, c2, c3, c4, c5⟩ := hcells _ HT0.out
  have hq0 : ∀ s : ByteArray, s.size ≤ 60 → (qB s.data.toList).length ≤ 122 := fun s hs => by have := qB_len s.data.toList; simp at this; omega
  have hq1 := hq0 b hbd
  have hq2 := hq0 wd hwd
  have hq3 := hq0 t htk
  have hq4 : (listB (tagsT ts)).length ≤ 600 := by
    have h1 := jn_len (tagsT_short HLN.out)
    rw [tagsT_len] at h1
    have h2 : ts.length * 123 ≤ 4 * 123 := Nat.mul_le_mul_right _ hfew
    simp only [listB, List.length_cons, List.length_append, List.length_nil]
    omega
  have hq5 := itoa_len ht0 ht1
  clear hq0
  clear hcells
  obtain ⟨S1, hS1, HS1⟩ := catted ⟨#[123, 34, 98, 111, 100, 121, 34, 58]⟩ ⟨(qB b.data.toList).toArray⟩ lit1 _ rfl rfl (by simp only [lit1, List.length_cons, List.length_nil]; omega)
  obtain ⟨S2, hS2, HS2⟩ := catted S1 ⟨#[44, 34, 107, 105, 110, 100, 34, 58]⟩ _ lit2 HS1 rfl (by simp only [lit1, lit2, List.length_append, List.length_cons, List.length_nil]; omega)
  obtain ⟨S3, hS3, HS3⟩ := catted S2 ⟨(qB wd.data.toList).toArray⟩ _ _ HS2 rfl (by simp only [lit1, lit2, List.length_append, List.length_cons, List.length_nil]; omega)
  obtain ⟨S4, hS4, HS4⟩ := catted S3 ⟨#[44, 34, 116, 97, 103, 115, 34, 58]⟩ _ lit3 HS3 rfl (by simp only [lit1, lit2, lit3, List.length_append, List.length_cons, List.length_nil]; omega)
  obtain ⟨S5, hS5, HS5⟩ := catted S4 ⟨(listB (tagsT ts)).toArray⟩ _ _ HS4 rfl (by simp only [lit1, lit2, lit3, List.length_append, List.length_cons, List.length_nil]; omega)
  obtain ⟨S6, hS6, HS6⟩ := catted S5 ⟨#[44, 34, 116, 97, 115, 107, 34, 58]⟩ _ lit4 HS5 rfl (by simp only [lit1, lit2, lit3, lit4, List.length_append, List.length_cons, List.length_nil]; omega)
  obtain ⟨S7, hS7, HS7⟩ := catted S6 ⟨(qB t.data.toList).toArray⟩ _ _ HS6 rfl (by simp only [lit1, lit2, lit3, lit4, List.length_append, List.length_cons, List.length_nil]; omega)
  obtain ⟨S8, hS8, HS8⟩ := catted S7 ⟨#[44, 34, 116, 105, 109, 101, 34, 58]⟩ _ lit5 HS7 rfl (by simp only [lit1, lit2, lit3, lit4, lit5, List.length_append, List.length_cons, List.length_nil]; omega)
  obtain ⟨S9, hS9, HS9⟩ := catted S8 ⟨(Lib.itoa m).toArray⟩ _ _ HS8 rfl (by simp only [lit1, lit2, lit3, lit4, lit5, List.length_append, List.length_cons, List.length_nil]; omega)
  obtain ⟨S10, hS10, HS10⟩ := catted S9 ⟨#[125]⟩ _ [125] HS9 rfl (by simp only [lit1, lit2, lit3, lit4, lit5, List.length_append, List.length_cons, List.length_nil]; omega)
  have HF : Hid (S10 = ⟨(tellB ⟨k, t, m, b, ts⟩).toArray⟩) := bytes_inj (HS10.out.trans (by rw [HWD.out]; simp [tellB]))
  clear HS1 HS2 HS3 HS4 HS5 HS6 HS7 HS8 HS9 HS10 hq1 hq2 hq3 hq4 hq5
  go_enter Tryd.func21, Tryd.ntmps21
  go_wp2_with fail
  go_region_held (fun w' => w'.cell? ⟨w.heap.size, 0, none⟩ = some (.int .i64 k) ∧ w'.cell? ⟨w.heap.size, 1, none⟩ = some (.string t) ∧ w'.cell? ⟨w.heap.size, 2, none⟩ = some (.int .i64 m) ∧ w'.cell? ⟨w.heap.size, 3, none⟩ = some (.string b) ∧ w'.cell? ⟨w.heap.size, 4, none⟩ = some (.slice a ts.length cap) ∧ w'.cell? ⟨0, j, none⟩ = some (.string wd)) (go_keep)
    (first
      | (go_at_call 30; refine (hQ _ _ (by assumption) (by first | assumption | exact HT0)).mono ?_; rintro e w3 ⟨rfl, HT3, q0, q1, q2, q3, q4, q5⟩)
      | (go_at_call 31; refine (hT _ (by first | assumption | exact HT0)).mono ?_; rintro e w3 ⟨rfl, HT3, q0, q1, q2, q3, q4, q5⟩)
      | (go_at_call 32; refine (hI _ (by first | assumption | exact HT0)).mono ?_; rintro e w3 ⟨rfl, HT3, q0, q1, q2, q3, q4, q5⟩))
  all_goals
    go_wp2
    go_ret
    exact ⟨ret_str HF.out, HT3.out.bel⟩
end Go.Proofs.YtodlcnbknjldnaaDoor
