/- Walks and plain facts, in the order in which they lean on one another. -/
import Derived.Test.YtdjllnhahhjgmaaDoorW01
import Derived.Test.YtdjllnhahhjgmaaDoorW03
import Derived.Lib.LaidTab
import Derived.Lib.AppendIntMem
import Derived.WalkSmall
namespace Go.Proofs.YtdjllnhahhjgmaaDoor
open Go.RowKit Chron
def Kinds (w : World) : Prop := ∀ i : Nat, i < 4 → w.cell? ⟨0, i, none⟩ = some (.string ⟨(wordB ((i : Int) + 1)).toArray⟩)
def Pows (w : World) : Prop := Lib.TabIs Tryd.prog w "internal/strconv.uint64pow10" .u64 Lib.pow10Tab
theorem gPows : Tryd.prog.globalNamed "internal/strconv.uint64pow10" = some 1 := by kernel_rfl
theorem Kinds.below {w w' : World} {B : Nat} (h : Kinds w) (hb : Below B w w') (hB : w.heap.size ≤ B) : Kinds w' := fun i hi => by
  have hi' := h i hi
  have hlt := World.block_lt_of_cell? w _ hi'
  exact (hb.cell (p := ⟨0, i, none⟩) (Nat.lt_of_lt_of_le hlt hB)).trans hi'
theorem Pows.below {w w' : World} {B : Nat} (h : Pows w) (hb : Below B w w') (hB : w.heap.size ≤ B) : Pows w' := by
  have hlt : 1 < w.heap.size := by
    have h0 := Lib.TabIs.cell h gPows 0 (by decide)
    exact World.block_lt_of_cell? w _ h0
  exact var?_below hb gPows (Nat.lt_of_lt_of_le hlt hB) h
structure LaidAt (w : World) : Prop where
  kinds : Kinds w
  pows : Pows w
theorem LaidAt.below {w w' : World} {B : Nat} (h : LaidAt w) (hb : Below B w w') (hB : w.heap.size ≤ B) : LaidAt w' := ⟨h.kinds.below hb hB, h.pows.below hb hB⟩
structure EvBox (N : Nat) (w wx : World) (k : Int) (t : ByteArray) (m : Int) (b : ByteArray) (x : Value) : Prop where
  bel : Below N w wx
  box : wx.heap[N]? = some (.cells #[.int .i64 k, .string t, .int .i64 m, .string b, x] 39)
theorem EvBox.more {N : Nat} {w wx wy : World} {k : Int} {t : ByteArray} {m : Int} {b : ByteArray} {x : Value} (h : EvBox N w wx k t m b x) (hb : Below wx.heap.size wx wy) : EvBox N w wy k t m b x := by
  have hlt := (Array.getElem?_eq_some_iff.1 h.box).1
  exact ⟨h.bel.trans (hb.mono (by omega)), (hb.block N hlt).trans h.box⟩
theorem catted (a b : ByteArray) (l r : List UInt8) (ha : Hid (a.data.toList = l)) (hb : b.data.toList = r) (h : l.length + r.length ≤ 1000000) : ∃ S : ByteArray, (∀ W : World, (Op.stringOp .add a b).run Tryd.prog W = .ok (.string S) W) ∧ Hid (S.data.toList = l ++ r) := by
  refine ⟨a ++ b, fun W => run_string_add_sum W a b ?_, ?_⟩
  · have h1 : a.size = l.length := by rw [← ha.out]; simp
    have h2 : b.size = r.length := by rw [← hb]; simp
    omega
  · show (a ++ b).data.toList = l ++ r
    rw [← ha.out, ← hb]; simp
theorem bytes_mk (l : List UInt8) : (⟨l.toArray⟩ : ByteArray).data.toList = l := by simp
set_option maxRecDepth 100000 in
set_option maxHeartbeats 2000000 in
theorem tellEvent_any (k : Int) (t : ByteArray) (m : Int) (b : ByteArray) (a : Option Addr) (cap : Nat) (ts : List ByteArray) (w : World) (ht : Hid (TagsAt w a ts)) (hE : Hid (isB ⟨k, t, m, b, ts⟩ = true)) (hL : Hid (LaidAt w)) :
    Calls Tryd.prog 21 #[.agg #[.int .i64 k, .string t, .int .i64 m, .string b, .slice a ts.length cap]] w fun e w' => e = .returned (.string ⟨(tellB ⟨k, t, m, b, ts⟩).toArray⟩) ∧ Below w.heap.size w w' := by
  obtain ⟨h1, h4, htk, _, ht0, ht1, hbd, hfew, hlines⟩ := is_known hE.out
  simp only at h1 h4 htk ht0 ht1 hbd hfew hlines
  have HLN := hide0 hlines
  clear hlines
  obtain ⟨j, hj, hj4, HJ⟩ : ∃ j : Nat, IntKind.i64.wrap (k - 1) = j ∧ j < 4 ∧ Hid ((j : Int) + 1 = k) := ⟨(k - 1).toNat, by rw [wrapI_small (by omega) (by omega)]; omega, by omega, by show _ = _; omega⟩
  obtain ⟨wd, HWD, hwd⟩ : ∃ wd : ByteArray, Hid (wd = ⟨(wordB k).toArray⟩) ∧ wd.size ≤ 60 := ⟨_, rfl, by have := word_len k; show (wordB k).length ≤ 60; omega⟩
  have HT0 : Hid (EvBox w.heap.size w (w.alloc (.cells #[.int .i64 k, .string t, .int .i64 m, .string b, .slice a ts.length cap] 39)).drew k t m b (.slice a ts.length cap)) := ⟨((Below.refl _ _).alloc (Nat.le_refl _) _).drew, heap_alloc_new w _⟩
  have hcells : ∀ X, EvBox w.heap.size w X k t m b (.slice a ts.length cap) → X.cell? ⟨w.heap.size, 0, none⟩ = some (.int .i64 k) ∧ X.cell? ⟨w.heap.size, 1, none⟩ = some (.string t) ∧ X.cell? ⟨w.heap.size, 2, none⟩ = some (.int .i64 m) ∧ X.cell? ⟨w.heap.size, 3, none⟩ = some (.string b) ∧ X.cell? ⟨w.heap.size, 4, none⟩ = some (.slice a ts.length cap) ∧ X.cell? ⟨0, j, none⟩ = some (.string wd) := by
    intro X hX
    obtain ⟨d0, d1, d2, d3, d4, _⟩ := res_cells hX.box
    have hk := hL.out.kinds j hj4
    have hlt := World.block_lt_of_cell? w _ hk
    rw [HJ.out, ← HWD.out] at hk
    exact ⟨d0, d1, d2, d3, d4, (hX.bel.cell (p := ⟨0, j, none⟩) hlt).trans hk⟩
  have hQ : ∀ (s : ByteArray) (X : World), s.size ≤ 60 → Hid (EvBox w.heap.size w X k t m b (.slice a ts.length cap)) → Calls Tryd.prog 30 #[.string s] X fun e X' => e = .returned (.string ⟨(qB s.data.toList).toArray⟩) ∧ Hid (EvBox w.heap.size w X' k t m b (.slice a ts.length cap)) ∧ X'.cell? ⟨w.heap.size, 0, none⟩ = some (.int .i64 k) ∧ X'.cell? ⟨w.heap.size, 1, none⟩ = some (.string t) ∧ X'.cell? ⟨w.heap.size, 2, none⟩ = some (.int .i64 m) ∧ X'.cell? ⟨w.heap.size, 3, none⟩ = some (.string b) ∧ X'.cell? ⟨w.heap.size, 4, none⟩ = some (.slice a ts.length cap) ∧ X'.cell? ⟨0, j, none⟩ = some (.string wd) := by
    intro s X hs HX
    refine (quote_any s X (by omega)).mono ?_
    rintro e X' ⟨rfl, hb⟩
    exact ⟨rfl, HX.out.more hb, hcells _ (HX.out.more hb)⟩
  have hT : ∀ (X : World), Hid (EvBox w.heap.size w X k t m b (.slice a ts.length cap)) → Calls Tryd.prog 31 #[.slice a ts.length cap, .func (.func 30) #[] #[]] X fun e X' => e = .returned (.string ⟨(listB (tagsT ts)).toArray⟩) ∧ Hid (EvBox w.heap.size w X' k t m b (.slice a ts.length cap)) ∧ X'.cell? ⟨w.heap.size, 0, none⟩ = some (.int .i64 k) ∧ X'.cell? ⟨w.heap.size, 1, none⟩ = some (.string t) ∧ X'.cell? ⟨w.heap.size, 2, none⟩ = some (.int .i64 m) ∧ X'.cell? ⟨w.heap.size, 3, none⟩ = some (.string b) ∧ X'.cell? ⟨w.heap.size, 4, none⟩ = some (.slice a ts.length cap) ∧ X'.cell? ⟨0, j, none⟩ = some (.string wd) := by
    intro X HX
    refine (tellTags_any a cap ts X (ht.out.below HX.out.bel (Nat.le_refl _)) HLN hfew).mono ?_
    rintro e X' ⟨rfl, hb⟩
    exact ⟨rfl, HX.out.more hb, hcells _ (HX.out.more hb)⟩
  have hI : ∀ (X : World), Hid (EvBox w.heap.size w X k t m b (.slice a ts.length cap)) → Calls Tryd.prog 32 #[.int .i64 m] X fun e X' => e = .returned (.string ⟨(Lib.itoa m).toArray⟩) ∧ Hid (EvBox w.heap.size w X' k t m b (.slice a ts.length cap)) ∧ X'.cell? ⟨w.heap.size, 0, none⟩ = some (.int .i64 k) ∧ X'.cell? ⟨w.heap.size, 1, none⟩ = some (.string t) ∧ X'.cell? ⟨w.heap.size, 2, none⟩ = some (.int .i64 m) ∧ X'.cell? ⟨w.heap.size, 3, none⟩ = some (.string b) ∧ X'.cell? ⟨w.heap.size, 4, none⟩ = some (.slice a ts.length cap) ∧ X'.cell? ⟨0, j, none⟩ = some (.string wd) := by
    intro X HX
    refine (Tryd.strconv_Itoa m (by omega) (by omega) X (hL.out.pows.below HX.out.bel (Nat.le_refl _))).mono ?_
    rintro e X' ⟨rfl, q, os, rfl⟩
    have hb := Lib.below_grow X.heap.size X (Nat.le_refl _) q os
    exact ⟨rfl, HX.out.more hb, hcells _ (HX.out.more hb)⟩
  obtain ⟨c0, c1, c2, c3, c4, c5⟩ := hcells _ HT0.out
  have hq0 : ∀ s : ByteArray, s.size ≤ 60 → (qB s.data.toList).length ≤ 122 := fun s hs => by have := qB_len s.data.toList; simp at this; omega
  have hq1 := hq0 b hbd
  have hq2 := hq0 wd hwd
  have hq3 := hq0 t htk
  have hq4 : (listB (tagsT ts)).length ≤ 600 := by
    have h1 := jn_len (tagsT_short HLN.out)
    rw [tagsT_len] at h1
    have h2 : ts.length * 123 ≤ 4 * 123 := Nat.mul_le_mul_right _ hfew
    simp only [listB, List.length_cons, List.length_append, List.length_nil]
    omega
  have hq5 := itoa_len ht0 ht1
  clear hq0
  clear hcells
  obtain ⟨S1, hS1, HS1⟩ := catted ⟨#[123, 34, 98, 111, 100, 121, 34, 58]⟩ ⟨(qB b.data.toList).toArray⟩ lit1 _ rfl rfl (by simp only [lit1, List.length_cons, List.length_nil]; omega)
  obtain ⟨S2, hS2, HS2⟩ := catted S1 ⟨#[44, 34, 107, 105, 110, 100, 34, 58]⟩ _ lit2 HS1 rfl (by simp only [lit1, lit2, List.length_append, List.length_cons, List.length_nil]; omega)
  obtain ⟨S3, hS3, HS3⟩ := catted S2 ⟨(qB wd.data.toList).toArray⟩ _ _ HS2 rfl (by simp only [lit1, lit2, List.length_append, List.length_cons, List.length_nil]; omega)
  obtain ⟨S4, hS4, HS4⟩ := catted S3 ⟨#[44, 34, 116, 97, 103, 115, 34, 58]⟩ _ lit3 HS3 rfl (by simp only [lit1, lit2, lit3, List.length_append, List.length_cons, List.length_nil]; omega)
  obtain ⟨S5, hS5, HS5⟩ := catted S4 ⟨(listB (tagsT ts)).toArray⟩ _ _ HS4 rfl (by simp only [lit1, lit2, lit3, List.length_append, List.length_cons, List.length_nil]; omega)
  obtain ⟨S6, hS6, HS6⟩ := catted S5 ⟨#[44, 34, 116, 97, 115, 107, 34, 58]⟩ _ lit4 HS5 rfl (by simp only [lit1, lit2, lit3, lit4, List.length_append, List.length_cons, List.length_nil]; omega)
  obtain ⟨S7, hS7, HS7⟩ := catted S6 ⟨(qB t.data.toList).toArray⟩ _ _ HS6 rfl (by simp only [lit1, lit2, lit3, lit4, List.length_append, List.length_cons, List.length_nil]; omega)
  obtain ⟨S8, hS8, HS8⟩ := catted S7 ⟨#[44, 34, 116, 105, 109, 101, 34, 58]⟩ _ lit5 HS7 rfl (by simp only [lit1, lit2, lit3, lit4, lit5, List.length_append, List.length_cons, List.length_nil]; omega)
  obtain ⟨S9, hS9, HS9⟩ := catted S8 ⟨(Lib.itoa m).toArray⟩ _ _ HS8 rfl (by simp only [lit1, lit2, lit3, lit4, lit5, List.length_append, List.length_cons, List.length_nil]; omega)
  obtain ⟨S10, hS10, HS10⟩ := catted S9 ⟨#[125]⟩ _ [125] HS9 rfl (by simp only [lit1, lit2, lit3, lit4, lit5, List.length_append, List.length_cons, List.length_nil]; omega)
  have HF : Hid (S10 = ⟨(tellB ⟨k, t, m, b, ts⟩).toArray⟩) := bytes_inj (HS10.out.trans (by rw [HWD.out]; simp [tellB]))
  clear HS1 HS2 HS3 HS4 HS5 HS6 HS7 HS8 HS9 HS10 hq1 hq2 hq3 hq4 hq5
  go_enter Tryd.func21, Tryd.ntmps21
  go_wp2_with fail
  go_region_held (fun w' => w'.cell? ⟨w.heap.size, 0, none⟩ = some (.int .i64 k) ∧ w'.cell? ⟨w.heap.size, 1, none⟩ = some (.string t) ∧ w'.cell? ⟨w.heap.size, 2, none⟩ = some (.int .i64 m) ∧ w'.cell? ⟨w.heap.size, 3, none⟩ = some (.string b) ∧ w'.cell? ⟨w.heap.size, 4, none⟩ = some (.slice a ts.length cap) ∧ w'.cell? ⟨0, j, none⟩ = some (.string wd)) (go_keep)
    (first
      | (go_at_call 30; refine (hQ _ _ (by assumption) (by first | assumption | exact HT0)).mono ?_; rintro e w3 ⟨rfl, HT3, q0, q1, q2, q3, q4, q5⟩)
      | (go_at_call 31; refine (hT _ (by first | assumption | exact HT0)).mono ?_; rintro e w3 ⟨rfl, HT3, q0, q1, q2, q3, q4, q5⟩)
      | (go_at_call 32; refine (hI _ (by first | assumption | exact HT0)).mono ?_; rintro e w3 ⟨rfl, HT3, q0, q1, q2, q3, q4, q5⟩))
  all_goals
    go_wp2
    go_ret
    exact ⟨ret_str HF.out, HT3.out.bel⟩
end Go.Proofs.YtdjllnhahhjgmaaDoor
namespace Go.Proofs.YtdjllnhahhjgmaaDoor
open Go.RowKit Chron
/- an event, and where its tags lie -/
structure Item where
  ev : Ev
  at' : Option Addr
  cap : Nat
def Item.val (i : Item) : Value := .agg #[.int .i64 i.ev.kind, .string i.ev.task, .int .i64 i.ev.time, .string i.ev.body, .slice i.at' i.ev.tags.length i.cap]
structure ItemOk (w : World) (i : Item) : Prop where
  tags : TagsAt w i.at' i.ev.tags
  short : Short i.ev.tags
  few : i.ev.tags.length * 16 ≤ 140737488351232
  task : i.ev.task.size ≤ maxLen
  body : i.ev.body.size ≤ maxLen
structure CellsAt (w : World) (b o : Nat) (i : Item) : Prop where
  c0 : w.cell? ⟨b, o, none⟩ = some (.int .i64 i.ev.kind)
  c1 : w.cell? ⟨b, o + 1, none⟩ = some (.string i.ev.task)
  c2 : w.cell? ⟨b, o + 2, none⟩ = some (.int .i64 i.ev.time)
  c3 : w.cell? ⟨b, o + 3, none⟩ = some (.string i.ev.body)
  c4 : w.cell? ⟨b, o + 4, none⟩ = some (.slice i.at' i.ev.tags.length i.cap)
def EvsAt (w : World) (a : Option Addr) (l : List Item) : Prop :=
  0 < l.length → ∃ b off, a = some ⟨b, off, none⟩ ∧ ∀ k i, l[k]? = some i → CellsAt w b (off + k * 5) i ∧ ItemOk w i
def evs (l : List Item) : List Ev := l.map (·.ev)
theorem ItemOk.below {w w' : World} {i : Item} {B : Nat} (h : ItemOk w i) (hb : Below B w w') (hB : w.heap.size ≤ B) : ItemOk w' i := ⟨h.tags.below hb hB, h.short, h.few, h.task, h.body⟩
theorem CellsAt.below {w w' : World} {b o : Nat} {i : Item} {B : Nat} (h : CellsAt w b o i) (hb : Below B w w') (hB : w.heap.size ≤ B) : CellsAt w' b o i := by
  have hlt := Nat.lt_of_lt_of_le (World.block_lt_of_cell? w _ h.c0) hB
  exact ⟨(hb.cell (p := ⟨b, o, none⟩) hlt).trans h.c0, (hb.cell (p := ⟨b, o + 1, none⟩) hlt).trans h.c1, (hb.cell (p := ⟨b, o + 2, none⟩) hlt).trans h.c2, (hb.cell (p := ⟨b, o + 3, none⟩) hlt).trans h.c3, (hb.cell (p := ⟨b, o + 4, none⟩) hlt).trans h.c4⟩
theorem EvsAt.below {w w' : World} {a : Option Addr} {l : List Item} {B : Nat} (h : EvsAt w a l) (hb : Below B w w') (hB : w.heap.size ≤ B) : EvsAt w' a l := by
  intro h0
  obtain ⟨b, off, rfl, hc⟩ := h h0
  exact ⟨b, off, rfl, fun k i hi => ⟨(hc k i hi).1.below hb hB, (hc k i hi).2.below hb hB⟩⟩
set_option maxRecDepth 100000 in
set_option maxHeartbeats 1000000 in
theorem refuse_any (a : Option Addr) (cap : Nat) (l : List Item) (w : World) (hl : Hid (EvsAt w a l)) (hn : l.length * 72 ≤ 140737488351232) :
    Calls Tryd.prog 8 #[.slice a l.length cap] w fun e w' => e = .returned (.int .i64 (expB (evs l)).2) ∧ Below w.heap.size w w' := by
  by_cases hmany : 200 < l.length
  · have HE : Hid ((expB (evs l)).2 = 5) := by show _ = _; rw [expB, if_pos (by simpa [evs] using hmany)]
    go_enter Tryd.func8, Tryd.ntmps8
    go_wp2
    go_ret
    exact ⟨ret_int HE.out.symm, Below.refl _ _⟩
  · go_enter Tryd.func8, Tryd.ntmps8
    go_wp2
    go_loopw [10] (fun i wx => ∃ k : Nat, k ≤ l.length ∧ i = .int .i64 k ∧ Hid (∀ x ∈ (evs l).take k, isB x = true) ∧ Hid (Below w.heap.size w wx)) (fun i _ => l.length - (intOf i).toNat)
    case atStart => exact ⟨0, Nat.zero_le _, rfl, by intro x hx; simp at hx, Below.refl _ _⟩
    case round =>
      obtain ⟨k, hk, rfl, HA, HW⟩ := hrel
      by_cases hlt : k < l.length
      · obtain ⟨b1, o1, rfl, hc1⟩ := hl.out.below HW.out (Nat.le_refl _) (by omega)
        obtain ⟨⟨⟨kd, tk, tm, bd, ts⟩, ta, tc⟩, hx⟩ : ∃ x, l[k]? = some x := ⟨_, List.getElem?_eq_getElem hlt⟩
        obtain ⟨⟨c0, c1, c2, c3, c4⟩, hok⟩ := hc1 k _ hx
        simp only at c0 c1 c2 c3 c4
        have HOK := hide0 hok
        have HX := hide0 hx
        clear hc1 hok hx
        have hI := is_any kd tk tm bd ta tc ts (wr.alloc (.cells #[.int .i64 kd, .string tk, .int .i64 tm, .string bd, .slice ta ts.length tc] 39)) (HOK.out.tags.alloc _) HOK.out.short (by have := HOK.out.few; unfold maxLen; simp only at this; omega) HOK.out.task HOK.out.body
        have hsz := HW.out.size
        generalize hq : isB ⟨kd, tk, tm, bd, ts⟩ = q at hI
        have HQ : Hid _ := hq
        clear hq
        have hev : (evs l)[k]? = some ⟨kd, tk, tm, bd, ts⟩ := by rw [evs, List.getElem?_map, HX.out]; rfl
        cases q
        · have HE : Hid ((expB (evs l)).2 = 2) := by
            show _ = _
            rw [expB, if_neg (by simpa [evs] using hmany), if_neg]
            rw [List.all_eq_true]
            intro h
            have := h _ (List.mem_of_getElem? hev)
            rw [HQ.out] at this
            cases this
          clear hev
          go_wp2_with fail
          refine hI.mono ?_
          rintro e w1 ⟨rfl, hb1⟩
          go_wp2
          go_ret
          exact ⟨ret_int HE.out.symm, (HW.out.alloc hsz _).trans (hb1.mono (by rw [World.size_alloc]; omega))⟩
        · have HA2 : Hid (∀ x ∈ (evs l).take (k + 1), isB x = true) := by
            intro x hx
            have hk' := (List.getElem?_eq_some_iff.1 hev).1
            rw [List.take_succ_eq_append_getElem hk', List.mem_append] at hx
            rcases hx with hx | hx
            · exact HA.out x hx
            · simp only [List.mem_singleton] at hx
              rw [List.getElem?_eq_getElem hk'] at hev
              rw [hx, Option.some.inj hev]; exact HQ.out
          clear hev
          go_wp2_with fail
          refine hI.mono ?_
          rintro e w1 ⟨rfl, hb1⟩
          have HW1 := hide0 ((HW.out.alloc hsz _).trans (hb1.mono (by rw [World.size_alloc]; omega)))
          clear hb1 hI
          go_wp2
          go_roundw
          case rel => exact ⟨k + 1, by omega, by go_num, HA2, HW1⟩
          case measure => simp [intOf]; omega
      · have HE : Hid ((expB (evs l)).2 = 0) := by
          show _ = _
          rw [expB, if_neg (by simpa [evs] using hmany), if_pos]
          rw [List.all_eq_true]
          intro x hx
          refine HA.out x ?_
          rwa [List.take_of_length_le (by simp [evs]; omega)]
        go_wp2
        go_ret
        exact ⟨ret_int HE.out.symm, HW.out⟩
end Go.Proofs.YtdjllnhahhjgmaaDoor
namespace Go.Proofs.YtdjllnhahhjgmaaDoor
open Go.RowKit Chron
def told (l : List Item) : List (List UInt8) := (evs l).map tellB
theorem told_len (l : List Item) : (told l).length = l.length := by simp [told, evs]
theorem told_short {l : List Item} (h : ∀ x ∈ evs l, isB x = true) : ∀ x ∈ told l, x.length ≤ 1000 := by
  intro x hx
  simp only [told, List.mem_map] at hx
  obtain ⟨e, he, rfl⟩ := hx
  exact tell_len (h e he)
theorem told_cut {l : List Item} (h : ∀ x ∈ evs l, isB x = true) (hn : l.length ≤ 200) (k : Nat) : (91 :: jn ((told l).take k) : List UInt8).length ≤ 200300 := by
  have h1 := jn_len (l := (told l).take k) (m := 1000) (fun y hy => told_short h y (List.mem_of_mem_take hy))
  rw [List.length_take, told_len] at h1
  have h2 : min k l.length * 1001 ≤ 200 * 1001 := Nat.mul_le_mul_right _ (by omega)
  simp only [List.length_cons]
  omega
theorem put_byte_k (b : Nat) (l : List UInt8) (X : World) (hX : Lib.IsBuilderF 56 5 b b (Lib.byteCells l) X) (hl : l.length ≤ 1000000) (z : Int) (c : UInt8) (hz : z = (c.toNat : Int)) :
    Calls Tryd.prog 27 #[.pointer (some ⟨b, 0, none⟩), .int .u8 z] X fun e X' => e = .returned .nilIface ∧ Hid (Lib.IsBuilderF 56 5 b b (Lib.byteCells (l ++ [c])) X') ∧ Below b X X' ∧ Lib.OthersKept 5 (some b) X X' := by
  subst hz
  refine (Tryd.Builder_WriteByte_k b b _ _ _ hX (by rw [Lib.byteCells_length]; omega) (Nat.le_of_lt (builder_lt hX))).mono ?_
  rintro e w1 ⟨rfl, hB1, hb1, hk⟩
  rw [byteCells_push] at hB1
  exact ⟨rfl, .inr hB1, hb1, hk⟩
set_option maxRecDepth 100000 in
set_option maxHeartbeats 1000000 in
theorem tellEvs_any (a : Option Addr) (cap : Nat) (l : List Item) (w : World) (hl : Hid (EvsAt w a l)) (hall : Hid (∀ x ∈ evs l, isB x = true)) (hn : l.length ≤ 200) (hL : Hid (LaidAt w)) :
    Calls Tryd.prog 20 #[.slice a l.length cap, .func (.func 21) #[] #[]] w fun e w' => e = .returned (.string ⟨(listB (told l)).toArray⟩) ∧ Below w.heap.size w w' := by
  have HBN := hide0 (builder_new 56 5 w)
  go_enter Tryd.func20, Tryd.ntmps20
  go_wp2_with fail
  refine (put_byte w.heap.size [] _ HBN.out (by decide) 91 91 rfl).mono ?_
  rintro e w1 ⟨rfl, HB1, hb1⟩
  have HW1 : Hid (Below w.heap.size w w1) := ((Below.refl _ _).alloc (Nat.le_refl _) _).trans hb1
  clear hb1 HBN
  go_wp2
  go_loopw [11] (fun i wx => ∃ k : Nat, k ≤ l.length ∧ i = .int .i64 k ∧ Hid (Lib.IsBuilderF 56 5 w.heap.size w.heap.size (Lib.byteCells (91 :: jn ((told l).take k))) wx) ∧ Hid (Below w.heap.size w wx)) (fun i _ => l.length - (intOf i).toNat)
  case atStart => exact ⟨0, Nat.zero_le _, rfl, HB1, HW1⟩
  case round =>
    obtain ⟨k, hk, rfl, HB, HW⟩ := hrel
    have hlen := told_cut hall.out hn k
    have hsz := HW.out.size
    have hlt0 := builder_lt HB.out
    by_cases hlt : k < l.length
    · obtain ⟨b1, o1, rfl, hc1⟩ := hl.out.below HW.out (Nat.le_refl _) (by omega)
      obtain ⟨⟨⟨kd, tk, tm, bd, ts⟩, ta, tc⟩, hx⟩ : ∃ x, l[k]? = some x := ⟨_, List.getElem?_eq_getElem hlt⟩
      obtain ⟨⟨c0, c1, c2, c3, c4⟩, hok⟩ := hc1 k _ hx
      simp only at c0 c1 c2 c3 c4
      have HOK := hide0 hok
      have hev : (evs l)[k]? = some ⟨kd, tk, tm, bd, ts⟩ := by rw [evs, List.getElem?_map, hx]; rfl
      have HIS := hide0 (hall.out _ (List.mem_of_getElem? hev))
      have HAT : Hid ((told l)[k]? = some (tellB ⟨kd, tk, tm, bd, ts⟩)) := by rw [told, Hid, List.getElem?_map, hev]; rfl
      have hq2 := tell_len HIS.out
      obtain ⟨b2, o2, hbo, hc2⟩ := hl.out (by omega)
      have hokw := (hc2 k _ hx).2
      have hTE : ∀ X, Below w.heap.size w X → Calls Tryd.prog 21 #[.agg #[.int .i64 kd, .string tk, .int .i64 tm, .string bd, .slice ta ts.length tc]] X fun e w' => e = .returned (.string ⟨(tellB ⟨kd, tk, tm, bd, ts⟩).toArray⟩) ∧ Below X.heap.size X w' :=
        fun X hX => tellEvent_any kd tk tm bd ta tc ts X (hokw.tags.below hX (Nat.le_refl _)) HIS (hL.out.below hX (Nat.le_refl _))
      have HB0 := hide0 (builder_below HB.out ((Below.refl _ _).alloc (Nat.le_refl _) (.cells #[.int .i64 kd, .string tk, .int .i64 tm, .string bd, .slice ta ts.length tc] 39)))
      have HW0 := hide0 (HW.out.alloc hsz (.cells #[.int .i64 kd, .string tk, .int .i64 tm, .string bd, .slice ta ts.length tc] 39))
      have HTE := hide0 hTE
      clear hc1 hx hev hok hTE hbo hc2 hokw
      by_cases h0 : 0 < k
      · have HE := hide0 (jn_take HAT.out h0)
        go_wp2_with fail
        refine (put_byte_k w.heap.size _ _ HB0.out (by omega) 44 44 rfl).mono ?_
        rintro e w2 ⟨rfl, HB2, hb2, hk2⟩
        have hbx := hk2 wr.heap.size _ (heap_alloc_new wr _) (by simp; omega) (by intro c fz h; cases h)
        obtain ⟨d0, d1, d2, d3, d4, df⟩ := res_cells hbx
        have HW2 := hide0 (HW0.out.trans hb2)
        have hlt2 := builder_lt HB2.out
        clear hbx hk2 hb2
        go_wp2_with fail
        refine (HTE.out _ HW2.out).mono ?_
        rintro e w3 ⟨rfl, hb3⟩
        have HB3 := hide0 (builder_below HB2.out hb3)
        go_wp2_with fail
        refine (put_text w.heap.size _ _ _ HB3.out (by rw [List.length_append]; simp only [List.length_singleton]; omega)).mono ?_
        rintro e w4 ⟨⟨v, rfl⟩, HB4, hb4⟩
        have HW4 := hide0 ((HW2.out.trans (hb3.mono (by omega))).trans hb4)
        clear hb3 hb4 HB2 HB3 d0 d1 d2 d3 d4 df c0 c1 c2 c3 c4
        go_wp2
        go_roundw
        case rel => exact ⟨k + 1, by omega, by go_num, by rw [HE.out]; simpa using HB4, HW4⟩
        case measure => simp [intOf]; omega
      · have hk0 : k = 0 := by omega
        have HE : Hid (jn ((told l).take (k + 1)) = jn ((told l).take k) ++ tellB ⟨kd, tk, tm, bd, ts⟩) := by
          have := HAT.out
          subst hk0
          rw [Hid, jn_take_zero this]; rfl
        clear hk0
        go_wp2_with fail
        refine (HTE.out _ HW0.out).mono ?_
        rintro e w3 ⟨rfl, hb3⟩
        have HB3 := hide0 (builder_below HB0.out hb3)
        go_wp2_with fail
        refine (put_text w.heap.size _ _ _ HB3.out (by omega)).mono ?_
        rintro e w4 ⟨⟨v, rfl⟩, HB4, hb4⟩
        have HW4 := hide0 ((HW0.out.trans (hb3.mono (by rw [World.size_alloc]; omega))).trans hb4)
        clear hb3 hb4 HB3 c0 c1 c2 c3 c4
        go_wp2
        go_roundw
        case rel => exact ⟨k + 1, by omega, by go_num, by rw [HE.out]; simpa using HB4, HW4⟩
        case measure => simp [intOf]; omega
    · have HA : Hid (listB (told l) = 91 :: jn ((told l).take k) ++ [93]) := by
        rw [List.take_of_length_le (by rw [told_len]; omega)]; rfl
      go_wp2_with fail
      refine (put_byte w.heap.size _ _ HB.out (by omega) 93 93 rfl).mono ?_
      rintro e w2 ⟨rfl, HB2, hb2⟩
      have hlt2 := builder_lt HB2.out
      go_wp2_with fail
      refine (Tryd.Builder_String_any_k w.heap.size w.heap.size _ _ HB2.out (by omega)).mono ?_
      rintro e w3 ⟨rfl, hB3, hb3, _⟩
      go_wp2
      go_ret
      exact ⟨ret_str (by rw [HA.out]; rfl), (HW.out.trans hb2).trans hb3⟩
theorem expB_told {l : List Item} (hn : l.length ≤ 200) (h : ∀ x ∈ evs l, isB x = true) : expB (evs l) = (listB (told l), 0) := by
  rw [expB, if_neg (by simp [evs]; omega), if_pos (by rw [List.all_eq_true]; exact h)]; rfl
theorem expB_zero {l : List Item} (h : (expB (evs l)).2 = 0) : l.length ≤ 200 ∧ ∀ x ∈ evs l, isB x = true := by
  rw [expB] at h
  split at h
  · simp at h
  · split at h
    · rename_i h1 h2
      exact ⟨by simp [evs] at h1; omega, by rwa [List.all_eq_true] at h2⟩
    · simp at h
theorem expB_none {l : List Item} (h : ¬ (expB (evs l)).2 = 0) : (expB (evs l)).1 = [] := by
  rw [expB] at h ⊢
  split
  · rfl
  · split
    · rename_i h1 h2; simp [h1, h2] at h
    · rfl
set_option maxRecDepth 100000 in
set_option maxHeartbeats 1000000 in
theorem export_any (a : Option Addr) (cap : Nat) (l : List Item) (w : World) (hl : Hid (EvsAt w a l)) (hn : l.length * 72 ≤ 140737488351232) (hL : Hid (LaidAt w)) :
    Calls Tryd.prog 4 #[.slice a l.length cap] w fun e w' => e = .returned (.tuple #[.string ⟨(expB (evs l)).1.toArray⟩, .int .i64 (expB (evs l)).2]) ∧ Below w.heap.size w w' := by
  have hR := refuse_any a cap l w hl hn
  obtain ⟨z, hz⟩ : ∃ z, (expB (evs l)).2 = z := ⟨_, rfl⟩
  rw [hz] at hR
  by_cases h0 : z = 0
  · subst h0
    obtain ⟨hn2, hall⟩ := expB_zero hz
    have HX := hide0 (expB_told hn2 hall)
    have HALL := hide0 hall
    clear hz hall
    go_enter Tryd.func4, Tryd.ntmps4
    go_wp2_with fail
    refine hR.mono ?_
    rintro e w1 ⟨rfl, hb1⟩
    have hT := tellEvs_any a cap l w1 (hl.out.below hb1 (Nat.le_refl _)) HALL hn2 (hL.out.below hb1 (Nat.le_refl _))
    have hs1 := hb1.size
    go_wp2_with (first
      | (go_at_call 9; go_in)
      | (go_at_call 20; refine hT.mono ?_; rintro e w2 ⟨rfl, hb2⟩))
    go_ret2
    exact ⟨by rw [HX.out]; rfl, hb1.trans (hb2.mono hs1)⟩
  · have HZ := hide0 (expB_none (by rw [hz]; exact h0))
    have HZ2 := hide0 hz
    have hzb : (z != 0) = true := by simp [h0]
    clear hz
    go_enter Tryd.func4, Tryd.ntmps4
    go_wp2_with fail
    refine hR.mono ?_
    rintro e w1 ⟨rfl, hb1⟩
    go_wp2
    go_ret2
    exact ⟨by rw [HZ.out, HZ2.out]; rfl, hb1⟩
end Go.Proofs.YtdjllnhahhjgmaaDoor
namespace Go.Proofs.YtdjllnhahhjgmaaDoor
open Go.RowKit Chron
theorem cut_one (s : ByteArray) (k : Nat) (h : k < s.size) : (s.data.toList.drop k).take 1 = [s[k]] := by
  have hl : k < s.data.toList.length := by simpa using h
  rw [List.drop_eq_getElem_cons hl]; rfl
set_option maxRecDepth 100000 in
set_option maxHeartbeats 1000000 in
theorem quoted_any (s : ByteArray) (w : World) (hs : s.size ≤ 65536) :
    Calls Tryd.prog 13 #[.string s] w fun e w' => e = .returned (.string ⟨(qB s.data.toList).toArray⟩) ∧ w' = w := by
  go_enter Tryd.func13, Tryd.ntmps13
  go_wp2
  go_loop [3, 4] (fun o i => ∃ (k : Nat) (out : ByteArray), k ≤ s.size ∧ i = .int .i64 k ∧ o = .string out ∧ Hid (out.data.toList = 34 :: inQ (s.data.toList.take k))) (fun _ i => s.size - (intOf i).toNat)
  case atStart => exact ⟨0, _, Nat.zero_le _, rfl, rfl, rfl⟩
  case round =>
    obtain ⟨k, out, hk, rfl, rfl, HO⟩ := hrel
    have hlen : out.size ≤ 140000 := by
      have h1 := inQ_len (s.data.toList.take k)
      have h2 := congrArg List.length HO.out
      simp at h1 h2
      omega
    by_cases hlt : k < s.size
    · have HC := hide0 (cut_one s k hlt)
      by_cases h34 : (s[k].toNat : Int) = 34 ∨ (s[k].toNat : Int) = 92
      · have HE := hide0 ((inQ_take s k hlt).trans (by rw [esc_yes h34]))
        have hcd : ((s[k].toNat : Int) == 34 || (s[k].toNat : Int) == 92) = true := by simpa using h34
        clear h34
        go_wp2
        all_goals
          go_round
          case rel => exact ⟨k + 1, _, by omega, by go_num, rfl, by
            show _ = _
            rw [HE.out]
            simp [HO.out, HC.out]⟩
          case measure => simp [intOf]; omega
      · have h1 : ¬ (s[k].toNat : Int) = 34 := fun h => h34 (.inl h)
        have h2 : ¬ (s[k].toNat : Int) = 92 := fun h => h34 (.inr h)
        have HE := hide0 ((inQ_take s k hlt).trans (by rw [esc_no h1 h2]))
        have hc1 : ((s[k].toNat : Int) == 34) = false := by simp [h1]
        have hc2 : ((s[k].toNat : Int) == 92) = false := by simp [h2]
        clear h34 h1 h2
        go_wp2
        go_round
        case rel => exact ⟨k + 1, _, by omega, by go_num, rfl, by
          show _ = _
          rw [HE.out]
          simp [HO.out, HC.out]⟩
        case measure => simp [intOf]; omega
    · go_wp2
      go_ret
      refine ⟨ret_str (bytes_inj ?_), rfl⟩
      simp [HO.out, qB]
      rw [List.take_of_length_le (by simp; omega)]
def wordCells : Array Value := #[.string ⟨#[98, 101, 103, 117, 110]⟩, .string ⟨#[100, 111, 110, 101]⟩, .string ⟨#[102, 97, 105, 108, 101, 100]⟩, .string ⟨#[110, 111, 116, 101, 100]⟩]
set_option maxRecDepth 100000 in
theorem words_any (w : World) : Calls Tryd.prog 14 #[] w fun e w' => e = .returned (.slice (some ⟨w.heap.size, 0, none⟩) 4 4) ∧ w' = w.alloc (.cells #[.string ⟨#[98, 101, 103, 117, 110]⟩, .string ⟨#[100, 111, 110, 101]⟩, .string ⟨#[102, 97, 105, 108, 101, 100]⟩, .string ⟨#[110, 111, 116, 101, 100]⟩] 9) := by
  go_enter Tryd.func14, Tryd.ntmps14
  go_wp2
  go_ret
  exact ⟨rfl, rfl⟩
set_option maxRecDepth 100000 in
set_option maxHeartbeats 1000000 in
theorem decimal_ref (f : Nat) : ∀ (n : Int) (w : World), 0 ≤ n → Hid (n.toNat < 10 ^ f) → 0 < f → f ≤ 17 →
    Calls Tryd.prog 15 #[.int .i64 n] w fun e w' => e = .returned (.string ⟨(Lib.decDigits n.toNat).toArray⟩) ∧ Below w.heap.size w w' := by
  induction f with
  | zero => intro n w _ _ h; omega
  | succ f ih =>
    intro n w h0 h1 _ h17
    have hn17 : n.toNat < 10 ^ 17 := Nat.lt_of_lt_of_le h1.out (Nat.pow_le_pow_right (by omega) h17)
    obtain ⟨q, hq, hq0, hq9⟩ : ∃ q : Int, n % 10 = q ∧ 0 ≤ q ∧ q ≤ 9 := ⟨_, rfl, by omega, by omega⟩
    have HB : Hid ((48 + q).toNat = 48 + n.toNat % 10) := by show _ = _; omega
    have hcv := conv_one (48 + q) (by omega) (by omega)
    by_cases hs : n < 10
    · have HN : Hid (Lib.decDigits n.toNat = [UInt8.ofNat (48 + q).toNat]) := by
        show _ = _
        rw [Lib.decDigits, dif_pos (by omega), HB.out, show n.toNat % 10 = n.toNat by omega]
      go_enter Tryd.func15, Tryd.ntmps15
      go_wp2
      go_ret
      exact ⟨ret_str (by rw [HN.out]), (Below.refl _ _).alloc (Nat.le_refl _) _⟩
    · have HN : Hid (Lib.decDigits n.toNat = Lib.decDigits (n.toNat / 10) ++ [UInt8.ofNat (48 + q).toNat]) := by
        show _ = _
        rw [Lib.decDigits, dif_neg (by omega), HB.out]
      have hf0 : 0 < f := by
        have := h1.out
        rcases Nat.eq_zero_or_pos f with h | h
        · subst h; simp at this; omega
        · exact h
      obtain ⟨D, hD, HD⟩ : ∃ D : Int, n / 10 = D ∧ Hid (D = n / 10) := ⟨_, rfl, rfl⟩
      have hdl := digits_len 17 D.toNat (by rw [HD.out]; omega)
      have hnl : (Lib.decDigits D.toNat).length ≤ 17 := by omega
      have hD1 : Hid (D.toNat < 10 ^ f) := by
        have := h1.out
        rw [Nat.pow_succ] at this
        show D.toNat < 10 ^ f
        rw [HD.out, show (n / 10).toNat = n.toNat / 10 by omega]
        exact Nat.div_lt_of_lt_mul (by omega)
      have hD0 : 0 ≤ D := by rw [HD.out]; omega
      have hih := ih D ((w.alloc (.cells #[.int .u8 (48 + q)] 5))) hD0 hD1 hf0 (by omega)
      have HF : Hid (D.toNat = n.toNat / 10) := by show _ = _; rw [HD.out]; omega
      clear ih HD hdl h1 hD1
      go_enter Tryd.func15, Tryd.ntmps15
      go_wp2_with fail
      refine hih.mono ?_
      rintro e w2 ⟨rfl, hb2⟩
      go_wp2
      go_ret
      refine ⟨ret_str ?_, ((Below.refl w.heap.size w).alloc (Nat.le_refl _) _).trans (hb2.mono (by simp))⟩
      rw [HN.out, ← HF.out]; apply bytes_inj; simp
theorem decimal_any (m : Int) (w : World) (h0 : 0 ≤ m) (h1 : m ≤ 1125899906842624) :
    Calls Tryd.prog 15 #[.int .i64 m] w fun e w' => e = .returned (.string ⟨(Lib.itoa m).toArray⟩) ∧ Below w.heap.size w w' := by
  have := decimal_ref 17 m w h0 (by show m.toNat < 10 ^ 17; omega) (by decide) (by decide)
  rwa [Lib.itoa, if_neg (by omega)]
end Go.Proofs.YtdjllnhahhjgmaaDoor
