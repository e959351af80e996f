/- Walks and plain facts, in the order in which they lean on one another. -/
import Derived.Test.YtdjllnhahhjgmaaGreatW12
import Derived.Test.YtdjllnhahhjgmaaGreatW08
import Derived.Deep.RegionHeld3
import Derived.Test.YtdjllnhahhjgmaaGreatW10
import Derived.Test.YtdjllnhahhjgmaaGreatW07
import Derived.Lib.ConvBytes
namespace Go.Proofs.YtdjllnhahhjgmaaGreat
open Go.RowKit Chron
theorem numR_len (least most : Int) (r : Rdr) : (numR least most r).2.rest.length ≤ r.rest.length := by
  unfold numR
  split
  · exact Nat.le_refl _
  · split
    · unfold cutNumR
      split
      · simp [Rdr.fail]
      · split <;> simp [Rdr.fail, Rdr.over]
    · rename_i n rest hq
      split
      · simp [Rdr.fail]
      · exact readNum_len hq
theorem textR_len (most : Int) (r : Rdr) : (textR most r).1.length ≤ r.rest.length ∧ (textR most r).2.rest.length ≤ r.rest.length := by
  have h := numR_len 0 most r
  unfold textR
  split
  · simp [Rdr.over]
  · simp only [List.length_take, List.length_drop]; omega
theorem bareR_len (v : Int) (r : Rdr) : (bareR v r).2.rest.length ≤ r.rest.length := by
  have h := (textR_len 321 r).2
  unfold bareR
  split
  · exact h
  · simp only
    split
    · exact h
    · simp [Rdr.fail]
theorem bodyR_len (old : ByteArray) (r : Rdr) : (bodyR old r).2.rest.length ≤ r.rest.length := by
  have h := (textR_len 62 r).2
  unfold bodyR
  split
  · exact h
  · simp only
    split
    · exact h
    · simp [Rdr.fail]
set_option maxRecDepth 100000 in
set_option maxHeartbeats 2000000 in
theorem aBody_any (R : Nat) (r : Rdr) (old : ByteArray) (w : World) (h : Hid (RdAt R w r)) (hs : r.rest.length ≤ 281474976710656) (ho : old.size ≤ 281474976710656) :
    Calls Tryz.prog 74 #[.pointer (some ⟨R, 0, none⟩), .string old] w fun e w' => e = .returned (.string (bodyR old r).1) ∧ Hid (RdAt R w' (bodyR old r).2) ∧ Hid (Far w w' [some R]) := by
  have hT := aText_any R r 62 w h hs
  have hl := textR_len 62 r
  have HB : Hid (bodyR old r = if (textR 62 r).2.stop = true then (noB, (textR 62 r).2) else (⟨(applyB old.data.toList (textR 62 r).1).1.toArray⟩, if bodyOk (applyB old.data.toList (textR 62 r).1) = true then (textR 62 r).2 else (textR 62 r).2.fail)) := rfl
  generalize textR 62 r = tr at *
  obtain ⟨c, r1⟩ := tr
  simp only at hT hl HB
  by_cases hst : r1.stop = true
  · have HC : Hid (bodyR old r = (noB, r1)) := HB.out.trans (if_pos hst)
    go_enter Tryz.func74, Tryz.ntmps74
    go_wp2_with fail
    refine hT.mono ?_
    rintro e w1 ⟨rfl, H1, HF1⟩
    go_wp2_with (go_at_call 53; refine (aStopped_any R r1 _ H1).mono ?_; rintro e w' ⟨rfl, hw'⟩; have hw2 := hw'.symm; subst hw2)
    go_ret
    exact ⟨by rw [HC.out]; rfl, by rw [HC.out]; exact H1, HF1⟩
  · have hst' : r1.stop = false := by simpa using hst
    have hA := fun w' => apply_any old ⟨c.toArray⟩ w' (by unfold maxLen; omega) (by show c.length ≤ _; unfold maxLen; omega)
    simp only at hA
    have hlen : (applyB old.data.toList c).1.length ≤ 65536 := by
      unfold applyB
      split
      · simp
      · split
        · simp
        · split
          · simp
          · unfold joinB
            split
            · rename_i hh
              simp only [List.length_append, List.length_take, List.length_drop]
              omega
            · simp
    generalize hap : applyB old.data.toList c = ap at *
    obtain ⟨nb, ne⟩ := ap
    simp only [seVal] at hA hlen HB
    have hline := fun w' => isLine_any ⟨nb.toArray⟩ w' (by show nb.length ≤ _; unfold maxLen; omega)
    by_cases hne : ne = 0
    · by_cases hln : lineB ⟨nb.toArray⟩ = true
      · have HC : Hid (bodyR old r = (⟨nb.toArray⟩, r1)) := by
          show _ = _
          rw [HB.out, if_neg hst, if_pos (by simp [bodyOk, hne, hln])]
        subst hne
        rw [hln] at hline
        clear hap hst
        go_enter Tryz.func74, Tryz.ntmps74
        go_wp2_with fail
        refine hT.mono ?_
        rintro e w1 ⟨rfl, H1, HF1⟩
        go_wp2_with (first
          | (go_at_call 53; refine (aStopped_any R r1 _ H1).mono ?_; rintro e w' ⟨rfl, hw'⟩; have hw2 := hw'.symm; subst hw2)
          | (go_at_call 93; refine (hA _).mono ?_; rintro e w2 ⟨rfl, hb2⟩)
          | (go_at_call 94; refine (hline _).mono ?_; rintro e w' ⟨rfl, hw'⟩; have hw2 := hw'.symm; subst hw2))
        go_ret
        exact ⟨by rw [HC.out]; rfl, by rw [HC.out]; exact H1.out.more hb2, HF1.out.trans (Far.of_below hb2 (Nat.le_refl _))⟩
      · have hln' : lineB ⟨nb.toArray⟩ = false := by simpa using hln
        have HC : Hid (bodyR old r = (⟨nb.toArray⟩, r1.fail)) := by
          show _ = _
          rw [HB.out, if_neg hst, if_neg (by simp [bodyOk, hln'])]
        subst hne
        rw [hln'] at hline
        clear hap hst
        go_enter Tryz.func74, Tryz.ntmps74
        go_wp2_with fail
        refine hT.mono ?_
        rintro e w1 ⟨rfl, H1, HF1⟩
        go_wp2_with (first
          | (go_at_call 53; refine (aStopped_any R r1 _ H1).mono ?_; rintro e w' ⟨rfl, hw'⟩; have hw2 := hw'.symm; subst hw2)
          | (go_at_call 93; refine (hA _).mono ?_; rintro e w2 ⟨rfl, hb2⟩)
          | (go_at_call 94; refine (hline _).mono ?_; rintro e w' ⟨rfl, hw'⟩; have hw2 := hw'.symm; subst hw2))
        refine (aFail_any R r1 _ (hide0 (H1.out.more hb2))).mono ?_
        rintro e w3 ⟨rfl, H3, HF3⟩
        go_wp2
        go_ret
        exact ⟨by rw [HC.out]; rfl, by rw [HC.out]; exact H3, (HF1.out.trans (Far.of_below hb2 (Nat.le_refl _))).trans HF3.out⟩
    · have HC : Hid (bodyR old r = (⟨nb.toArray⟩, r1.fail)) := by
        show _ = _
        rw [HB.out, if_neg hst, if_neg (by simp [bodyOk, hne])]
      have hnb : (ne != 0) = true := by simp [hne]
      have hnb2 : (ne == 0) = false := by simp [hne]
      clear hap hst
      go_enter Tryz.func74, Tryz.ntmps74
      go_wp2_with fail
      refine hT.mono ?_
      rintro e w1 ⟨rfl, H1, HF1⟩
      go_wp2_with (first
        | (go_at_call 53; refine (aStopped_any R r1 _ H1).mono ?_; rintro e w' ⟨rfl, hw'⟩; have hw2 := hw'.symm; subst hw2)
        | (go_at_call 93; refine (hA _).mono ?_; rintro e w2 ⟨rfl, hb2⟩))
      refine (aFail_any R r1 _ (hide0 (H1.out.more hb2))).mono ?_
      rintro e w3 ⟨rfl, H3, HF3⟩
      go_wp2
      go_ret
      exact ⟨by rw [HC.out]; rfl, by rw [HC.out]; exact H3, (HF1.out.trans (Far.of_below hb2 (Nat.le_refl _))).trans HF3.out⟩
theorem set5_rest {w : World} {N q : Nat} {x0 x1 x2 x3 x4 : Value} (h : q ≠ N) : (((((w.setCell ⟨N, 0, none⟩ x0).setCell ⟨N, 1, none⟩ x1).setCell ⟨N, 2, none⟩ x2).setCell ⟨N, 3, none⟩ x3).setCell ⟨N, 4, none⟩ x4).heap[q]? = w.heap[q]? := by
  rw [Below.heap_setCell _ _ _ _ h, Below.heap_setCell _ _ _ _ h, Below.heap_setCell _ _ _ _ h, Below.heap_setCell _ _ _ _ h, Below.heap_setCell _ _ _ _ h]
theorem RdAt.set5 {R N : Nat} {w : World} {r : Rdr} {x0 x1 x2 x3 x4 : Value} (h : RdAt R w r) (hN : R ≠ N) : RdAt R (((((w.setCell ⟨N, 0, none⟩ x0).setCell ⟨N, 1, none⟩ x1).setCell ⟨N, 2, none⟩ x2).setCell ⟨N, 3, none⟩ x3).setCell ⟨N, 4, none⟩ x4) r := (set5_rest hN).trans h
theorem Far.set5 {a b : World} {Q : List (Option Nat)} {N : Nat} {x0 x1 x2 x3 x4 : Value} (h : Far a b Q) (hN : a.heap.size ≤ N) : Far a (((((b.setCell ⟨N, 0, none⟩ x0).setCell ⟨N, 1, none⟩ x1).setCell ⟨N, 2, none⟩ x2).setCell ⟨N, 3, none⟩ x3).setCell ⟨N, 4, none⟩ x4) Q :=
  ((((h.setCell (.inr hN) _).setCell (.inr hN) _).setCell (.inr hN) _).setCell (.inr hN) _).setCell (.inr hN) _
set_option maxRecDepth 100000 in
set_option maxHeartbeats 2000000 in
theorem aBare_any (R : Nat) (r : Rdr) (v : Int) (w : World) (h : Hid (RdAt R w r)) (hs : r.rest.length ≤ 281474976710656) :
    Calls Tryz.prog 73 #[.pointer (some ⟨R, 0, none⟩), .int .i64 v] w fun e w' => ∃ xa xc, e = .returned (evVal (bareR v r).1 (.slice xa (bareR v r).1.tags.length xc)) ∧ Hid (w'.ownsRow w.heap.size 9 1 (.slice xa (bareR v r).1.tags.length xc) (bareR v r).1.tags.length ((bareR v r).1.tags.map Value.string)) ∧ Hid (RdAt R w' (bareR v r).2) ∧ Hid (Far w w' [some R]) := by
  have hRlt := h.out.lt
  have hT := aText_any R r 321 (w.alloc (.cells #[.int .i64 0, .string ⟨#[]⟩, .int .i64 0, .string ⟨#[]⟩, .slice none 0 0] 38)) (hide0 (h.out.more ((Below.refl _ _).alloc (Nat.le_refl _) _))) hs
  have hl := textR_len 321 r
  have HB : Hid (bareR v r = if (textR 321 r).2.stop = true then (zeroEv, (textR 321 r).2) else ((decB v (textR 321 r).1).1, if bareOk (decB v (textR 321 r).1) = true then (textR 321 r).2 else (textR 321 r).2.fail)) := rfl
  generalize textR 321 r = tr at *
  obtain ⟨c, r1⟩ := tr
  simp only at hT hl HB
  have hbz : ∀ w1, Far (w.alloc (.cells #[.int .i64 0, .string ⟨#[]⟩, .int .i64 0, .string ⟨#[]⟩, .slice none 0 0] 38)) w1 [some R] → w1.heap[w.heap.size]? = some (.cells #[.int .i64 0, .string ⟨#[]⟩, .int .i64 0, .string ⟨#[]⟩, .slice none 0 0] 38) := fun w1 hf => (hf.block w.heap.size (by simp) (by simp; omega)).trans (heap_alloc_new w _)
  have hF0 : Far w (w.alloc (.cells #[.int .i64 0, .string ⟨#[]⟩, .int .i64 0, .string ⟨#[]⟩, .slice none 0 0] 38)) [some R] := (Far.refl _ _).alloc _
  by_cases hst : r1.stop = true
  · have HC : Hid (bareR v r = (zeroEv, r1)) := HB.out.trans (if_pos hst)
    go_enter Tryz.func73, Tryz.ntmps73
    go_wp2_with fail
    refine hT.mono ?_
    rintro e w1 ⟨rfl, H1, HF1⟩
    obtain ⟨r0, r1', r2, r3, r4, rz⟩ := res_cells (hbz w1 HF1.out)
    have H1' := H1
    have hs1 := HF1.out.size
    rw [World.size_alloc] at hs1
    go_wp2_with (go_at_call 53; refine (aStopped_any R r1 _ H1).mono ?_; rintro e w' ⟨rfl, hw'⟩; have hw2 := hw'.symm; subst hw2)
    refine bodyPost_ret (v := evVal zeroEv (.slice none 0 0)) (by simp [results, Tryz.results73, go_sem, evVal, zeroEv, r0, r1', r2, r3, r4]) rfl ⟨none, 0, ?_, ?_, ?_, ?_⟩
    · rw [HC.out]; rfl
    · rw [HC.out]; exact World.ownsRow_nil _ _ _ _
    · rw [HC.out]; exact H1.out.set5 (by omega)
    · exact (hF0.trans HF1.out).set5 (Nat.le_refl _)
  · have hst' : r1.stop = false := by simpa using hst
    have hD := fun w' => decode_any v c w' (by unfold maxLen; omega)
    have HK : Hid (bareR v r = ((decB v c).1, if bareOk (decB v c) = true then r1 else r1.fail)) := HB.out.trans (if_neg hst)
    generalize decB v c = d at *
    obtain ⟨⟨k, t, m, b, ts⟩, ne⟩ := d
    simp only at hD HK
    clear hst HB
    by_cases hne : ne = 0
    · subst hne
      by_cases hbe : b.toList.isEmpty = true
      · have HC : Hid (bareR v r = (⟨k, t, m, b, ts⟩, r1)) := by
          show _ = _
          rw [HK.out, if_pos (by simp only [bareOk, hbe, decide_true, Bool.and_self])]
        clear HK
        go_enter Tryz.func73, Tryz.ntmps73
        go_wp2_with fail
        refine hT.mono ?_
        rintro e w1 ⟨rfl, H1, HF1⟩
        have hzr := hbz w1 HF1.out
        have hs1 := HF1.out.size
        rw [World.size_alloc] at hs1
        clear hbz hT
        go_wp2_with (first
          | (go_at_call 53; refine (aStopped_any R r1 _ H1).mono ?_; rintro e w' ⟨rfl, hw'⟩; have hw2 := hw'.symm; subst hw2)
          | (go_at_call 92; refine (hD _).mono ?_; rintro e w2 ⟨x, rfl, hox, hb2⟩; obtain ⟨xa, xc, rfl, _⟩ := own_shape hox; simp only [evVal]; have hs2 := hb2.size; have hz2 := (hb2.block w.heap.size (by omega)).trans hzr; obtain ⟨r0, r1', r2, r3, r4, rz⟩ := alloc_cells hz2; have hne9 : ¬ w2.heap.size = w.heap.size := by omega))
        have HOX := hide0 hox
        clear hox
        have hB2 : Below w1.heap.size w1 (w2.alloc (.cells #[.int .i64 k, .string t, .int .i64 m, .string b, .slice xa ts.length xc] 38)) := hb2.alloc hs2 _
        refine bodyPost_ret (v := evVal ⟨k, t, m, b, ts⟩ (.slice xa ts.length xc)) (by simp [results, Tryz.results73, go_sem, evVal, r0, r1', r2, r3, r4]) rfl ⟨xa, xc, ?_, ?_, ?_, ?_⟩
        · rw [HC.out]
        · rw [HC.out]; exact own_set5 (own_below HOX.out ((Below.refl _ _).alloc (Nat.le_refl _) _)) (by omega) (by omega)
        · rw [HC.out]; exact (H1.out.more hB2).set5 (by omega)
        · exact ((hF0.trans HF1.out).trans (Far.of_below hB2 (Nat.le_refl _))).set5 (Nat.le_refl _)
      · have hbe' : b.toList.isEmpty = false := by simpa using hbe
        have HC : Hid (bareR v r = (⟨k, t, m, b, ts⟩, r1.fail)) := by
          show _ = _
          rw [HK.out, if_neg (by simp only [bareOk, hbe', Bool.and_false]; decide)]
        clear HK hbe
        go_enter Tryz.func73, Tryz.ntmps73
        go_wp2_with fail
        refine hT.mono ?_
        rintro e w1 ⟨rfl, H1, HF1⟩
        have hzr := hbz w1 HF1.out
        have hs1 := HF1.out.size
        rw [World.size_alloc] at hs1
        clear hbz hT
        go_wp2_with (first
          | (go_at_call 53; refine (aStopped_any R r1 _ H1).mono ?_; rintro e w' ⟨rfl, hw'⟩; have hw2 := hw'.symm; subst hw2)
          | (go_at_call 92; refine (hD _).mono ?_; rintro e w2 ⟨x, rfl, hox, hb2⟩; obtain ⟨xa, xc, rfl, _⟩ := own_shape hox; simp only [evVal]; have hs2 := hb2.size; have hz2 := (hb2.block w.heap.size (by omega)).trans hzr; obtain ⟨r0, r1', r2, r3, r4, rz⟩ := alloc_cells hz2; have hne9 : ¬ w2.heap.size = w.heap.size := by omega))
        have hB2 : Below w1.heap.size w1 (w2.alloc (.cells #[.int .i64 k, .string t, .int .i64 m, .string b, .slice xa ts.length xc] 38)) := hb2.alloc hs2 _
        refine (aFail_any R r1 _ (hide0 (H1.out.more hB2))).mono ?_
        rintro e w3 ⟨rfl, H3, HF3⟩
        have hbx : w3.heap[w2.heap.size]? = some (.cells #[.int .i64 k, .string t, .int .i64 m, .string b, .slice xa ts.length xc] 38) := (HF3.out.block _ (by simp) (by simp; omega)).trans (heap_alloc_new w2 _)
        have hz3 : w3.heap[w.heap.size]? = some (.cells #[.int .i64 0, .string ⟨#[]⟩, .int .i64 0, .string ⟨#[]⟩, .slice none 0 0] 38) := (HF3.out.block _ (by simp; omega) (by simp; omega)).trans ((Below.heap_alloc _ _ _ (by omega)).trans hz2)
        obtain ⟨b0, b1, b2, b3, b4, bz⟩ := res_cells hbx
        obtain ⟨q0, q1, q2, q3, q4, qz⟩ := res_cells hz3
        have HOX := hide0 (own_of_block hox (w' := w3) (fun q hq => (HF3.out.block q (by have := (hox.lt q hq).2; simp; omega) (by have := (hox.lt q hq).1; simp; omega)).trans (Below.heap_alloc _ _ _ (hox.lt q hq).2)))
        clear r0 r1' r2 r3 r4 rz hox hz2
        go_wp2
        refine bodyPost_ret (v := evVal ⟨k, t, m, b, ts⟩ (.slice xa ts.length xc)) (by simp [results, Tryz.results73, go_sem, evVal, q0, q1, q2, q3, q4]) rfl ⟨xa, xc, ?_, ?_, ?_, ?_⟩
        · rw [HC.out]
        · rw [HC.out]; exact own_set5 HOX.out (by omega) (by omega)
        · rw [HC.out]; exact H3.out.set5 (by omega)
        · exact (((hF0.trans HF1.out).trans (Far.of_below hB2 (Nat.le_refl _))).trans HF3.out).set5 (Nat.le_refl _)
    · have HC : Hid (bareR v r = (⟨k, t, m, b, ts⟩, r1.fail)) := by
        show _ = _
        rw [HK.out, if_neg (by simp [bareOk, hne])]
      have hnb : (ne != 0) = true := by simp [hne]
      have hnb2 : (ne == 0) = false := by simp [hne]
      clear HK
      go_enter Tryz.func73, Tryz.ntmps73
      go_wp2_with fail
      refine hT.mono ?_
      rintro e w1 ⟨rfl, H1, HF1⟩
      have hzr := hbz w1 HF1.out
      have hs1 := HF1.out.size
      rw [World.size_alloc] at hs1
      clear hbz hT
      go_wp2_with (first
        | (go_at_call 53; refine (aStopped_any R r1 _ H1).mono ?_; rintro e w' ⟨rfl, hw'⟩; have hw2 := hw'.symm; subst hw2)
        | (go_at_call 92; refine (hD _).mono ?_; rintro e w2 ⟨x, rfl, hox, hb2⟩; obtain ⟨xa, xc, rfl, _⟩ := own_shape hox; simp only [evVal]; have hs2 := hb2.size; have hz2 := (hb2.block w.heap.size (by omega)).trans hzr; obtain ⟨r0, r1', r2, r3, r4, rz⟩ := alloc_cells hz2; have hne9 : ¬ w2.heap.size = w.heap.size := by omega))
      have hB2 : Below w1.heap.size w1 (w2.alloc (.cells #[.int .i64 k, .string t, .int .i64 m, .string b, .slice xa ts.length xc] 38)) := hb2.alloc hs2 _
      refine (aFail_any R r1 _ (hide0 (H1.out.more hB2))).mono ?_
      rintro e w3 ⟨rfl, H3, HF3⟩
      have hbx : w3.heap[w2.heap.size]? = some (.cells #[.int .i64 k, .string t, .int .i64 m, .string b, .slice xa ts.length xc] 38) := (HF3.out.block _ (by simp) (by simp; omega)).trans (heap_alloc_new w2 _)
      have hz3 : w3.heap[w.heap.size]? = some (.cells #[.int .i64 0, .string ⟨#[]⟩, .int .i64 0, .string ⟨#[]⟩, .slice none 0 0] 38) := (HF3.out.block _ (by simp; omega) (by simp; omega)).trans ((Below.heap_alloc _ _ _ (by omega)).trans hz2)
      obtain ⟨b0, b1, b2, b3, b4, bz⟩ := res_cells hbx
      obtain ⟨q0, q1, q2, q3, q4, qz⟩ := res_cells hz3
      have HOX := hide0 (own_of_block hox (w' := w3) (fun q hq => (HF3.out.block q (by have := (hox.lt q hq).2; simp; omega) (by have := (hox.lt q hq).1; simp; omega)).trans (Below.heap_alloc _ _ _ (hox.lt q hq).2)))
      clear r0 r1' r2 r3 r4 rz hox hz2
      go_wp2
      refine bodyPost_ret (v := evVal ⟨k, t, m, b, ts⟩ (.slice xa ts.length xc)) (by simp [results, Tryz.results73, go_sem, evVal, q0, q1, q2, q3, q4]) rfl ⟨xa, xc, ?_, ?_, ?_, ?_⟩
      · rw [HC.out]
      · rw [HC.out]; exact own_set5 HOX.out (by omega) (by omega)
      · rw [HC.out]; exact H3.out.set5 (by omega)
      · exact (((hF0.trans HF1.out).trans (Far.of_below hB2 (Nat.le_refl _))).trans HF3.out).set5 (Nat.le_refl _)
end Go.Proofs.YtdjllnhahhjgmaaGreat
namespace Go.Proofs.YtdjllnhahhjgmaaGreat
open Go.RowKit Chron
theorem own_prefix {w : World} {N sz g n k cap : Nat} {e : TypeId} {xs ys : List Value} (h : w.ownsRow N e sz (.slice (some ⟨g, 0, none⟩) n cap) n xs) (hk : k ≤ n) (hy : xs.take (k * sz) = ys) : w.ownsRow N e sz (.slice (some ⟨g, 0, none⟩) k cap) k ys := by
  obtain ⟨h1, h2 | ⟨g', cap', cur, e1, a2, a3, a4, a5, a6, a7⟩⟩ := h
  · cases h2.1
  · simp only [Value.slice.injEq, Option.some.injEq, Addr.mk.injEq] at e1
    obtain ⟨⟨rfl, _⟩, _, rfl⟩ := e1
    have hks : k * sz ≤ n * sz := Nat.mul_le_mul_right _ hk
    refine ⟨?_, .inr ⟨g, cap, cur, rfl, a2, a3, by omega, a5, a6, ?_⟩⟩
    · rw [← hy, List.length_take, h1]; omega
    · rw [← hy, ← a7, List.take_take, Nat.min_eq_left hks]
theorem own_cap {w : World} {N sz g n m c c' : Nat} {e : TypeId} {xs ys : List Value} (hs : 0 < sz) (h : w.ownsRow N e sz (.slice (some ⟨g, 0, none⟩) n c) n xs) (k : w.ownsRow N e sz (.slice (some ⟨g, 0, none⟩) m c') m ys) : c = c' := by
  obtain ⟨_, h2 | ⟨g', cap', cur, e1, a2, a3, a4, a5, a6, a7⟩⟩ := h
  · cases h2.1
  obtain ⟨_, k2 | ⟨g2, cap2, cur2, f1, b2, b3, b4, b5, b6, b7⟩⟩ := k
  · cases k2.1
  simp only [Value.slice.injEq, Option.some.injEq, Addr.mk.injEq] at e1 f1
  obtain ⟨⟨rfl, _⟩, _, rfl⟩ := e1
  obtain ⟨⟨rfl, _⟩, _, rfl⟩ := f1
  rw [a3] at b3
  simp only [Option.some.injEq, Obj.cells.injEq] at b3
  obtain ⟨rfl, _⟩ := b3
  rw [a6] at b6
  exact Nat.eq_of_mul_eq_mul_right hs b6
/- a list, and one that began it -/
structure Two (N : Nat) (w : World) (lv0 : Value) (its0 : List Item) (lv : Value) (its : List Item) : Prop where
  made : MadeO N w lv its
  old : MadeO N w lv0 its0
  pre : ∃ more, its = its0 ++ more
  rel : lv0.ownBlock = none ∨ lv0.ownBlock ≠ lv.ownBlock ∨ ∃ g cap, lv = .slice (some ⟨g, 0, none⟩) its.length cap ∧ lv0 = .slice (some ⟨g, 0, none⟩) its0.length cap
theorem Two.start {N : Nat} {w : World} {lv : Value} {its : List Item} (h : MadeO N w lv its) : Two N w lv its lv its := by
  refine ⟨h, h, ⟨[], by simp⟩, ?_⟩
  rcases h.row.2 with ⟨h1, _⟩ | ⟨g, cap, _, h1, _⟩
  · exact .inl (by rw [h1]; rfl)
  · exact .inr (.inr ⟨g, cap, h1, h1⟩)
theorem Two.keep {N : Nat} {w w' : World} {lv0 lv : Value} {its0 its : List Item} (h : Two N w lv0 its0 lv its) (hb : ∀ q, N ≤ q → q < w.heap.size → w'.heap[q]? = w.heap[q]?) : Two N w' lv0 its0 lv its :=
  ⟨h.made.keep hb, h.old.keep hb, h.pre, h.rel⟩
theorem Two.push {N M : Nat} {w wa : World} {lv0 lv : Value} {its0 its : List Item} {o : Obj} {g cap : Nat} {i : Item} (h : Two N w lv0 its0 lv its) (hi : w.ownsRow M 9 1 i.tv i.ev.tags.length (i.ev.tags.map Value.string)) (hM : N ≤ M) (hlv : ∀ q, lv.ownBlock = some q → q < M) (hts : ∀ q ∈ tagBs its, q < M)
    (hown : wa.ownsRow N 38 5 (.slice (some ⟨g, 0, none⟩) (its.length + 1) cap) (its.length + 1) (fives its ++ i.five)) (hkept : wa.ownsRow N 38 5 lv its.length (fives its)) (hlay : Lay (w.alloc o) wa lv g (w.alloc o).heap.size) (hg9 : g = (w.alloc o).heap.size ∨ lv.ownBlock = some g) :
    Two N wa lv0 its0 (.slice (some ⟨g, 0, none⟩) (its ++ [i]).length cap) (its ++ [i]) := by
  have hl : (its ++ [i]).length = its.length + 1 := by simp
  have hgr : (w.alloc o).grownBy wa lv.ownBlock := by
    rcases hlay with ⟨h1, h2⟩ | ⟨_, h2⟩
    · rw [h1]; exact h2
    · exact ⟨h2.os, h2.tape, h2.output, h2.size, fun k hk _ => h2.block k hk (fun e => by cases e)⟩
  have hP := h.made.push hi hM hlv hts hgr hown (by rcases hg9 with e | e; exact .inr e; exact .inl e)
  have key : ∀ q, q < w.heap.size → lv.ownBlock ≠ some q → wa.heap[q]? = w.heap[q]? := fun q hq hne => (hgr.block q (by rw [World.size_alloc]; omega) (fun e => hne e.symm)).trans (Below.heap_alloc _ _ _ hq)
  obtain ⟨more, hmore⟩ := h.pre
  have htag0 : ∀ q ∈ tagBs its0, q ∈ tagBs its := fun q hq => by
    obtain ⟨it, hit, hb⟩ := tagBs_mem.1 hq
    exact tagBs_mem.2 ⟨it, by rw [hmore]; exact List.mem_append_left _ hit, hb⟩
  have hgnew : ∀ q, q < w.heap.size → lv.ownBlock ≠ some q → q ≠ g := fun q hq hne e => by
    subst e
    rcases hg9 with e | e
    · rw [World.size_alloc] at e; omega
    · exact hne e
  rw [hl]
  refine ⟨hP, ⟨?_, fun it hit => own_of_block (h.old.tags it hit) (fun q hq => key q ((h.old.tags it hit).lt q hq).2 (h.made.apart q (htag0 q (tagBs_mem.2 ⟨it, hit, hq⟩)))), h.old.apart, h.old.dist⟩, ⟨more ++ [i], by rw [hmore]; simp⟩, ?_⟩
  · rcases h.rel with e | e | ⟨g0, c0, e1, e2⟩
    · exact own_of_block h.old.row (fun q hq => by rw [e] at hq; cases hq)
    · exact own_of_block h.old.row (fun q hq => key q (h.old.row.lt q hq).2 (fun e' => e (by rw [hq, e'])))
    · rw [e2]
      have hk := hkept
      rw [e1] at hk
      refine own_prefix hk (by rw [hmore]; simp) ?_
      have hf : fives its = fives its0 ++ fives more := by rw [hmore]; simp [fives]
      rw [hf, List.take_left' (by have := fives_len its0; omega)]
  · rcases h.rel with e | e | ⟨g0, c0, e1, e2⟩
    · exact .inl e
    · refine .inr (.inl ?_)
      rcases hq : lv0.ownBlock with _ | q
      · simp [Value.ownBlock]
      · simp only [Value.ownBlock, ne_eq, Option.some.injEq]
        exact hgnew q (h.old.row.lt q hq).2 (fun e' => e (by rw [hq, e']))
    · by_cases hgg : g = g0
      · subst hgg
        have hk := hkept
        rw [e1] at hk
        have hc := own_cap (by decide) hk hown
        subst hc
        exact .inr (.inr ⟨g, c0, by rw [hl], e2⟩)
      · refine .inr (.inl ?_)
        rw [e2]
        simp only [Value.ownBlock, ne_eq, Option.some.injEq]
        exact fun e => hgg e.symm
/- the next event that is read -/
theorem dec_cases (v : Int) (s : List UInt8) : (decB v s).1 = zeroEv ∨ isB (decB v s).1 = true := by
  unfold decB
  split
  · exact .inl rfl
  · split
    · exact .inl rfl
    · rename_i h; exact .inr (rd_is (by simpa using h))
theorem few_zero : Few 1048576 zeroEv := ⟨(by decide), (fun t ht => by cases ht), (by decide), (by decide)⟩
theorem bare_few (v : Int) (r : Rdr) : Few 1048576 (bareR v r).1 := by
  unfold bareR
  split
  · exact few_zero
  · simp only
    rcases dec_cases v (textR 321 r).1 with h | h
    · rw [h]; exact few_zero
    · have k := is_known h
      exact ⟨by have := k.few; omega, fun t ht => by have := k.lines t ht; omega, by have := k.task; omega, by have := k.body; omega⟩
theorem apply_len (o c : List UInt8) : (applyB o c).1.length ≤ 65536 := by
  unfold applyB
  split
  · simp
  · split
    · simp
    · split
      · simp
      · unfold joinB
        split
        · simp only [List.length_append, List.length_take, List.length_drop]; omega
        · simp
theorem body_small (old : ByteArray) (r : Rdr) : (bodyR old r).1.size ≤ 65536 := by
  unfold bodyR
  split
  · show noB.size ≤ 65536; decide
  · exact apply_len _ _
theorem evR_few (v : Int) (old : ByteArray) (r : Rdr) : Few 1048576 (evR v old r).1 := by
  have h := bare_few v r
  have h2 := body_small old (bareR v r).2
  exact ⟨h.tags, h.each, h.task, by show (bodyR old (bareR v r).2).1.size ≤ _; omega⟩
theorem last_few (l : List Ev) (h : ∀ e ∈ l, Few 1048576 e) : ∀ old : ByteArray, old.size ≤ 1048576 → (lastB old l).size ≤ 1048576 := by
  induction l with
  | nil => exact fun old ho => ho
  | cons e r ih => exact fun old _ => ih (fun x hx => h x (List.mem_cons_of_mem _ hx)) e.body (h e List.mem_cons_self).body
end Go.Proofs.YtdjllnhahhjgmaaGreat
namespace Go.Proofs.YtdjllnhahhjgmaaGreat
open Go.RowKit Chron
theorem evsR_step (v : Int) (n : Nat) (l : List Ev) (r : Rdr) : evsR v (n + 1) l r = evsR v n (l ++ [(evR v (lastB noB l) r).1]) (evR v (lastB noB l) r).2 := rfl
theorem evR_len (v : Int) (old : ByteArray) (r : Rdr) : (evR v old r).2.rest.length ≤ r.rest.length := Nat.le_trans (bodyR_len _ _) (bareR_len _ _)
theorem numR_bound (least most : Int) (r : Rdr) (h0 : 0 ≤ most) : ((numR least most r).1 : Int) ≤ most := by
  unfold numR
  split
  · simpa using h0
  · split
    · simpa using h0
    · split
      · simpa using h0
      · rename_i h; show (_ : Int) ≤ _; omega
theorem wpList_append_keptL {P : Program} (w : World) {ops : Array Oper} {rest : List Oper} {o : Oper} {a : Act} {Q : Exit → Act → World → Prop} (hgd : o.guard = none) (s x : Operand) (t : TypeId)
    (ho : o.op = .call { callee := .builtin .append, args := #[s, x], argTypes := #[t, t] })
    (base : Nat) (e : TypeId) (i : TypeInfo) (z : Value) (size bytes : Nat) (ht : P.underlying t = some (.slice e)) (hi : P.info? e = some i) (hz : i.zero = some z)
    (hsize : i.size = size) (hby : i.bytes = bytes) (hzs : z.cells.size = size) (hpos : 0 < size)
    (v : Value) (n : Nat) (xs : List Value) (hs : a.eval s = v) (hown : w.ownsRow base e size v n xs)
    (ad : Addr) (m c : Nat) (news : List Value) (hx : a.eval x = .slice (some ad) m c) (hl : news.length = m * size) (hnews : ∀ j u, news[j]? = some u → w.cell? (ad.add j) = some u) (h1 : ∀ u ∈ news, u.oneCell' = true)
    (hm : 0 < m) (h63 : n + m ≤ maxLen) (hbytes : (n + m) * bytes ≤ 140737488355328) (hbase : base ≤ w.heap.size)
    (h : ∀ g cap w', w'.ownsRow base e size (.slice (some ⟨g, 0, none⟩) (n + m) cap) (n + m) (xs ++ news) → w'.ownsRow base e size v n xs → Lay w w' v g w.heap.size → (g = w.heap.size ∨ v.ownBlock = some g) → wpList P ops Q rest (a.put o.dst (.slice (some ⟨g, 0, none⟩) (n + m) cap)) w') : wpList P ops Q (o :: rest) a w := by
  refine wpList_plain hgd fun K hK => ?_
  obtain ⟨g, cap, w', hr, h2, h3, h4⟩ := run_append_keptG (P := P) w t o.type base e i z size bytes ht hi hz hsize hby hzs hpos v n xs hown ad m c news hl hnews h1 hm h63 hbytes hbase
  obtain ⟨g', cap', w'', hr', _, _, k4, _⟩ := run_append_lies (P := P) w t o.type base e i z size bytes ht hi hz hsize hby hzs hpos v n xs hown ad m c news hl hnews h1 hm h63 hbytes hbase w.heap.size rfl
  have hg : g = g' := by
    rw [hr] at hr'
    simp only [Result.ok.injEq, Value.slice.injEq, Option.some.injEq, Addr.mk.injEq] at hr'
    exact hr'.1.1.1
  subst hg
  unfold Oper.wp execOp
  simp only [ho, resolve, invoke, builtin, Sem.run_bind, Sem.run_pure, Result.andThen_ok, List.map_toArray, List.map_cons, List.map_nil, hs, hx, hr]
  exact hK _ _ (h g cap w' h2 h3 h4 (k4.elim .inr .inl))
set_option maxRecDepth 100000 in
set_option maxHeartbeats 1000000 in
theorem aEntry_any (N R : Nat) (r : Rdr) (la : Option Addr) (lc : Nat) (its0 : List Item) (w : World) (h : Hid (RdAt R w r)) (hM : Hid (MadeO N w (.slice la its0.length lc) its0)) (hN : R < N) (hNw : N ≤ w.heap.size) (hs : r.rest.length ≤ 281474976710656) (hf : Hid (∀ e ∈ evs its0, Few 1048576 e)) (hl : its0.length ≤ 200) :
    Calls Tryz.prog 52 #[.pointer (some ⟨R, 0, none⟩), .slice la its0.length lc] w fun e w' => ∃ (va : Option Addr) (vc : Nat) (its : List Item), e = .returned (.slice va its.length vc) ∧ Hid (Two N w' (.slice la its0.length lc) its0 (.slice va its.length vc) its) ∧ Hid (evs its = (entryR (evs its0) r).1) ∧ Hid (RdAt R w' (entryR (evs its0) r).2) ∧ Hid (Below R w w') ∧ Hid (∀ e ∈ evs its, Few 1048576 e) ∧ its.length ≤ 200 := by
  have hes : (evs its0).length = its0.length := by simp [evs]
  have hN1 := aNumber_any R r 1 3 w h hs
  have hlen1 := numR_len 1 3 r
  have HE : Hid (entryR (evs its0) r = evsR (numR 1 3 r).1 (numR 1 (200 - ((evs its0).length : Int)) (numR 1 3 r).2).1 (evs its0) (numR 1 (200 - ((evs its0).length : Int)) (numR 1 3 r).2).2) := rfl
  rw [hes] at HE
  generalize numR 1 3 r = n1 at *
  obtain ⟨v, r1⟩ := n1
  simp only at hN1 hlen1 HE
  have hN2 := fun w' (hh : Hid (RdAt R w' r1)) => aNumber_any R r1 1 (200 - (its0.length : Int)) w' hh (by omega)
  have hlen2 := numR_len 1 (200 - (its0.length : Int)) r1
  have hbd := numR_bound 1 (200 - (its0.length : Int)) r1 (by omega)
  generalize numR 1 (200 - (its0.length : Int)) r1 = n2 at *
  obtain ⟨n, r2⟩ := n2
  simp only at hN2 hlen2 HE hbd
  go_enter Tryz.func52, Tryz.ntmps52
  go_wp2_with fail
  refine hN1.mono ?_
  rintro e w1 ⟨rfl, H1, HF1⟩
  have HM1 := hide0 (hM.out.keep (w' := w1) (fun q h1 h2 => HF1.out.block q h2 (by simp; omega)))
  go_wp2_with fail
  refine (hN2 _ H1).mono ?_
  rintro e w2 ⟨rfl, H2, HF2⟩
  have hs1 := HF1.out.size
  have hs2 := HF2.out.size
  have HM2 := hide0 (HM1.out.keep (w' := w2) (fun q h1 h2 => HF2.out.block q h2 (by simp; omega)))
  have HB2 := hide0 ((HF1.out.trans HF2.out).below (B := R) (by have := h.out.lt; omega) (fun q hq => by simp at hq; omega))
  clear hN1 hN2 HF1 HF2 HM1 H1
  obtain ⟨i0, hi, hz0, hz1, hz2⟩ := info_parts infoEvent5
  have hTS := hide0 (Two.start HM2.out)
  clear HM2 hM
  go_wp2_with fail
  go_loopw [1, 16] (fun lv iv wx => ∃ (i : Nat) (its : List Item) (va : Option Addr) (vc : Nat) (rr : Rdr), i ≤ n ∧ iv = .int .i64 i ∧ lv = .slice va its.length vc ∧ Hid (its.length = its0.length + i) ∧ rr.rest.length ≤ r2.rest.length ∧ Hid (Two N wx (.slice la its0.length lc) its0 (.slice va its.length vc) its) ∧ Hid (evsR v (n - i) (evs its) rr = evsR v n (evs its0) r2) ∧ Hid (RdAt R wx rr) ∧ Hid (Below R w wx) ∧ Hid (∀ e ∈ evs its, Few 1048576 e)) (fun _ i _ => n - (intOf i).toNat)
  case atStart => exact ⟨0, its0, la, lc, r2, Nat.zero_le _, rfl, rfl, hide0 rfl, Nat.le_refl _, hTS, by show _ = _; rfl, H2, HB2, hf⟩
  case round =>
    obtain ⟨i, its, va, vc, rr, hin, rfl, rfl, HIL, hrr, HT, HS, HR, HB, HFW⟩ := hrel
    clear hTS H2 HB2 hf
    by_cases hlt : i < n
    · have hil : its.length < 200 := by have := HIL.out; omega
      have hRlt := HR.out.lt
      have hsw := HB.out.size
      have hbare := aBare_any R rr v wr HR (by omega)
      have hbl := bareR_len v rr
      have hbf := bare_few v rr
      have HEV : Hid (evR v (lastB noB (evs its)) rr = (⟨(bareR v rr).1.kind, (bareR v rr).1.task, (bareR v rr).1.time, (bodyR (lastB noB (evs its)) (bareR v rr).2).1, (bareR v rr).1.tags⟩, (bodyR (lastB noB (evs its)) (bareR v rr).2).2)) := rfl
      have HEF := hide0 (evR_few v (lastB noB (evs its)) rr)
      have HEL := hide0 (evR_len v (lastB noB (evs its)) rr)
      have HSN : Hid (evsR v (n - i) (evs its) rr = evsR v (n - (i + 1)) (evs its ++ [(evR v (lastB noB (evs its)) rr).1]) (evR v (lastB noB (evs its)) rr).2) := by
        show _ = _
        rw [show n - i = (n - (i + 1)) + 1 by omega, evsR_step]
      generalize bareR v rr = br at *
      obtain ⟨⟨k, t, m, b, ts⟩, r3⟩ := br
      simp only at hbare hbl HEV
      have hlf := last_few (evs its) HFW.out noB (by decide)
      generalize hold : lastB noB (evs its) = old at *
      have hbody := fun w' (hh : Hid (RdAt R w' r3)) => aBody_any R r3 old w' hh (by omega) (by omega)
      generalize bodyR old r3 = bd at *
      obtain ⟨nb, r4⟩ := bd
      simp only at hbody HEV
      go_wp2_with fail
      refine hbare.mono ?_
      rintro e w3 ⟨xa, xc, rfl, HOX, H3, HF3⟩
      simp only [evVal]
      have hs3 := HF3.out.size
      have HT3 := hide0 (HT.out.keep (w' := w3) (fun q h1 h2 => HF3.out.block q h2 (by simp; omega)))
      have HL3 := hide0 (And.intro (fun q hq => (HT.out.made.row.lt q hq).2) (fun q (hq : q ∈ tagBs its) => (HT.out.made.tag_lt hq).2) : (∀ q, Value.ownBlock (.slice va its.length vc) = some q → q < wr.heap.size) ∧ ∀ q ∈ tagBs its, q < wr.heap.size)
      obtain ⟨va', vc', hvv, hE3⟩ := HT3.out.made.made.evs (fun it hit => HFW.out it.ev (List.mem_map.2 ⟨it, hit, rfl⟩))
      cases hvv
      have HBW3 := hide0 (HB.out.trans (HF3.out.below (B := R) (by omega) (fun q hq => by simp at hq; omega)))
      have hLB := lastBody_any va vc its (w3.alloc (.cells #[.int .i64 k, .string t, .int .i64 m, .string b, .slice xa ts.length xc] 38)) (hE3.below ((Below.refl _ _).alloc (Nat.le_refl _) _) (Nat.le_refl _)) (by omega)
      rw [hold] at hLB
      have H4 := hide0 (H3.out.more ((Below.refl _ _).alloc (Nat.le_refl _) (.cells #[.int .i64 k, .string t, .int .i64 m, .string b, .slice xa ts.length xc] 38)))
      clear hbare hE3 HT HB HR
      go_wp2_with fail
      refine hLB.mono ?_
      rintro e w4 ⟨rfl, hw4⟩
      have hw5 := hw4.symm
      subst hw5
      go_wp2_with fail
      refine (hbody _ H4).mono ?_
      rintro e w5 ⟨rfl, H5, HF5⟩
      have hbx : w5.heap[w3.heap.size]? = some (.cells #[.int .i64 k, .string t, .int .i64 m, .string b, .slice xa ts.length xc] 38) := (HF5.out.block _ (by simp) (by simp; omega)).trans (heap_alloc_new w3 _)
      obtain ⟨b0, b1, b2, b3, b4, bz⟩ := res_cells hbx
      have hs5 := HF5.out.size
      rw [World.size_alloc] at hs5
      have key : ∀ q, q < w3.heap.size → q ≠ R → (w5.setCell ⟨w3.heap.size, 3, none⟩ (.string nb)).heap[q]? = w3.heap[q]? := fun q h1 h2 => (Below.heap_setCell _ _ _ _ (by show q ≠ w3.heap.size; omega)).trans ((HF5.out.block q (by simp; omega) (by simp; omega)).trans (Below.heap_alloc _ _ _ h1))
      have HT6 := hide0 (HT3.out.keep (w' := w5.setCell ⟨w3.heap.size, 3, none⟩ (.string nb)) (fun q h1 h2 => key q h2 (by omega)))
      have HO6 := hide0 (own_of_block HOX.out (w' := w5.setCell ⟨w3.heap.size, 3, none⟩ (.string nb)) (fun q hq => key q (HOX.out.lt q hq).2 (by have := (HOX.out.lt q hq).1; omega)))
      have H6 : Hid (RdAt R (w5.setCell ⟨w3.heap.size, 3, none⟩ (.string nb)) r4) := (Below.heap_setCell _ _ _ _ (by show R ≠ w3.heap.size; omega)).trans H5.out
      have HB6 : Hid (Below R w (w5.setCell ⟨w3.heap.size, 3, none⟩ (.string nb))) := (((HBW3.out.alloc (by omega) _).trans (HF5.out.below (B := R) (by simp; omega) (fun q hq => by simp at hq; omega)))).setCell (by show R ≤ w3.heap.size; omega) _
      have hs6 : (w5.setCell ⟨w3.heap.size, 3, none⟩ (.string nb)).heap.size = w5.heap.size := by simp [World.setCell]
      have c6 : ∀ o, (w5.setCell ⟨w3.heap.size, 3, none⟩ (.string nb)).heap[w3.heap.size]? = some (.cells #[.int .i64 k, .string t, .int .i64 m, .string nb, .slice xa ts.length xc] 38) ∧ o = o := fun (o : Nat) => ⟨(by
        simp only [World.setCell, Array.getElem?_modify, if_true, hbx, Option.map_some]; rfl), rfl⟩
      have hNew := five_new (w5.setCell ⟨w3.heap.size, 3, none⟩ (.string nb)) ⟨⟨k, t, m, nb, ts⟩, xa, xc⟩
      have hrow := HT6.out.made.row
      clear hbody hLB HT3 HOX H5 HF5 key H4 H3 HF3 c6
      rw [hs6] at hNew
      have hbase : N ≤ ((w5.setCell ⟨w3.heap.size, 3, none⟩ (.string nb)).alloc (.cells #[.int .i64 k, .string t, .int .i64 m, .string nb, .slice xa ts.length xc] 38)).heap.size := by rw [World.size_alloc, hs6]; omega
      go_wp2_with (first
        | (at_builtin; go_must (refine wpList_append_keptL _ rfl _ _ 33 rfl N 38 i0 (.agg #[.int .i64 0, .string ⟨#[]⟩, .int .i64 0, .string ⟨#[]⟩, .slice none 0 0]) 5 72 Tryz.underlying33 hi hz0 hz1 hz2 rfl (by decide) (.slice va its.length vc) its.length (fives its) rfl (hrow.alloc _) ⟨w5.heap.size, 0, none⟩ 1 1 (Item.five ⟨⟨k, t, m, nb, ts⟩, xa, xc⟩) rfl rfl hNew (five_one _) Nat.one_pos (by unfold maxLen; omega) (by omega) hbase ?_)
           intro g gcap wa hown hkept hlay hg9))
      have hgr : ((w5.setCell ⟨w3.heap.size, 3, none⟩ (.string nb)).alloc (.cells #[.int .i64 k, .string t, .int .i64 m, .string nb, .slice xa ts.length xc] 38)).grownBy wa (Value.ownBlock (.slice va its.length vc)) := by
        rcases hlay with ⟨h1, h2⟩ | ⟨_, h2⟩
        · rw [h1]; exact h2
        · exact ⟨h2.os, h2.tape, h2.output, h2.size, fun k hk _ => h2.block k hk (fun e => by cases e)⟩
      have HTP := hide0 (Two.push (M := wr.heap.size) (i := ⟨⟨k, t, m, nb, ts⟩, xa, xc⟩) HT6.out HO6.out (by omega) HL3.out.1 HL3.out.2 hown hkept hlay hg9)
      have HR7 : Hid (RdAt R wa r4) := (hgr.block R (by rw [World.size_alloc, hs6]; omega) (fun e => by have := (hrow.lt R e.symm).1; omega)).trans ((Below.heap_alloc _ _ _ (by rw [hs6]; omega)).trans H6.out)
      have HB7 := hide0 (Below.grown (HB6.out.alloc (by rw [hs6]; omega) _) hgr (by rw [World.size_alloc, hs6]; omega) (fun q hq => by have := (hrow.lt q hq).1; omega))
      have HEV2 : Hid (evs (its ++ [⟨⟨k, t, m, nb, ts⟩, xa, xc⟩]) = evs its ++ [(evR v old rr).1] ∧ r4 = (evR v old rr).2) := by
        rw [HEV.out]; exact ⟨by simp [evs], rfl⟩
      clear hown hkept hlay hg9 hgr hrow hNew hbase
      go_wp2
      go_roundw
      case rel => exact ⟨i + 1, its ++ [⟨⟨k, t, m, nb, ts⟩, xa, xc⟩], some ⟨g, 0, none⟩, gcap, r4, by omega, by go_num, by simp, by show _ = _; simp; have := HIL.out; omega, by rw [HEV2.out.2]; have := HEL.out; omega, by simpa using HTP, by rw [HEV2.out.1, HEV2.out.2]; exact hide0 (HSN.out.symm.trans HS.out), HR7, HB7, by rw [HEV2.out.1]; exact hide0 (fun e he => by rcases List.mem_append.1 he with h | h; exact HFW.out e h; simp at h; rw [h]; exact HEF.out)⟩
      case measure => simp [intOf]; omega
    · have hni : n - i = 0 := by omega
      have HZ : Hid (evsR v (n - i) (evs its) rr = (evs its, rr)) := by show _ = _; rw [hni]; rfl
      have HX := hide0 (HE.out.trans (HS.out.symm.trans HZ.out))
      have hl9 : its.length ≤ 200 := by have := HIL.out; omega
      clear hni
      go_wp2
      go_ret
      exact ⟨va, vc, its, rfl, HT, by rw [HX.out]; exact hide0 rfl, by rw [HX.out]; exact HR, HB, HFW, hl9⟩
end Go.Proofs.YtdjllnhahhjgmaaGreat
namespace Chron
open Go Go.RowKit
theorem readF_took : ∀ (f : Nat) (b : Bool) (l : List UInt8) (n : Nat) (r : List UInt8), readF f b l = some (n, r) → l.length ≤ r.length + f
  | 0, _, _, _, _, h => by simp [readF] at h
  | f + 1, _, [], _, _, h => by simp [readF] at h
  | f + 1, b, c :: l, n, r, h => by
    unfold readF at h
    split at h
    · split at h
      · cases h
      · simp only [Option.some.injEq, Prod.mk.injEq] at h
        rw [← h.2]; simp
    · rcases hq : readF f false l with _ | ⟨m, r'⟩
      · rw [hq] at h; cases h
      · rw [hq] at h
        simp only [Option.some.injEq, Prod.mk.injEq] at h
        have := readF_took f false l m r' hq
        rw [← h.2]; simp; omega
/- what a reader took that isn't stopped behind it -/
structure Took (c : Nat) (r r' : Rdr) : Prop where
  was : r.stop = false
  le : r'.rest.length ≤ r.rest.length
  most : r.rest.length ≤ r'.rest.length + c
theorem Took.trans {c d : Nat} {a b e : Rdr} (h : Took c a b) (k : Took d b e) : Took (c + d) a e :=
  ⟨h.was, by have := h.le; have := k.le; omega, by have := h.most; have := k.most; omega⟩
theorem fail_stop (r : Rdr) : r.fail.stop = true := by simp [Rdr.fail, Rdr.stop]
theorem over_stop (r : Rdr) : r.over.stop = true := by simp [Rdr.over, Rdr.stop]
theorem cutNumR_stop (most : Int) (r : Rdr) : (cutNumR most r).stop = true := by
  unfold cutNumR
  split
  · exact fail_stop r
  · split
    · exact fail_stop r
    · exact over_stop r
theorem numR_took {least most : Int} {r : Rdr} (h : (numR least most r).2.stop = false) :
    Took 9 r (numR least most r).2 ∧ (numR least most r).2.rest.length < r.rest.length ∧ least ≤ ((numR least most r).1 : Int) ∧ ((numR least most r).1 : Int) ≤ most := by
  by_cases hs : r.stop = true
  · have e : numR least most r = (0, r) := if_pos hs
    rw [e] at h
    simp only at h
    rw [hs] at h; cases h
  · rcases hq : readNum r.rest with _ | ⟨n, q⟩
    · have e : numR least most r = (0, cutNumR most r) := by unfold numR; rw [if_neg hs, hq]
      rw [e] at h
      simp only at h
      rw [cutNumR_stop] at h; cases h
    · by_cases hb : (n : Int) < least ∨ most < (n : Int)
      · have e : numR least most r = (0, r.fail) := by unfold numR; rw [if_neg hs, hq]; exact if_pos hb
        rw [e] at h
        simp only at h
        rw [fail_stop] at h; cases h
      · have e : numR least most r = (n, ⟨q, r.cut, r.wrong⟩) := by unfold numR; rw [if_neg hs, hq]; exact if_neg hb
        rw [e]
        have h1 := readF_len 9 true _ _ _ hq
        have h2 := readF_took 9 true _ _ _ hq
        exact ⟨⟨by simpa using hs, Nat.le_of_lt h1, h2⟩, h1, by simp only; omega, by simp only; omega⟩
theorem textR_took {most : Int} {c : Nat} {r : Rdr} (hm : most = (c : Int)) (h : (textR most r).2.stop = false) : Took (9 + c) r (textR most r).2 := by
  by_cases hl : (numR 0 most r).2.rest.length < (numR 0 most r).1
  · have e : textR most r = ([], (numR 0 most r).2.over) := if_pos hl
    rw [e] at h
    simp only at h
    rw [over_stop] at h; cases h
  · have e : textR most r = ((numR 0 most r).2.rest.take (numR 0 most r).1, ⟨(numR 0 most r).2.rest.drop (numR 0 most r).1, (numR 0 most r).2.cut, (numR 0 most r).2.wrong⟩) := if_neg hl
    rw [e] at h ⊢
    obtain ⟨h1, _, _, h4⟩ := numR_took (least := 0) (most := most) (r := r) h
    refine h1.trans ⟨h, ?_, ?_⟩
    · simp only [List.length_drop]; omega
    · simp only [List.length_drop]; omega
theorem dec_is {v : Int} {s : List UInt8} (h : (decB v s).2 = 0) : isB (decB v s).1 = true := by
  unfold decB at h ⊢
  split at h
  · simp at h
  · rename_i h1
    split at h
    · simp at h
    · rename_i h2
      rw [if_neg h1, if_neg h2]
      exact rd_is (by simpa using h2)
theorem bareR_took {v : Int} {r : Rdr} (h : (bareR v r).2.stop = false) : Took 330 r (bareR v r).2 ∧ isB (bareR v r).1 = true := by
  by_cases hs : (textR 321 r).2.stop = true
  · have e : bareR v r = (zeroEv, (textR 321 r).2) := if_pos hs
    rw [e] at h
    simp only at h
    rw [hs] at h; cases h
  · have e : bareR v r = ((decB v (textR 321 r).1).1, if bareOk (decB v (textR 321 r).1) = true then (textR 321 r).2 else (textR 321 r).2.fail) := if_neg hs
    by_cases hk : bareOk (decB v (textR 321 r).1) = true
    · rw [if_pos hk] at e
      rw [e] at h ⊢
      refine ⟨textR_took (most := 321) (c := 321) rfl h, ?_⟩
      simp only [bareOk, Bool.and_eq_true, decide_eq_true_eq] at hk
      exact dec_is hk.1
    · rw [if_neg hk] at e
      rw [e] at h
      simp only at h
      rw [fail_stop] at h; cases h
theorem bodyR_took {old : ByteArray} {r : Rdr} (h : (bodyR old r).2.stop = false) : Took 71 r (bodyR old r).2 ∧ lineB (bodyR old r).1 = true := by
  by_cases hs : (textR 62 r).2.stop = true
  · have e : bodyR old r = (noB, (textR 62 r).2) := if_pos hs
    rw [e] at h
    simp only at h
    rw [hs] at h; cases h
  · have e : bodyR old r = (⟨(applyB old.data.toList (textR 62 r).1).1.toArray⟩, if bodyOk (applyB old.data.toList (textR 62 r).1) = true then (textR 62 r).2 else (textR 62 r).2.fail) := if_neg hs
    by_cases hk : bodyOk (applyB old.data.toList (textR 62 r).1) = true
    · rw [if_pos hk] at e
      rw [e] at h ⊢
      refine ⟨textR_took (most := 62) (c := 62) rfl h, ?_⟩
      simp only [bodyOk, Bool.and_eq_true, decide_eq_true_eq] at hk
      exact hk.2
    · rw [if_neg hk] at e
      rw [e] at h
      simp only at h
      rw [fail_stop] at h; cases h
theorem is_body {e : Ev} {b : ByteArray} (h : isB e = true) (hb : lineB b = true) : isB ⟨e.kind, e.task, e.time, b, e.tags⟩ = true := by
  simp only [isB, Bool.and_eq_true] at h ⊢
  exact ⟨h.1, h.2.1, h.2.2.1, h.2.2.2.1, h.2.2.2.2.1, hb, h.2.2.2.2.2.2⟩
theorem evR_took {v : Int} {old : ByteArray} {r : Rdr} (h : (evR v old r).2.stop = false) : Took 401 r (evR v old r).2 ∧ isB (evR v old r).1 = true := by
  obtain ⟨h1, h2⟩ := bodyR_took (old := old) (r := (bareR v r).2) h
  obtain ⟨h3, h4⟩ := bareR_took (v := v) (r := r) h1.was
  exact ⟨h3.trans h1, is_body h4 h2⟩
theorem evsR_took {v : Int} : ∀ (n : Nat) (l : List Ev) (r : Rdr), (evsR v n l r).2.stop = false → (∀ e ∈ l, isB e = true) → Took (401 * n) r (evsR v n l r).2 ∧ (∀ e ∈ (evsR v n l r).1, isB e = true) ∧ (evsR v n l r).1.length = l.length + n
  | 0, l, r, h, hl => ⟨⟨h, Nat.le_refl _, Nat.le_refl _⟩, hl, rfl⟩
  | n + 1, l, r, h, hl => by
    have hstop : ∀ (n : Nat) (l : List Ev) (r : Rdr), (evsR v n l r).2.stop = false → r.stop = false := by
      intro n
      induction n with
      | zero => exact fun l r h => h
      | succ n ih => exact fun l r h => (evR_took (ih _ _ h)).1.was
    have h1 := hstop n _ _ h
    obtain ⟨h2, h3⟩ := evR_took h1
    obtain ⟨h4, h5, h6⟩ := evsR_took n (l ++ [(evR v (lastB noB l) r).1]) (evR v (lastB noB l) r).2 h (fun e he => by
      rcases List.mem_append.1 he with h | h
      · exact hl e h
      · simp at h; rw [h]; exact h3)
    refine ⟨?_, h5, ?_⟩
    · have := h2.trans h4
      rw [show 401 * (n + 1) = 401 + 401 * n by omega]
      exact this
    · show (evsR v n (l ++ [(evR v (lastB noB l) r).1]) (evR v (lastB noB l) r).2).1.length = _
      rw [h6]; simp; omega
theorem entryR_took {l : List Ev} {r : Rdr} (h : (entryR l r).2.stop = false) (hl : ∀ e ∈ l, isB e = true) :
    r.stop = false ∧ (entryR l r).2.rest.length < r.rest.length ∧ (∀ e ∈ (entryR l r).1, isB e = true) ∧ (entryR l r).1.length ≤ 200 ∧ r.rest.length + 419 * l.length ≤ (entryR l r).2.rest.length + 419 * (entryR l r).1.length := by
  obtain ⟨h1, h2, h3⟩ := evsR_took (v := (numR 1 3 r).1) _ l _ h hl
  obtain ⟨k1, k2, k3, k4⟩ := numR_took h1.was
  obtain ⟨m1, m2, m3, m4⟩ := numR_took k1.was
  refine ⟨m1.was, ?_, h2, ?_, ?_⟩
  · have := h1.le
    show (evsR (numR 1 3 r).1 (numR 1 (200 - (l.length : Int)) (numR 1 3 r).2).1 l (numR 1 (200 - (l.length : Int)) (numR 1 3 r).2).2).2.rest.length < _
    omega
  · show (evsR (numR 1 3 r).1 (numR 1 (200 - (l.length : Int)) (numR 1 3 r).2).1 l (numR 1 (200 - (l.length : Int)) (numR 1 3 r).2).2).1.length ≤ _
    omega
  · have a1 := h1.most
    have a2 := k1.most
    have a3 := m1.most
    show r.rest.length + 419 * l.length ≤ (evsR (numR 1 3 r).1 (numR 1 (200 - (l.length : Int)) (numR 1 3 r).2).1 l (numR 1 (200 - (l.length : Int)) (numR 1 3 r).2).2).2.rest.length + 419 * (evsR (numR 1 3 r).1 (numR 1 (200 - (l.length : Int)) (numR 1 3 r).2).1 l (numR 1 (200 - (l.length : Int)) (numR 1 3 r).2).2).1.length
    omega
theorem readR_any (size : Nat) : ∀ (f : Nat) (l : List Ev) (whole : Nat) (r : Rdr), (∀ e ∈ l, isB e = true) → l.length ≤ 200 → whole = size - r.rest.length → r.rest.length ≤ size → whole ≤ 419 * l.length →
    (∀ e ∈ (readR size f l whole r).1, isB e = true) ∧ (readR size f l whole r).1.length ≤ 200 ∧ (readR size f l whole r).2.1 ≤ size ∧ (readR size f l whole r).2.1 ≤ 419 * (readR size f l whole r).1.length
  | 0, l, whole, r, h1, h2, h3, h4, h5 => ⟨h1, h2, by show whole ≤ size; omega, h5⟩
  | f + 1, l, whole, r, h1, h2, h3, h4, h5 => by
    unfold readR
    split
    · exact ⟨h1, h2, by show whole ≤ size; omega, h5⟩
    · split
      · exact ⟨h1, h2, by show whole ≤ size; omega, h5⟩
      · rename_i hs
        obtain ⟨k1, k2, k3, k4, k5⟩ := entryR_took (by simpa using hs) h1
        exact readR_any size f _ _ _ k3 k4 rfl (by omega) (by omega)
theorem readB_any (file : List UInt8) : (∀ e ∈ (readB file).1, isB e = true) ∧ (readB file).1.length ≤ 200 ∧ (readB file).2.1 ≤ file.length ∧ (readB file).2.1 ≤ 83800 := by
  obtain ⟨h1, h2, h3, h4⟩ := readR_any file.length file.length [] 0 ⟨file, false, false⟩ (fun e he => by cases he) (by simp) (by simp) (by simp) (by simp)
  refine ⟨h1, h2, h3, ?_⟩
  show (readR file.length file.length [] 0 ⟨file, false, false⟩).2.1 ≤ _
  omega
end Chron
namespace Go.Proofs.YtdjllnhahhjgmaaGreat
open Go.RowKit Chron
theorem restLen_rd {R : Nat} {w : World} {r : Rdr} (h : RdAt R w r) : restLen R w = r.rest.length := by rw [restLen, h.cells.1]; rfl
theorem few_evs {its : List Item} (h : ∀ e ∈ evs its, isB e = true) : ∀ e ∈ evs its, Few 1048576 e := by
  intro e he
  have k := is_known (h e he)
  exact ⟨by have := k.few; omega, fun t ht => by have := k.lines t ht; omega, by have := k.task; omega, by have := k.body; omega⟩
theorem readR_stop {size f : Nat} {l : List Ev} {whole : Nat} {r : Rdr} (hr : r.rest ≠ []) (hf : r.rest.length ≤ f) (h : (entryR l r).2.stop = true) : readR size f l whole r = (l, whole, !(entryR l r).2.wrong) := by
  obtain ⟨g, rfl⟩ : ∃ g, f = g + 1 := ⟨f - 1, by have := List.length_pos_iff.2 hr; omega⟩
  rw [readR, if_neg hr, if_pos h]
theorem readR_on {size f : Nat} {l : List Ev} {whole : Nat} {r : Rdr} (hr : r.rest ≠ []) (hf : r.rest.length ≤ f) (h : (entryR l r).2.stop = false) : readR size f l whole r = readR size (f - 1) (entryR l r).1 (size - (entryR l r).2.rest.length) (entryR l r).2 := by
  obtain ⟨g, rfl⟩ : ∃ g, f = g + 1 := ⟨f - 1, by have := List.length_pos_iff.2 hr; omega⟩
  rw [readR, if_neg hr, if_neg (by rw [h]; decide)]
  rfl
theorem readR_end {size f : Nat} {l : List Ev} {whole : Nat} {r : Rdr} (hr : r.rest = []) : readR size f l whole r = (l, whole, !r.wrong) := by
  cases f with
  | zero => rfl
  | succ f => rw [readR, if_pos hr]
set_option maxRecDepth 100000 in
set_option maxHeartbeats 1000000 in
theorem aRead_any (file : List UInt8) (w : World) (hs : file.length ≤ 281474976710656) :
    Calls Tryz.prog 39 #[.string ⟨file.toArray⟩] w fun e w' => ∃ (va : Option Addr) (vc : Nat) (its : List Item), e = .returned (.tuple #[.slice va its.length vc, .int .i64 (readB file).2.1, .bool (readB file).2.2]) ∧ Hid (evs its = (readB file).1) ∧ Hid (MadeO (w.heap.size + 1) w' (.slice va its.length vc) its) ∧ Hid (Below w.heap.size w w') := by
  have hlen : ((⟨file.toArray⟩ : ByteArray).size : Int) = (file.length : Int) := rfl
  go_enter Tryz.func39, Tryz.ntmps39
  go_wp2_with fail
  go_loopw [2, 3] (fun lv hv wx => ∃ (its : List Item) (va : Option Addr) (vc : Nat) (rr : Rdr) (f whole : Nat), lv = .slice va its.length vc ∧ hv = .int .i64 whole ∧ rr.rest.length ≤ f ∧ rr.rest.length ≤ file.length ∧ its.length ≤ 200 ∧ Hid (rr.stop = false) ∧ Hid (readR file.length f (evs its) whole rr = readB file) ∧ Hid (MadeO (w.heap.size + 1) wx (.slice va its.length vc) its) ∧ Hid (RdAt w.heap.size wx rr) ∧ Hid (Below w.heap.size w wx) ∧ Hid (∀ e ∈ evs its, isB e = true)) (fun _ _ wx => restLen w.heap.size wx)
  case atStart => exact ⟨[], none, 0, ⟨file, false, false⟩, file.length, 0, rfl, rfl, Nat.le_refl _, Nat.le_refl _, by simp, by show _ = _; rfl, by show _ = _; rfl, ⟨World.ownsRow_nil _ _ _ _, (fun _ h => by cases h), (fun _ h => by simp [tagBs] at h), by simp [tagBs]⟩, heap_alloc_new w _, (Below.refl _ _).alloc (Nat.le_refl _) _, fun e he => by simp [evs] at he⟩
  case round =>
    obtain ⟨its, va, vc, rr, f, whole, rfl, rfl, hf, hrl, hl2, HST, HRD, HM, HR, HB, HG⟩ := hrel
    obtain ⟨c0, c1, c2, cz⟩ := HR.out.cells
    by_cases hz : rr.rest = []
    · have HE := hide0 (HRD.out.symm.trans (readR_end hz))
      have hcmp : rr.rest.isEmpty = true := by rw [hz]; rfl
      clear hz
      go_wp2_with fail
      trace_state
      go_quiet (fail)
      go_wp2
      go_ret3
      exact ⟨va, vc, its, by rw [HE.out]; rfl, by rw [HE.out]; exact hide0 rfl, hide0 (HM.out.keep (fun q _ _ => rfl)), hide0 (HB.out.trans ⟨rfl, rfl, rfl, Nat.le_refl _, fun _ _ => rfl⟩)⟩
    · have hcmp : rr.rest.isEmpty = false := by simpa using hz
      have hnw := HB.out.size
      have hrlt := HR.out.lt
      have hent := aEntry_any (w.heap.size + 1) w.heap.size rr va vc its wr HR HM (by omega) (by omega) (by omega) (few_evs HG.out) hl2
      by_cases hst : (entryR (evs its) rr).2.stop = true
      · have HE := hide0 (HRD.out.symm.trans (readR_stop hz hf hst))
        clear hz
        go_wp2_with fail
        refine hent.mono ?_
        rintro e w1 ⟨va1, vc1, its1, rfl, HT1, HEV1, HR1, HB1, _, _⟩
        go_wp2_with (go_at_call 53; refine (aStopped_any _ _ _ HR1).mono ?_; rintro e w' ⟨rfl, hw'⟩; have hw2 := hw'.symm; subst hw2)
        obtain ⟨d0, d1, d2, dz⟩ := HR1.out.cells
        go_wp2_with fail
        go_quiet (fail)
        go_wp2
        go_ret3
        exact ⟨va, vc, its, by rw [HE.out]; rfl, by rw [HE.out]; exact hide0 rfl, hide0 (HT1.out.old.keep (fun q _ _ => rfl)), hide0 (HB.out.trans (HB1.out.trans ⟨rfl, rfl, rfl, Nat.le_refl _, fun _ _ => rfl⟩))⟩
      · have hst' : (entryR (evs its) rr).2.stop = false := by simpa using hst
        have HON := hide0 (HRD.out.symm.trans (readR_on hz hf hst'))
        obtain ⟨k1, k2, k3, k4, k5⟩ := entryR_took hst' HG.out
        have HK3 := hide0 k3
        have hpos := List.length_pos_iff.2 hz
        have HS2 := hide0 hst'
        clear hz k3
        go_wp2_with fail
        refine hent.mono ?_
        rintro e w1 ⟨va1, vc1, its1, rfl, HT1, HEV1, HR1, HB1, _, hl3⟩
        go_wp2_with (go_at_call 53; refine (aStopped_any _ _ _ HR1).mono ?_; rintro e w' ⟨rfl, hw'⟩; have hw2 := hw'.symm; subst hw2)
        obtain ⟨d0, d1, d2, dz⟩ := HR1.out.cells
        have HM9 := hide0 (restLen_rd HR.out)
        go_wp2_with fail
        go_quiet (fail)
        go_wp2
        go_roundw
        case rel => exact ⟨its1, va1, vc1, (entryR (evs its) rr).2, f - 1, file.length - (entryR (evs its) rr).2.rest.length, rfl, by go_num, by omega, by omega, hl3, HS2, by rw [HEV1.out]; exact hide0 HON.out.symm, hide0 (HT1.out.made.keep (fun q _ _ => rfl)), HR1, hide0 (HB.out.trans (HB1.out.trans ⟨rfl, rfl, rfl, Nat.le_refl _, fun _ _ => rfl⟩)), by rw [HEV1.out]; exact HK3⟩
        case measure => rw [show restLen w.heap.size (w1.drewN nq) = restLen w.heap.size w1 from rfl, restLen_rd HR1.out, HM9.out]; omega
theorem MadeO.mono {N M : Nat} {w : World} {lv : Value} {its : List Item} (h : MadeO N w lv its) (hM : M ≤ N) : MadeO M w lv its :=
  ⟨own_mono h.row hM, fun it hi => own_mono (h.tags it hi) hM, h.apart, h.dist⟩
/- bytes of a text -/
theorem OwnB.conv (w : World) (l : List UInt8) (h : l.length ≤ maxLen) : OwnB (Lib.bytesWorld w 5 ⟨l.toArray⟩) w.heap.size 5 (.slice (some ⟨w.heap.size, 0, none⟩) l.length (grownCap w l.length 0 5)) l.length (Lib.byteCells l) := by
  have hge := grownCap_ge w l.length 0 5
  have hsz : (Lib.bytesCells w 5 ⟨l.toArray⟩).size = grownCap w l.length 0 5 := by
    have : (⟨l.toArray⟩ : ByteArray).size = l.length := rfl
    simp only [Lib.bytesCells, Array.size_append, Array.size_map, Array.size_replicate, this, List.size_toArray]; omega
  refine ⟨by simp [Lib.byteCells], .inr ⟨w.heap.size, _, _, _, rfl, Nat.le_refl _, Lib.bytesWorld_at_new w 5 ⟨l.toArray⟩, fun o ho h => by simp only at h; omega, hge, grownCap_le_maxLen _ _ _ _ h, hsz, ?_⟩⟩
  simp [Lib.bytesCells, Lib.byteCells]
set_option maxRecDepth 100000 in
set_option maxHeartbeats 1000000 in
theorem open_any (file : List UInt8) (w : World) (hs : file.length ≤ 281474976710656) :
    Calls Tryz.prog 24 #[.string ⟨file.toArray⟩] w fun e w' => Hid (Below w.heap.size w w') ∧ (((readB file).2.2 = false ∧ e = .returned (.tuple #[.pointer none, .int .i64 6])) ∨ ((readB file).2.2 = true ∧ ∃ p fv ev its, e = .returned (.tuple #[.pointer (some ⟨p, 0, none⟩), .int .i64 0]) ∧ Hid (ArchO w.heap.size p w' fv ev (file.take (readB file).2.1) its) ∧ Hid (evs its = (readB file).1))) := by
  obtain ⟨k1, k2, k3, k4⟩ := readB_any file
  have hR := aRead_any file w hs
  generalize readB file = rb at *
  obtain ⟨l, whole, ok⟩ := rb
  simp only at k1 k2 k3 k4 hR ⊢
  have HK1 := hide0 k1
  clear k1
  cases ok
  · go_enter Tryz.func24, Tryz.ntmps24
    go_wp2_with fail
    refine hR.mono ?_
    rintro e w1 ⟨va, vc, its, rfl, HEV, HM, HB⟩
    go_wp2
    go_ret2
    exact ⟨HB, .inl ⟨trivial, rfl⟩⟩
  · have htl : (file.take whole).length = whole := by rw [List.length_take]; omega
    have hx : (⟨file.toArray⟩ : ByteArray).extract 0 whole = ⟨(file.take whole).toArray⟩ := extract_mk_take file whole
    go_enter Tryz.func24, Tryz.ntmps24
    go_wp2_with fail
    refine hR.mono ?_
    rintro e w1 ⟨va, vc, its, rfl, HEV, HM, HB⟩
    have hcv := Lib.run_convert_string_bytes (P := Tryz.prog) w1 9 74 5 ⟨(file.take whole).toArray⟩ (u := .string) Tryz.underlying9 Tryz.underlying74 Tryz.underlying5
    have HO := hide0 (OwnB.conv w1 (file.take whole) (by unfold maxLen; omega))
    have HBW := hide0 (Lib.bytesWorld_below w1 5 ⟨(file.take whole).toArray⟩)
    generalize Lib.bytesWorld w1 5 ⟨(file.take whole).toArray⟩ = W1 at hcv HO HBW
    rw [htl] at HO
    have hO := HO.out
    have hlt1 := (HO.out.lt w1.heap.size rfl).2
    have hsw := HB.out.size
    have hcvx : (⟨(file.take whole).toArray⟩ : ByteArray).size = whole := htl
    rw [hcvx] at hcv
    clear hO
    go_wp2_with fail
    go_ret2
    have key : ∀ q, q < w1.heap.size → (W1.alloc (.cells #[.int .i32 0, .int .u32 0, .slice (some ⟨w1.heap.size, 0, none⟩) whole (grownCap w1 whole 0 5), .slice va its.length vc] 87)).heap[q]? = w1.heap[q]? := fun q hq => (Below.heap_alloc _ _ _ (by omega)).trans (HBW.out.block q hq)
    have hel : ∀ q, Value.ownBlock (.slice va its.length vc) = some q ∨ q ∈ tagBs its → w.heap.size < q ∧ q < w1.heap.size := fun q hq => by
      rcases hq with h | h
      · have := HM.out.row.lt q h; omega
      · have := HM.out.tag_lt h; omega
    have hil : its.length = l.length := by have := congrArg List.length HEV.out; simpa [evs] using this
    refine ⟨hide0 ((HB.out.trans (HBW.out.mono hsw)).alloc (by have := HBW.out.size; omega) _), .inr ⟨trivial, W1.heap.size, _, _, its, rfl, ⟨heap_alloc_new W1 _, ?_, ?_, by omega, ?_, ?_, ?_, ?_, ?_, by omega⟩, HEV⟩⟩
    · rw [htl]
      exact (HO.out.block (fun q hq => Below.heap_alloc _ _ _ (HO.out.lt q hq).2)).mono hsw
    · exact (HM.out.keep (fun q h1 h2 => key q h2)).mono (by omega)
    · intro e
      simp only [Value.ownBlock, Option.some.injEq] at e
      omega
    · intro e; have := (hel _ (.inl e)).2; omega
    · intro e; have := (hel _ (.inr e)).2; omega
    · intro q hq
      simp only [Value.ownBlock, Option.some.injEq] at hq
      subst hq
      exact ⟨fun e => by have := (hel _ (.inl e)).2; omega, fun e => by have := (hel _ (.inr e)).2; omega⟩
    · intro it hit
      exact HK1.out it.ev (by rw [← HEV.out]; exact List.mem_map.2 ⟨it, hit, rfl⟩)
end Go.Proofs.YtdjllnhahhjgmaaGreat
