/- Walk of schema.ownTexts. -/
import Derived.Test.YtodlcnbknjldnaaE9
namespace Go.Proofs.Ytodlcnbknjldnaa
open Go.RowKit Chron
theorem setCell_same_heap {w : World} {b o : Nat} {v : Value} (h : w.cell? ⟨b, o, none⟩ = some v) (k : Nat) : (w.setCell ⟨b, o, none⟩ v).heap[k]? = w.heap[k]? := by
  by_cases hk : k = b
  · subst hk
    simp only [World.cell?] at h
    simp only [World.setCell, Array.getElem?_modify, if_true]
    rcases hh : w.heap[k]? with _ | x
    · rfl
    · rw [hh] at h
      cases x with
      | cells c elem fr =>
        simp at h
        simp only [Option.map_some, Option.some.injEq, Obj.cells.injEq, and_true]
        show c.setIfInBounds o v = c
        apply Array.ext_getElem?
        intro i
        rw [Array.getElem?_setIfInBounds]
        split
        · rename_i hi
          subst hi
          split
          · exact h.symm
          · rename_i hn; rw [Array.getElem?_eq_none (by omega)] at h; cases h
        · rfl
      | _ => cases h
  · rw [Below.heap_setCell _ _ _ _ hk]
theorem below_same {B : Nat} {a w : World} {b o : Nat} {v : Value} (hB : Below B a w) (h : w.cell? ⟨b, o, none⟩ = some v) : Below B a (w.setCell ⟨b, o, none⟩ v) :=
  hB.trans ⟨rfl, rfl, rfl, by simp [World.setCell], fun k _ => setCell_same_heap h k⟩
set_option maxRecDepth 100000 in
set_option maxHeartbeats 400000 in
theorem clone_any (s : ByteArray) (w : World) (hs : s.size ≤ 60) :
    Calls Try.prog 59 #[.string s] w fun e w' => e = .returned (.string s) ∧ Below w.heap.size w w' := by
  go_enter Try.func59, Try.ntmps59
  go_wp2_with (go_at_call 69; refine (Try.stringslite_Clone s _ (by omega)).mono ?_; rintro e w1 ⟨rfl, hb⟩)
  go_ret
  exact ⟨rfl, hb⟩

structure Own (N : Nat) (w wx : World) (k : Int) (t : ByteArray) (m : Int) (b : ByteArray) (x : Value) : Prop where
  box : wx.heap[N]? = some (.cells #[.int .i64 k, .string t, .int .i64 m, .string b, x] 24)
  res : wx.heap[N + 1]? = some (.cells #[.int .i64 0, .string ⟨#[]⟩, .int .i64 0, .string ⟨#[]⟩, .slice none 0 0] 24)
  bel : Below N w wx
  big : N + 2 ≤ wx.heap.size
theorem Own.below {N : Nat} {w wx wy : World} {k : Int} {t : ByteArray} {m : Int} {b : ByteArray} {x : Value} (h : Own N w wx k t m b x) (hb : Below wx.heap.size wx wy) : Own N w wy k t m b x := by
  have hbig := h.big
  exact ⟨(hb.block N (by omega)).trans h.box, (hb.block (N + 1) (by omega)).trans h.res, h.bel.trans (hb.mono (by omega)), Nat.le_trans hbig hb.size⟩
theorem own_start (w : World) (k : Int) (t : ByteArray) (m : Int) (b : ByteArray) (x : Value) : Own w.heap.size w ((w.alloc (.cells #[.int .i64 k, .string t, .int .i64 m, .string b, x] 24)).alloc (.cells #[.int .i64 0, .string ⟨#[]⟩, .int .i64 0, .string ⟨#[]⟩, .slice none 0 0] 24)) k t m b x := by
  refine ⟨?_, ?_, ((Below.refl _ _).alloc (Nat.le_refl _) _).alloc (by simp) _, by simp⟩
  · rw [Below.heap_alloc _ _ _ (by simp), heap_alloc_new]
  · have := heap_alloc_new (w.alloc (.cells #[.int .i64 k, .string t, .int .i64 m, .string b, x] 24)) (.cells #[.int .i64 0, .string ⟨#[]⟩, .int .i64 0, .string ⟨#[]⟩, .slice none 0 0] 24)
    rw [World.size_alloc] at this; exact this
set_option maxRecDepth 100000 in
set_option maxHeartbeats 1000000 in
theorem ownTexts_any (k : Int) (t : ByteArray) (m : Int) (b : ByteArray) (a : Option Addr) (cap : Nat) (ts : List ByteArray) (w : World) (ht : Hid (TagsAt w a ts)) (hfz : Hid (∀ q off, a = some ⟨q, off, none⟩ → ∀ o, w.frozen? ⟨q, o, none⟩ = false)) (hs : Hid (Lines ts)) (hl : ts.length ≤ 4)
    (htl : t.size ≤ 60) (hbl : b.size ≤ 60) :
    Calls Try.prog 38 #[.agg #[.int .i64 k, .string t, .int .i64 m, .string b, .slice a ts.length cap]] w fun e w' =>
      e = .returned (.agg #[.int .i64 k, .string t, .int .i64 m, .string b, .slice a ts.length cap]) ∧ Below w.heap.size w w' := by
  have HW0 : Hid (Own w.heap.size w _ k t m b (.slice a ts.length cap)) := own_start w k t m b (.slice a ts.length cap)
  go_enter Try.func38, Try.ntmps38
  go_wp2_with fail
  refine (clone_any t _ htl).mono ?_
  rintro e w1 ⟨rfl, hb1⟩
  have HW1 : Hid (Own w.heap.size w w1 k t m b (.slice a ts.length cap)) := HW0.out.below hb1
  clear hb1 HW0
  obtain ⟨c0, c1, c2, c3, c4, cz⟩ := res_cells HW1.out.box
  have HW2 : Hid (Own w.heap.size w (w1.setCell ⟨w.heap.size, 1, none⟩ (.string t)) k t m b (.slice a ts.length cap)) := HW1.out.below (below_same (Below.refl _ _) c1)
  go_wp2_with fail
  refine (clone_any b _ hbl).mono ?_
  rintro e w2 ⟨rfl, hb2⟩
  have HW3 : Hid (Own w.heap.size w w2 k t m b (.slice a ts.length cap)) := HW2.out.below hb2
  clear hb2 HW2 HW1 c0 c1 c2 c3 c4 cz
  obtain ⟨c0, c1, c2, c3, c4, cz⟩ := res_cells HW3.out.box
  have HW4 : Hid (Own w.heap.size w (w2.setCell ⟨w.heap.size, 3, none⟩ (.string b)) k t m b (.slice a ts.length cap)) := HW3.out.below (below_same (Below.refl _ _) c3)
  go_wp2_with fail
  clear HW3 c0 c1 c2 c3 c4 cz
  go_loopw [16] (fun i wx => ∃ n : Nat, n ≤ ts.length ∧ i = .int .i64 n ∧ Hid (Own w.heap.size w wx k t m b (.slice a ts.length cap))) (fun i _ => ts.length - (intOf i).toNat)
  case atStart => exact ⟨0, Nat.zero_le _, rfl, HW4⟩
  case round =>
    obtain ⟨n, hn, rfl, HW⟩ := hrel
    clear HW4
    obtain ⟨c0, c1, c2, c3, c4, cz⟩ := res_cells HW.out.box
    by_cases hlt : n < ts.length
    · obtain ⟨q, off, rfl, hcx⟩ := ht.out (by omega)
      have hck := hcx n hlt
      have hqlt := World.block_lt_of_cell? w _ hck
      simp only at hqlt
      have hcr : wr.cell? ⟨q, off + n, none⟩ = some (.string (ts[n]?.getD ByteArray.empty)) := (HW.out.bel.cell (p := ⟨q, off + n, none⟩) hqlt).trans hck
      have hfr : wr.frozen? ⟨q, off + n, none⟩ = false := (HW.out.bel.frozen (p := ⟨q, off + n, none⟩) hqlt).trans (hfz.out q off rfl _)
      have hsk := Lines.get hs.out hlt
      generalize ts[n]?.getD ByteArray.empty = x at hcr hsk hck
      have hbig := HW.out.big
      clear hcx
      go_wp2_with fail
      go_region_held (fun w' => w'.cell? ⟨w.heap.size, 4, none⟩ = some (.slice (some ⟨q, off, none⟩) ts.length cap)) (go_keep)
        (first | (go_at_call 59; refine (clone_any x _ hsk).mono ?_; rintro e w5 ⟨rfl, hb5⟩; have HW5 : Hid (Own w.heap.size w w5 k t m b (.slice (some ⟨q, off, none⟩) ts.length cap)) := HW.out.below ((Below.refl wr.heap.size wr).drew.trans hb5); have hc5 := (res_cells HW5.out.box).2.2.2.2.1; have hx5 : w5.cell? ⟨q, off + n, none⟩ = some (.string x) := (HW5.out.bel.cell (p := ⟨q, off + n, none⟩) hqlt).trans hck; have hf5 : w5.frozen? ⟨q, off + n, none⟩ = false := (HW5.out.bel.frozen (p := ⟨q, off + n, none⟩) hqlt).trans (hfz.out q off rfl _); have hk5 : (w5.setCell ⟨q, off + n, none⟩ (.string x)).cell? ⟨w.heap.size, 4, none⟩ = some (.slice (some ⟨q, off, none⟩) ts.length cap) := (World.cell?_of_block (setCell_same_heap hx5 _)).trans hc5))
      go_wp2
      go_roundw
      case rel => exact ⟨n + 1, by omega, by go_num, HW5.out.below (below_same (Below.refl _ _) hx5)⟩
      case measure => simp [intOf]; omega
    · obtain ⟨r0, r1, r2, r3, r4, rz⟩ := res_cells HW.out.res
      go_wp2
      refine bodyPost_ret (v := .agg #[.int .i64 k, .string t, .int .i64 m, .string b, .slice a ts.length cap]) (by simp [results, Try.results38, go_sem, r0, r1, r2, r3, r4]) rfl ⟨rfl, ?_⟩
      exact below_set5 HW.out.bel (Nat.le_succ _)
end Go.Proofs.Ytodlcnbknjldnaa
