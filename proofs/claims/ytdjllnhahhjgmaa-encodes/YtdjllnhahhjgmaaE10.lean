/- Walk of event.Copy. -/
import Derived.Test.YtdjllnhahhjgmaaE9
namespace Go.Proofs.Ytdjllnhahhjgmaa
open Go.RowKit Chron
theorem setCell_same_heap {w : World} {b o : Nat} {v : Value} (h : w.cell? ⟨b, o, none⟩ = some v) (k : Nat) : (w.setCell ⟨b, o, none⟩ v).heap[k]? = w.heap[k]? := by
  by_cases hk : k = b
  · subst hk
    simp only [World.cell?] at h
    simp only [World.setCell, Array.getElem?_modify, if_true]
    rcases hh : w.heap[k]? with _ | x
    · rfl
    · rw [hh] at h
      cases x with
      | cells c elem fr =>
        simp at h
        simp only [Option.map_some, Option.some.injEq, Obj.cells.injEq, and_true]
        show c.setIfInBounds o v = c
        apply Array.ext_getElem?
        intro i
        rw [Array.getElem?_setIfInBounds]
        split
        · rename_i hi
          subst hi
          split
          · exact h.symm
          · rename_i hn; rw [Array.getElem?_eq_none (by omega)] at h; cases h
        · rfl
      | _ => cases h
  · rw [Below.heap_setCell _ _ _ _ hk]
theorem below_same {B : Nat} {a w : World} {b o : Nat} {v : Value} (hB : Below B a w) (h : w.cell? ⟨b, o, none⟩ = some v) : Below B a (w.setCell ⟨b, o, none⟩ v) :=
  hB.trans ⟨rfl, rfl, rfl, by simp [World.setCell], fun k _ => setCell_same_heap h k⟩
set_option maxRecDepth 100000 in
set_option maxHeartbeats 400000 in
theorem clone_any (s : ByteArray) (w : World) (hs : s.size ≤ 60) :
    Calls Try.prog 59 #[.string s] w fun e w' => e = .returned (.string s) ∧ Below w.heap.size w w' := by
  go_enter Try.func59, Try.ntmps59
  go_wp2_with (go_at_call 69; refine (Try.stringslite_Clone s _ (by omega)).mono ?_; rintro e w1 ⟨rfl, hb⟩)
  go_ret
  exact ⟨rfl, hb⟩
structure Own (N : Nat) (w wx : World) (k : Int) (t : ByteArray) (m : Int) (b : ByteArray) (x : Value) : Prop where
  box : wx.heap[N]? = some (.cells #[.int .i64 k, .string t, .int .i64 m, .string b, x] 24)
  res : wx.heap[N + 1]? = some (.cells #[.int .i64 0, .string ⟨#[]⟩, .int .i64 0, .string ⟨#[]⟩, .slice none 0 0] 24)
  bel : Below N w wx
  big : N + 2 ≤ wx.heap.size
theorem Own.below {N : Nat} {w wx wy : World} {k : Int} {t : ByteArray} {m : Int} {b : ByteArray} {x : Value} (h : Own N w wx k t m b x) (hb : Below wx.heap.size wx wy) : Own N w wy k t m b x := by
  have hbig := h.big
  exact ⟨(hb.block N (by omega)).trans h.box, (hb.block (N + 1) (by omega)).trans h.res, h.bel.trans (hb.mono (by omega)), Nat.le_trans hbig hb.size⟩
theorem own_start (w : World) (k : Int) (t : ByteArray) (m : Int) (b : ByteArray) (x : Value) : Own w.heap.size w ((w.alloc (.cells #[.int .i64 k, .string t, .int .i64 m, .string b, x] 24)).alloc (.cells #[.int .i64 0, .string ⟨#[]⟩, .int .i64 0, .string ⟨#[]⟩, .slice none 0 0] 24)) k t m b x := by
  refine ⟨?_, ?_, ((Below.refl _ _).alloc (Nat.le_refl _) _).alloc (by simp) _, by simp⟩
  · rw [Below.heap_alloc _ _ _ (by simp), heap_alloc_new]
  · have := heap_alloc_new (w.alloc (.cells #[.int .i64 k, .string t, .int .i64 m, .string b, x] 24)) (.cells #[.int .i64 0, .string ⟨#[]⟩, .int .i64 0, .string ⟨#[]⟩, .slice none 0 0] 24)
    rw [World.size_alloc] at this; exact this
theorem Own.grown {N : Nat} {w wx wy : World} {k : Int} {t : ByteArray} {m : Int} {b : ByteArray} {x : Value} {row : Option Nat} (h : Own N w wx k t m b x) (hg : wx.grownBy wy row) (hr : ∀ q, row = some q → N + 2 ≤ q) : Own N w wy k t m b x := by
  have hbig := h.big
  have key : ∀ q, q < N + 2 → wy.heap[q]? = wx.heap[q]? := fun q hq => hg.block q (by omega) (fun e => by have := hr q e.symm; omega)
  exact ⟨(key N (by omega)).trans h.box, (key (N + 1) (by omega)).trans h.res, h.bel.trans ⟨hg.os, hg.tape, hg.output, hg.size, fun q hq => key q (by omega)⟩, Nat.le_trans hbig hg.size⟩
theorem own_below {w w' : World} {base : Nat} {e : TypeId} {size : Nat} {v : Value} {n : Nat} {xs : List Value} (h : w.ownsRow base e size v n xs) (hb : Below w.heap.size w w') : w'.ownsRow base e size v n xs :=
  h.kept (row := none) ⟨hb.os, hb.tape, hb.output, hb.size, fun k hk _ => hb.block k hk⟩ (Classical.em _)
theorem own_set5 {w : World} {base base' N : Nat} {e : TypeId} {size : Nat} {v : Value} {n : Nat} {xs : List Value} {x0 x1 x2 x3 x4 : Value} (h : w.ownsRow base e size v n xs) (hN : N < base) (hb : base' ≤ base) :
    (((((w.setCell ⟨N, 0, none⟩ x0).setCell ⟨N, 1, none⟩ x1).setCell ⟨N, 2, none⟩ x2).setCell ⟨N, 3, none⟩ x3).setCell ⟨N, 4, none⟩ x4).ownsRow base' e size v n xs :=
  own_mono (ownsRow_setCell_below (ownsRow_setCell_below (ownsRow_setCell_below (ownsRow_setCell_below (ownsRow_setCell_below h hN _) hN _) hN _) hN _) hN _) hb
theorem own_shape {w : World} {base sz n : Nat} {e : TypeId} {v : Value} {xs : List Value} (h : w.ownsRow base e sz v n xs) : ∃ a cap, v = .slice a n cap ∧ (0 < n → ∃ g, a = some ⟨g, 0, none⟩) := by
  rcases h.2 with ⟨h1, h2⟩ | ⟨g, cap, _, h1, _⟩
  · exact ⟨none, 0, by rw [h1, h2], fun h => by omega⟩
  · exact ⟨some ⟨g, 0, none⟩, cap, h1, fun _ => ⟨g, rfl⟩⟩
theorem snoc_strings (ts : List ByteArray) (k : Nat) (h : k < ts.length) : (ts.take (k + 1)).map Value.string = (ts.take k).map Value.string ++ [.string (ts[k]?.getD ByteArray.empty)] := by
  rw [List.take_add_one, List.map_append, List.getElem?_eq_getElem h]; rfl
set_option maxRecDepth 100000 in
set_option maxHeartbeats 1000000 in
theorem copy_any (k : Int) (t : ByteArray) (m : Int) (b : ByteArray) (a : Option Addr) (cap : Nat) (ts : List ByteArray) (w : World) (ht : Hid (TagsAt w a ts)) (hs : Hid (Lines ts)) (hl : ts.length ≤ 4)
    (htl : t.size ≤ 60) (hbl : b.size ≤ 60) :
    Calls Try.prog 38 #[.agg #[.int .i64 k, .string t, .int .i64 m, .string b, .slice a ts.length cap]] w fun e w' =>
      ∃ x, e = .returned (.agg #[.int .i64 k, .string t, .int .i64 m, .string b, x]) ∧ w'.ownsRow w.heap.size 9 1 x ts.length (ts.map Value.string) ∧ Below w.heap.size w w' := by
  obtain ⟨i0, hi, hz0, hz1, hz2⟩ := info_parts infoString
  have HW0 : Hid (Own w.heap.size w _ k t m b (.slice a ts.length cap)) := own_start w k t m b (.slice a ts.length cap)
  go_enter Try.func38, Try.ntmps38
  go_wp2_with fail
  go_loopw [3, 9] (fun v i wx => ∃ (n : Nat) (va : Option Addr) (vc : Nat), n ≤ ts.length ∧ i = .int .i64 n ∧ v = .slice va n vc ∧ Hid (wx.ownsRow (w.heap.size + 2) 9 1 (.slice va n vc) n ((ts.take n).map Value.string)) ∧ Hid (Own w.heap.size w wx k t m b (.slice a ts.length cap))) (fun _ i _ => ts.length - (intOf i).toNat)
  case atStart => exact ⟨0, none, 0, Nat.zero_le _, rfl, rfl, World.ownsRow_nil _ _ _ _, HW0⟩
  case round =>
    obtain ⟨n, va, vc, hn, rfl, rfl, HO, HW⟩ := hrel
    clear HW0
    by_cases hlt : n < ts.length
    · obtain ⟨q, off, rfl, hcx⟩ := ht.out (by omega)
      have hck := hcx n hlt
      have hqlt := World.block_lt_of_cell? w _ hck
      simp only at hqlt
      have hcr : wr.cell? ⟨q, off + n, none⟩ = some (.string (ts[n]?.getD ByteArray.empty)) := (HW.out.bel.cell (p := ⟨q, off + n, none⟩) hqlt).trans hck
      have hsk := Lines.get hs.out hlt
      have HSN := hide0 (snoc_strings ts n hlt)
      generalize ts[n]?.getD ByteArray.empty = x at hcr hsk hck HSN
      have hbig := HW.out.big
      clear hcx
      go_wp2_with fail
      refine (clone_any x _ hsk).mono ?_
      rintro e w5 ⟨rfl, hb5⟩
      have HW5 := hide0 (HW.out.below hb5)
      have HO5 := own_below HO.out hb5
      have hs5 := HW5.out.big
      go_wp2_with (first
        | (at_builtin; refine wpList_append_own _ rfl _ _ 22 rfl (w.heap.size + 2) 9 i0 (.string ⟨#[]⟩) 1 16 Try.underlying22 hi hz0 hz1 hz2 rfl (by decide) _ _ _ rfl (HO5.alloc _) ⟨w5.heap.size, 0, none⟩ 1 1 [_] rfl rfl (cell_one_new _ _ _) (one_string _) ?c3 ?c4 ?c5 ?_))
      case c3 => unfold maxLen; omega
      case c4 => omega
      case c5 => first | omega | (simp; omega)
      intro v' w7 hown' hgrow _
      obtain ⟨va', vc', rfl⟩ : ∃ va' vc', v' = .slice va' (n + 1) vc' := by obtain ⟨a', c', h, _⟩ := own_shape hown'; exact ⟨a', c', h⟩
      have HO7 := hide0 hown'
      have HW7 : Hid (Own w.heap.size w w7 k t m b (.slice (some ⟨q, off, none⟩) ts.length cap)) := (HW5.out.below ((Below.refl _ _).alloc (Nat.le_refl _) _)).grown hgrow (fun q hq => (HO5.lt _ hq).1)
      clear hown' hgrow HO5 hb5
      go_wp2
      go_roundw
      case rel => exact ⟨n + 1, va', vc', by omega, by go_num, rfl, by rw [HSN.out, List.map_take]; exact HO7, HW7⟩
      case measure => simp [intOf]; omega
    · obtain ⟨c0, c1, c2, c3, c4, cz⟩ := res_cells HW.out.box
      have hnn : n = ts.length := by omega
      subst hnn
      rw [List.take_length] at HO
      have hbig := HW.out.big
      have hNk : ∀ (s : ByteArray) (w' : World), s.size ≤ 60 → Hid (Below wr.heap.size wr w') → Calls Try.prog 59 #[.string s] w' fun e w'' => e = .returned (.string s) ∧ Hid (Below wr.heap.size wr w'') ∧ w''.cell? ⟨w.heap.size, 0, none⟩ = some (.int .i64 k) ∧ w''.cell? ⟨w.heap.size, 1, none⟩ = some (.string t) ∧ w''.cell? ⟨w.heap.size, 2, none⟩ = some (.int .i64 m) ∧ w''.cell? ⟨w.heap.size, 3, none⟩ = some (.string b) ∧ (w''.cell? ⟨w.heap.size + 1, 0, none⟩ = some (.int .i64 0) ∧ w''.cell? ⟨w.heap.size + 1, 1, none⟩ = some (.string ⟨#[]⟩) ∧ w''.cell? ⟨w.heap.size + 1, 2, none⟩ = some (.int .i64 0) ∧ w''.cell? ⟨w.heap.size + 1, 3, none⟩ = some (.string ⟨#[]⟩) ∧ w''.cell? ⟨w.heap.size + 1, 4, none⟩ = some (.slice none 0 0) ∧ ∀ o, w''.frozen? ⟨w.heap.size + 1, o, none⟩ = false) := by
        intro s w' hs' hb'
        refine (clone_any s w' hs').mono ?_
        rintro e w'' ⟨rfl, hb''⟩
        have hB := hb'.out.trans (hb''.mono hb'.out.size)
        have hC := res_cells (HW.out.below hB).box
        exact ⟨rfl, hB, hC.1, hC.2.1, hC.2.2.1, hC.2.2.2.1, res_cells (HW.out.below hB).res⟩
      go_wp2_with fail
      go_region_held (fun w' => w'.cell? ⟨w.heap.size, 0, none⟩ = some (.int .i64 k) ∧ w'.cell? ⟨w.heap.size, 1, none⟩ = some (.string t) ∧ w'.cell? ⟨w.heap.size, 2, none⟩ = some (.int .i64 m) ∧ w'.cell? ⟨w.heap.size, 3, none⟩ = some (.string b)) (go_keep)
        (first
          | (go_at_call 59; refine (hNk _ _ (by assumption) (by first | assumption | exact (Below.refl _ _).drew | exact below_of_drewN _)).mono ?_; rintro e w3 ⟨rfl, HB3, k0, k1, k2, k3, r0, r1, r2, r3, r4, rz⟩))
      rename_i w3' HB3' k0' k1' k2' k3' r0' r1' r2' r3' r4' rz' hH
      clear hH HB3' k0' k1' k2' k3' r0' r1' r2' r3' r4' rz'
      have HO7 := hide0 (own_below HO.out HB3.out)
      have HB7 := hide0 (HW.out.bel.trans (HB3.out.mono (by omega)))
      clear hNk HO HW HB3 c0 c1 c2 c3 c4 cz
      go_wp2
      refine bodyPost_ret (v := .agg #[.int .i64 k, .string t, .int .i64 m, .string b, .slice va ts.length vc]) (by simp [results, Try.results38, go_sem, r0, r1, r2, r3, r4]) rfl ⟨.slice va ts.length vc, rfl, ?_, ?_⟩
      · exact own_set5 HO7.out (by omega) (by omega)
      · exact below_set5 HB7.out (Nat.le_succ _)
end Go.Proofs.Ytdjllnhahhjgmaa
