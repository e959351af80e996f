/- Walks and plain facts, in the order in which they lean on one another. -/
import Derived.Test.YtdjllnhahhjgmaaGreatW02
namespace Go.Proofs.YtdjllnhahhjgmaaGreat
open Go.RowKit Chron
def evVal (e : Ev) (x : Value) : Value := .agg #[.int .i64 e.kind, .string e.task, .int .i64 e.time, .string e.body, x]
theorem below_set5 {B N : Nat} {a w : World} {x0 x1 x2 x3 x4 : Value} (h : Below B a w) (hN : B ≤ N) : Below B a (((((w.setCell ⟨N, 0, none⟩ x0).setCell ⟨N, 1, none⟩ x1).setCell ⟨N, 2, none⟩ x2).setCell ⟨N, 3, none⟩ x3).setCell ⟨N, 4, none⟩ x4) :=
  ((((h.setCell hN _).setCell hN _).setCell hN _).setCell hN _).setCell hN _
theorem new_cells (w : World) (nq : Nat) (Z : Obj) (a b c d e : Value) (t : TypeId) :
    (((w.alloc Z).drewN nq).alloc (.cells #[a, b, c, d, e] t)).cell? ⟨w.heap.size + 1, 0, none⟩ = some a ∧ (((w.alloc Z).drewN nq).alloc (.cells #[a, b, c, d, e] t)).cell? ⟨w.heap.size + 1, 1, none⟩ = some b ∧ (((w.alloc Z).drewN nq).alloc (.cells #[a, b, c, d, e] t)).cell? ⟨w.heap.size + 1, 2, none⟩ = some c ∧ (((w.alloc Z).drewN nq).alloc (.cells #[a, b, c, d, e] t)).cell? ⟨w.heap.size + 1, 3, none⟩ = some d ∧ (((w.alloc Z).drewN nq).alloc (.cells #[a, b, c, d, e] t)).cell? ⟨w.heap.size + 1, 4, none⟩ = some e ∧ ∀ o, (((w.alloc Z).drewN nq).alloc (.cells #[a, b, c, d, e] t)).frozen? ⟨w.heap.size + 1, o, none⟩ = false := by
  have h := heap_alloc_new ((w.alloc Z).drewN nq) (.cells #[a, b, c, d, e] t)
  rw [show ((w.alloc Z).drewN nq).heap.size = w.heap.size + 1 from World.size_alloc w Z] at h
  exact res_cells h
theorem old_block (w : World) (nq : Nat) (Z o : Obj) : (((w.alloc Z).drewN nq).alloc o).heap[w.heap.size]? = some Z := by
  rw [Below.heap_alloc _ _ _ (by show w.heap.size < (w.alloc Z).heap.size; simp)]
  exact heap_alloc_new w Z
theorem two_below (w : World) (nq : Nat) (Z o : Obj) : Below w.heap.size w (((w.alloc Z).drewN nq).alloc o) :=
  (below_drewN ((Below.refl _ _).alloc (Nat.le_refl _) _) nq).alloc (by show w.heap.size ≤ (w.alloc Z).heap.size; simp) _
theorem two_size (w : World) (nq : Nat) (Z o : Obj) : (((w.alloc Z).drewN nq).alloc o).heap.size = w.heap.size + 2 := by
  rw [World.size_alloc]; show (w.alloc Z).heap.size + 1 = _; simp
theorem two_lt (w : World) (nq : Nat) (Z o : Obj) : w.heap.size < (((w.alloc Z).drewN nq).alloc o).drew.heap.size := by
  show w.heap.size < (((w.alloc Z).drewN nq).alloc o).heap.size
  rw [two_size]; omega
theorem tags_none (w : World) : TagsAt w none [] := fun h => by simp at h
theorem short_none : Short [] := fun i h => by simp at h
set_option maxRecDepth 100000 in
set_option maxHeartbeats 400000 in
theorem readLetter_any (s : List UInt8) (w : World) (hs : s.length ≤ maxLen) :
    Calls Tryz.prog 104 #[.string ⟨s.toArray⟩] w fun e w' =>
      e = .returned (.tuple #[evVal (rdLetter s).1 (.slice none 0 0), .bool (rdLetter s).2]) ∧ (rdLetter s).1.tags = [] ∧ Below w.heap.size w w' := by
  match s, hs with
  | [], hs =>
    go_enter Tryz.func104, Tryz.ntmps104
    go_wp2
    exact bodyPost_ret (v := .tuple #[evVal zeroEv (.slice none 0 0), .bool false]) (by simp [results, Tryz.results104, go_sem, evVal, zeroEv]) rfl ⟨rfl, rfl, (Below.refl _ _).alloc (Nat.le_refl _) _⟩
  | c :: r, hs =>
    have hr : r.length ≤ maxLen := by simp at hs; omega
    have hne : (⟨(c :: r).toArray⟩ : ByteArray).toList.isEmpty = false := by rw [ByteArray.toList_eq]; rfl
    have hext : (⟨(c :: r).toArray⟩ : ByteArray).extract 1 (r.length + 1) = ⟨r.toArray⟩ := extract_end ⟨(c :: r).toArray⟩ 1
    have hT := fun w' => readText_any ⟨r.toArray⟩ w' hr
    simp only at hT
    rcases hq : readTx r with _ | ⟨t, b⟩
    · have HE : Hid (rdLetter (c :: r) = (zeroEv, false)) := by simp [Hid, rdLetter, hq]
      rw [hq] at hT
      clear hq
      go_enter Tryz.func104, Tryz.ntmps104
      go_wp2_with (go_at_call 106; refine (hT _).mono ?_; rintro e w1 ⟨rfl, nq, rfl⟩; simp only [txVal])
      refine bodyPost_ret (v := .tuple #[evVal zeroEv (.slice none 0 0), .bool false]) (by simp [results, Tryz.results104, go_sem, evVal, zeroEv]) rfl ⟨?_, ?_, ?_⟩
      · rw [HE.out]
      · rw [HE.out]; rfl
      · exact below_set5 (below_drewN ((Below.refl _ _).alloc (Nat.le_refl _) _) nq) (Nat.le_refl _)
    · have hlen := readTx_len hq
      rw [hq] at hT
      simp only [txVal] at hT
      obtain ⟨k, hk, HK⟩ : ∃ k, wrap64 (Lib.indexByte [98, 100, 102] c + 1) = k ∧ Hid (k = letterKind c) := ⟨_, rfl, letterKind_wrap c⟩
      have hidx : ∀ h, (⟨(c :: r).toArray⟩ : ByteArray)[0]'h = c := fun _ => rfl
      have htl : (⟨t.toArray⟩ : ByteArray).size ≤ maxLen := by show t.length ≤ _; omega
      have hbl : (⟨b.toArray⟩ : ByteArray).size ≤ maxLen := by show b.length ≤ _; omega
      by_cases ht : t = []
      · have HE : Hid (rdLetter (c :: r) = (⟨k, ⟨#[45]⟩, 0, ⟨b.toArray⟩, []⟩, isB ⟨k, ⟨#[45]⟩, 0, ⟨b.toArray⟩, []⟩)) := by simp [Hid, rdLetter, hq, ht, HK.out]
        have htb : t.isEmpty = true := by simpa using ht
        have hdl : (⟨#[45]⟩ : ByteArray).size ≤ maxLen := by decide
        have hG : ∀ w', Calls Tryz.prog 75 #[.agg #[.int .i64 k, .string ⟨#[45]⟩, .int .i64 0, .string ⟨b.toArray⟩, .slice none 0 0]] w' fun e w'' => e = .returned (.bool (isB ⟨k, ⟨#[45]⟩, 0, ⟨b.toArray⟩, []⟩)) ∧ Below w'.heap.size w' w'' := fun w' => is_any k ⟨#[45]⟩ 0 ⟨b.toArray⟩ none 0 [] w' (tags_none w') short_none (Nat.zero_le _) hdl hbl
        clear hq ht htl hbl
        go_enter Tryz.func104, Tryz.ntmps104
        go_wp2_with (first
          | (go_at_call 106; refine (hT _).mono ?_; rintro e w1 ⟨rfl, nq, rfl⟩)
          | (go_at_call 107; refine (Tryz.strings_IndexByte _ _ _).mono ?_; rintro e w' ⟨rfl, rfl⟩))
        obtain ⟨k0, k1, k2, k3, k4, kz⟩ := new_cells w nq (.cells #[.int .i64 0, .string ⟨#[]⟩, .int .i64 0, .string ⟨#[]⟩, .slice none 0 0] 38) (.int .i64 k) (.string ⟨#[45]⟩) (.int .i64 0) (.string ⟨b.toArray⟩) (.slice none 0 0) 38
        go_region_held (fun w' => w'.cell? ⟨w.heap.size + 1, 0, none⟩ = some (.int .i64 k) ∧ w'.cell? ⟨w.heap.size + 1, 1, none⟩ = some (.string ⟨#[45]⟩) ∧ w'.cell? ⟨w.heap.size + 1, 2, none⟩ = some (.int .i64 0) ∧ w'.cell? ⟨w.heap.size + 1, 3, none⟩ = some (.string ⟨b.toArray⟩) ∧ w'.cell? ⟨w.heap.size + 1, 4, none⟩ = some (.slice none 0 0)) (go_keep)
          (first | (go_at_call 75; refine (hG _).mono ?_; rintro e w2 ⟨rfl, hb2⟩; obtain ⟨hc2, hf2⟩ := bcell hb2))
        have hrb := hb2.block w.heap.size (two_lt w nq _ _)
        obtain ⟨r0, r1, r2, r3, r4, rz⟩ := res_cells (hrb.trans (old_block w nq (.cells #[.int .i64 0, .string ⟨#[]⟩, .int .i64 0, .string ⟨#[]⟩, .slice none 0 0] 38) _))
        clear hc2 hf2 hG hT k0 k1 k2 k3 k4 kz
        go_wp2
        refine bodyPost_ret (v := .tuple #[evVal ⟨k, ⟨#[45]⟩, 0, ⟨b.toArray⟩, []⟩ (.slice none 0 0), .bool (isB ⟨k, ⟨#[45]⟩, 0, ⟨b.toArray⟩, []⟩)]) (by simp [results, Tryz.results104, go_sem, evVal, r0, r1, r2, r3, r4]) rfl ⟨?_, ?_, ?_⟩
        · rw [HE.out]
        · rw [HE.out]
        · exact below_set5 ((two_below w nq _ _).drew.trans (hb2.mono (Nat.le_of_lt (two_lt w nq _ _)))) (Nat.le_refl _)
      · have HE : Hid (rdLetter (c :: r) = (⟨k, ⟨t.toArray⟩, 0, ⟨b.toArray⟩, []⟩, goesB 1 ⟨k, ⟨t.toArray⟩, 0, ⟨b.toArray⟩, []⟩)) := by simp [Hid, rdLetter, hq, ht, HK.out]
        have htb : t.isEmpty = false := by simpa using ht
        have hG : ∀ w', Calls Tryz.prog 55 #[.int .i64 1, .agg #[.int .i64 k, .string ⟨t.toArray⟩, .int .i64 0, .string ⟨b.toArray⟩, .slice none 0 0]] w' fun e w'' => e = .returned (.bool (goesB 1 ⟨k, ⟨t.toArray⟩, 0, ⟨b.toArray⟩, []⟩)) ∧ Below w'.heap.size w' w'' := fun w' => goesInto_any 1 k ⟨t.toArray⟩ 0 ⟨b.toArray⟩ none 0 [] w' (tags_none w') short_none (Nat.zero_le _) htl hbl
        clear hq ht htl hbl
        go_enter Tryz.func104, Tryz.ntmps104
        go_wp2_with (first
          | (go_at_call 106; refine (hT _).mono ?_; rintro e w1 ⟨rfl, nq, rfl⟩)
          | (go_at_call 107; refine (Tryz.strings_IndexByte _ _ _).mono ?_; rintro e w' ⟨rfl, rfl⟩))
        obtain ⟨k0, k1, k2, k3, k4, kz⟩ := new_cells w nq (.cells #[.int .i64 0, .string ⟨#[]⟩, .int .i64 0, .string ⟨#[]⟩, .slice none 0 0] 38) (.int .i64 k) (.string ⟨t.toArray⟩) (.int .i64 0) (.string ⟨b.toArray⟩) (.slice none 0 0) 38
        go_region_held (fun w' => w'.cell? ⟨w.heap.size + 1, 0, none⟩ = some (.int .i64 k) ∧ w'.cell? ⟨w.heap.size + 1, 1, none⟩ = some (.string ⟨t.toArray⟩) ∧ w'.cell? ⟨w.heap.size + 1, 2, none⟩ = some (.int .i64 0) ∧ w'.cell? ⟨w.heap.size + 1, 3, none⟩ = some (.string ⟨b.toArray⟩) ∧ w'.cell? ⟨w.heap.size + 1, 4, none⟩ = some (.slice none 0 0)) (go_keep)
          (first | (go_at_call 55; refine (hG _).mono ?_; rintro e w2 ⟨rfl, hb2⟩; obtain ⟨hc2, hf2⟩ := bcell hb2))
        have hrb := hb2.block w.heap.size (two_lt w nq _ _)
        obtain ⟨r0, r1, r2, r3, r4, rz⟩ := res_cells (hrb.trans (old_block w nq (.cells #[.int .i64 0, .string ⟨#[]⟩, .int .i64 0, .string ⟨#[]⟩, .slice none 0 0] 38) _))
        clear hc2 hf2 hG hT k0 k1 k2 k3 k4 kz
        go_wp2
        refine bodyPost_ret (v := .tuple #[evVal ⟨k, ⟨t.toArray⟩, 0, ⟨b.toArray⟩, []⟩ (.slice none 0 0), .bool (goesB 1 ⟨k, ⟨t.toArray⟩, 0, ⟨b.toArray⟩, []⟩)]) (by simp [results, Tryz.results104, go_sem, evVal, r0, r1, r2, r3, r4]) rfl ⟨?_, ?_, ?_⟩
        · rw [HE.out]
        · rw [HE.out]
        · exact below_set5 ((two_below w nq _ _).drew.trans (hb2.mono (Nat.le_of_lt (two_lt w nq _ _)))) (Nat.le_refl _)
end Go.Proofs.YtdjllnhahhjgmaaGreat
namespace Go.Proofs.YtdjllnhahhjgmaaGreat
open Go.RowKit Chron
theorem setCell_same_heap {w : World} {b o : Nat} {v : Value} (h : w.cell? ⟨b, o, none⟩ = some v) (k : Nat) : (w.setCell ⟨b, o, none⟩ v).heap[k]? = w.heap[k]? := by
  by_cases hk : k = b
  · subst hk
    simp only [World.cell?] at h
    simp only [World.setCell, Array.getElem?_modify, if_true]
    rcases hh : w.heap[k]? with _ | x
    · rfl
    · rw [hh] at h
      cases x with
      | cells c elem fr =>
        simp at h
        simp only [Option.map_some, Option.some.injEq, Obj.cells.injEq, and_true]
        show c.setIfInBounds o v = c
        apply Array.ext_getElem?
        intro i
        rw [Array.getElem?_setIfInBounds]
        split
        · rename_i hi
          subst hi
          split
          · exact h.symm
          · rename_i hn; rw [Array.getElem?_eq_none (by omega)] at h; cases h
        · rfl
      | _ => cases h
  · rw [Below.heap_setCell _ _ _ _ hk]
theorem below_same {B : Nat} {a w : World} {b o : Nat} {v : Value} (hB : Below B a w) (h : w.cell? ⟨b, o, none⟩ = some v) : Below B a (w.setCell ⟨b, o, none⟩ v) :=
  hB.trans ⟨rfl, rfl, rfl, by simp [World.setCell], fun k _ => setCell_same_heap h k⟩
set_option maxRecDepth 100000 in
set_option maxHeartbeats 400000 in
theorem clone_any (s : ByteArray) (w : World) (hs : s.size ≤ 60) :
    Calls Tryz.prog 49 #[.string s] w fun e w' => e = .returned (.string s) ∧ Below w.heap.size w w' := by
  go_enter Tryz.func49, Tryz.ntmps49
  go_wp2_with (go_at_call 63; refine (Tryz.stringslite_Clone s _ (by omega)).mono ?_; rintro e w1 ⟨rfl, hb⟩)
  go_ret
  exact ⟨rfl, hb⟩
structure Own (N : Nat) (w wx : World) (k : Int) (t : ByteArray) (m : Int) (b : ByteArray) (x : Value) : Prop where
  box : wx.heap[N]? = some (.cells #[.int .i64 k, .string t, .int .i64 m, .string b, x] 38)
  res : wx.heap[N + 1]? = some (.cells #[.int .i64 0, .string ⟨#[]⟩, .int .i64 0, .string ⟨#[]⟩, .slice none 0 0] 38)
  bel : Below N w wx
  big : N + 2 ≤ wx.heap.size
theorem Own.below {N : Nat} {w wx wy : World} {k : Int} {t : ByteArray} {m : Int} {b : ByteArray} {x : Value} (h : Own N w wx k t m b x) (hb : Below wx.heap.size wx wy) : Own N w wy k t m b x := by
  have hbig := h.big
  exact ⟨(hb.block N (by omega)).trans h.box, (hb.block (N + 1) (by omega)).trans h.res, h.bel.trans (hb.mono (by omega)), Nat.le_trans hbig hb.size⟩
theorem own_start (w : World) (k : Int) (t : ByteArray) (m : Int) (b : ByteArray) (x : Value) : Own w.heap.size w ((w.alloc (.cells #[.int .i64 k, .string t, .int .i64 m, .string b, x] 38)).alloc (.cells #[.int .i64 0, .string ⟨#[]⟩, .int .i64 0, .string ⟨#[]⟩, .slice none 0 0] 38)) k t m b x := by
  refine ⟨?_, ?_, ((Below.refl _ _).alloc (Nat.le_refl _) _).alloc (by simp) _, by simp⟩
  · rw [Below.heap_alloc _ _ _ (by simp), heap_alloc_new]
  · have := heap_alloc_new (w.alloc (.cells #[.int .i64 k, .string t, .int .i64 m, .string b, x] 38)) (.cells #[.int .i64 0, .string ⟨#[]⟩, .int .i64 0, .string ⟨#[]⟩, .slice none 0 0] 38)
    rw [World.size_alloc] at this; exact this
theorem Own.grown {N : Nat} {w wx wy : World} {k : Int} {t : ByteArray} {m : Int} {b : ByteArray} {x : Value} {row : Option Nat} (h : Own N w wx k t m b x) (hg : wx.grownBy wy row) (hr : ∀ q, row = some q → N + 2 ≤ q) : Own N w wy k t m b x := by
  have hbig := h.big
  have key : ∀ q, q < N + 2 → wy.heap[q]? = wx.heap[q]? := fun q hq => hg.block q (by omega) (fun e => by have := hr q e.symm; omega)
  exact ⟨(key N (by omega)).trans h.box, (key (N + 1) (by omega)).trans h.res, h.bel.trans ⟨hg.os, hg.tape, hg.output, hg.size, fun q hq => key q (by omega)⟩, Nat.le_trans hbig hg.size⟩
theorem own_below {w w' : World} {base : Nat} {e : TypeId} {size : Nat} {v : Value} {n : Nat} {xs : List Value} (h : w.ownsRow base e size v n xs) (hb : Below w.heap.size w w') : w'.ownsRow base e size v n xs :=
  h.kept (row := none) ⟨hb.os, hb.tape, hb.output, hb.size, fun k hk _ => hb.block k hk⟩ (Classical.em _)
theorem own_set5 {w : World} {base base' N : Nat} {e : TypeId} {size : Nat} {v : Value} {n : Nat} {xs : List Value} {x0 x1 x2 x3 x4 : Value} (h : w.ownsRow base e size v n xs) (hN : N < base) (hb : base' ≤ base) :
    (((((w.setCell ⟨N, 0, none⟩ x0).setCell ⟨N, 1, none⟩ x1).setCell ⟨N, 2, none⟩ x2).setCell ⟨N, 3, none⟩ x3).setCell ⟨N, 4, none⟩ x4).ownsRow base' e size v n xs :=
  own_mono (ownsRow_setCell_below (ownsRow_setCell_below (ownsRow_setCell_below (ownsRow_setCell_below (ownsRow_setCell_below h hN _) hN _) hN _) hN _) hN _) hb
theorem own_shape {w : World} {base sz n : Nat} {e : TypeId} {v : Value} {xs : List Value} (h : w.ownsRow base e sz v n xs) : ∃ a cap, v = .slice a n cap ∧ (0 < n → ∃ g, a = some ⟨g, 0, none⟩) := by
  rcases h.2 with ⟨h1, h2⟩ | ⟨g, cap, _, h1, _⟩
  · exact ⟨none, 0, by rw [h1, h2], fun h => by omega⟩
  · exact ⟨some ⟨g, 0, none⟩, cap, h1, fun _ => ⟨g, rfl⟩⟩
theorem snoc_strings (ts : List ByteArray) (k : Nat) (h : k < ts.length) : (ts.take (k + 1)).map Value.string = (ts.take k).map Value.string ++ [.string (ts[k]?.getD ByteArray.empty)] := by
  rw [List.take_add_one, List.map_append, List.getElem?_eq_getElem h]; rfl
set_option maxRecDepth 100000 in
set_option maxHeartbeats 1000000 in
theorem copy_any (k : Int) (t : ByteArray) (m : Int) (b : ByteArray) (a : Option Addr) (cap : Nat) (ts : List ByteArray) (w : World) (ht : Hid (TagsAt w a ts)) (hs : Hid (Lines ts)) (hl : ts.length ≤ 4)
    (htl : t.size ≤ 60) (hbl : b.size ≤ 60) :
    Calls Tryz.prog 35 #[.agg #[.int .i64 k, .string t, .int .i64 m, .string b, .slice a ts.length cap]] w fun e w' =>
      ∃ x, e = .returned (.agg #[.int .i64 k, .string t, .int .i64 m, .string b, x]) ∧ w'.ownsRow w.heap.size 9 1 x ts.length (ts.map Value.string) ∧ Below w.heap.size w w' := by
  obtain ⟨i0, hi, hz0, hz1, hz2⟩ := info_parts infoString
  have HW0 : Hid (Own w.heap.size w _ k t m b (.slice a ts.length cap)) := own_start w k t m b (.slice a ts.length cap)
  go_enter Tryz.func35, Tryz.ntmps35
  go_wp2_with fail
  go_loopw [3, 9] (fun v i wx => ∃ (n : Nat) (va : Option Addr) (vc : Nat), n ≤ ts.length ∧ i = .int .i64 n ∧ v = .slice va n vc ∧ Hid (wx.ownsRow (w.heap.size + 2) 9 1 (.slice va n vc) n ((ts.take n).map Value.string)) ∧ Hid (Own w.heap.size w wx k t m b (.slice a ts.length cap))) (fun _ i _ => ts.length - (intOf i).toNat)
  case atStart => exact ⟨0, none, 0, Nat.zero_le _, rfl, rfl, World.ownsRow_nil _ _ _ _, HW0⟩
  case round =>
    obtain ⟨n, va, vc, hn, rfl, rfl, HO, HW⟩ := hrel
    clear HW0
    by_cases hlt : n < ts.length
    · obtain ⟨q, off, rfl, hcx⟩ := ht.out (by omega)
      have hck := hcx n hlt
      have hqlt := World.block_lt_of_cell? w _ hck
      simp only at hqlt
      have hcr : wr.cell? ⟨q, off + n, none⟩ = some (.string (ts[n]?.getD ByteArray.empty)) := (HW.out.bel.cell (p := ⟨q, off + n, none⟩) hqlt).trans hck
      have hsk := Lines.get hs.out hlt
      have HSN := hide0 (snoc_strings ts n hlt)
      generalize ts[n]?.getD ByteArray.empty = x at hcr hsk hck HSN
      have hbig := HW.out.big
      clear hcx
      go_wp2_with fail
      refine (clone_any x _ hsk).mono ?_
      rintro e w5 ⟨rfl, hb5⟩
      have HW5 := hide0 (HW.out.below hb5)
      have HO5 := own_below HO.out hb5
      have hs5 := HW5.out.big
      go_wp2_with (first
        | (at_builtin; refine wpList_append_own _ rfl _ _ 36 rfl (w.heap.size + 2) 9 i0 (.string ⟨#[]⟩) 1 16 Tryz.underlying36 hi hz0 hz1 hz2 rfl (by decide) _ _ _ rfl (HO5.alloc _) ⟨w5.heap.size, 0, none⟩ 1 1 [_] rfl rfl (cell_one_new _ _ _) (one_string _) ?c3 ?c4 ?c5 ?_))
      case c3 => unfold maxLen; omega
      case c4 => omega
      case c5 => first | omega | (simp; omega)
      intro v' w7 hown' hgrow _
      obtain ⟨va', vc', rfl⟩ : ∃ va' vc', v' = .slice va' (n + 1) vc' := by obtain ⟨a', c', h, _⟩ := own_shape hown'; exact ⟨a', c', h⟩
      have HO7 := hide0 hown'
      have HW7 : Hid (Own w.heap.size w w7 k t m b (.slice (some ⟨q, off, none⟩) ts.length cap)) := (HW5.out.below ((Below.refl _ _).alloc (Nat.le_refl _) _)).grown hgrow (fun q hq => (HO5.lt _ hq).1)
      clear hown' hgrow HO5 hb5
      go_wp2
      go_roundw
      case rel => exact ⟨n + 1, va', vc', by omega, by go_num, rfl, by rw [HSN.out, List.map_take]; exact HO7, HW7⟩
      case measure => simp [intOf]; omega
    · obtain ⟨c0, c1, c2, c3, c4, cz⟩ := res_cells HW.out.box
      have hnn : n = ts.length := by omega
      subst hnn
      rw [List.take_length] at HO
      have hbig := HW.out.big
      have hNk : ∀ (s : ByteArray) (w' : World), s.size ≤ 60 → Hid (Below wr.heap.size wr w') → Calls Tryz.prog 49 #[.string s] w' fun e w'' => e = .returned (.string s) ∧ Hid (Below wr.heap.size wr w'') ∧ w''.cell? ⟨w.heap.size, 0, none⟩ = some (.int .i64 k) ∧ w''.cell? ⟨w.heap.size, 1, none⟩ = some (.string t) ∧ w''.cell? ⟨w.heap.size, 2, none⟩ = some (.int .i64 m) ∧ w''.cell? ⟨w.heap.size, 3, none⟩ = some (.string b) ∧ (w''.cell? ⟨w.heap.size + 1, 0, none⟩ = some (.int .i64 0) ∧ w''.cell? ⟨w.heap.size + 1, 1, none⟩ = some (.string ⟨#[]⟩) ∧ w''.cell? ⟨w.heap.size + 1, 2, none⟩ = some (.int .i64 0) ∧ w''.cell? ⟨w.heap.size + 1, 3, none⟩ = some (.string ⟨#[]⟩) ∧ w''.cell? ⟨w.heap.size + 1, 4, none⟩ = some (.slice none 0 0) ∧ ∀ o, w''.frozen? ⟨w.heap.size + 1, o, none⟩ = false) := by
        intro s w' hs' hb'
        refine (clone_any s w' hs').mono ?_
        rintro e w'' ⟨rfl, hb''⟩
        have hB := hb'.out.trans (hb''.mono hb'.out.size)
        have hC := res_cells (HW.out.below hB).box
        exact ⟨rfl, hB, hC.1, hC.2.1, hC.2.2.1, hC.2.2.2.1, res_cells (HW.out.below hB).res⟩
      go_wp2_with fail
      go_region_held (fun w' => w'.cell? ⟨w.heap.size, 0, none⟩ = some (.int .i64 k) ∧ w'.cell? ⟨w.heap.size, 1, none⟩ = some (.string t) ∧ w'.cell? ⟨w.heap.size, 2, none⟩ = some (.int .i64 m) ∧ w'.cell? ⟨w.heap.size, 3, none⟩ = some (.string b)) (go_keep)
        (first
          | (go_at_call 49; refine (hNk _ _ (by assumption) (by first | assumption | exact (Below.refl _ _).drew | exact below_of_drewN _)).mono ?_; rintro e w3 ⟨rfl, HB3, k0, k1, k2, k3, r0, r1, r2, r3, r4, rz⟩))
      rename_i w3' HB3' k0' k1' k2' k3' r0' r1' r2' r3' r4' rz' hH
      clear hH HB3' k0' k1' k2' k3' r0' r1' r2' r3' r4' rz'
      have HO7 := hide0 (own_below HO.out HB3.out)
      have HB7 := hide0 (HW.out.bel.trans (HB3.out.mono (by omega)))
      clear hNk HO HW HB3 c0 c1 c2 c3 c4 cz
      go_wp2
      refine bodyPost_ret (v := .agg #[.int .i64 k, .string t, .int .i64 m, .string b, .slice va ts.length vc]) (by simp [results, Tryz.results35, go_sem, r0, r1, r2, r3, r4]) rfl ⟨.slice va ts.length vc, rfl, ?_, ?_⟩
      · exact own_set5 HO7.out (by omega) (by omega)
      · exact below_set5 HB7.out (Nat.le_succ _)
end Go.Proofs.YtdjllnhahhjgmaaGreat
namespace Go.Proofs.YtdjllnhahhjgmaaGreat
open Go.RowKit Chron
theorem own_form {w : World} {B n : Nat} {x : Value} {ts : List ByteArray} (h : w.ownsRow B 9 1 x n (ts.map Value.string)) :
    ∃ a cap, x = .slice a ts.length cap ∧ TagsAt w a ts ∧ (∀ q off, a = some ⟨q, off, none⟩ → B ≤ q ∧ q < w.heap.size ∧ ∀ o, w.frozen? ⟨q, o, none⟩ = false) := by
  obtain ⟨hl, h2⟩ := h
  have hn : n = ts.length := by simpa using hl.symm
  subst hn
  rcases h2 with ⟨rfl, h0⟩ | ⟨g, cap, cur, rfl, hb, hg, h3, h4, h5, h6⟩
  · refine ⟨none, 0, by rw [h0], ?_, fun q off e => by cases e⟩
    intro h1; omega
  · refine ⟨some ⟨g, 0, none⟩, cap, rfl, ?_, ?_⟩
    · intro _
      refine ⟨g, 0, rfl, fun i hi => ?_⟩
      have hi2 : (cur.toList.take (ts.length * 1))[i]? = (ts.map Value.string)[i]? := by rw [h6]
      rw [List.getElem?_take, if_pos (by omega)] at hi2
      simp only [World.cell?, hg]
      rw [List.getElem?_map, List.getElem?_eq_getElem hi] at hi2
      simp only [Option.map_some, Array.getElem?_toList] at hi2
      simp [hi2, hi]
    · intro q off e
      simp only [Option.some.injEq, Addr.mk.injEq] at e
      obtain ⟨rfl, _⟩ := e
      exact ⟨hb, (Array.getElem?_eq_some_iff.1 hg).1, fun o => by simp [World.frozen?, hg]⟩
theorem alloc_cells {w : World} {N : Nat} {a b c d e : Value} {t : TypeId} (h : w.heap[N]? = some (.cells #[a, b, c, d, e] t)) :
    (∀ o, (w.alloc o).cell? ⟨N, 0, none⟩ = some a) ∧ (∀ o, (w.alloc o).cell? ⟨N, 1, none⟩ = some b) ∧ (∀ o, (w.alloc o).cell? ⟨N, 2, none⟩ = some c) ∧ (∀ o, (w.alloc o).cell? ⟨N, 3, none⟩ = some d) ∧ (∀ o, (w.alloc o).cell? ⟨N, 4, none⟩ = some e) ∧ ∀ o x, (w.alloc o).frozen? ⟨N, x, none⟩ = false := by
  have hlt := (Array.getElem?_eq_some_iff.1 h).1
  have hh : ∀ o, (w.alloc o).heap[N]? = some (.cells #[a, b, c, d, e] t) := fun o => (Below.heap_alloc _ _ _ hlt).trans h
  exact ⟨fun o => (res_cells (hh o)).1, fun o => (res_cells (hh o)).2.1, fun o => (res_cells (hh o)).2.2.1, fun o => (res_cells (hh o)).2.2.2.1, fun o => (res_cells (hh o)).2.2.2.2.1, fun o => (res_cells (hh o)).2.2.2.2.2⟩
theorem short_of {e : Ev} {n : Nat} (h : Fits e n) (hn : n ≤ maxLen) : Short e.tags := by
  intro i hi
  rw [List.getElem?_eq_getElem hi]
  exact Nat.le_trans (h.tags _ (List.getElem_mem hi)) hn
set_option maxRecDepth 100000 in
set_option maxHeartbeats 1000000 in
theorem read_any (v : Int) (s : List UInt8) (w : World) (hs : s.length ≤ maxLen) :
    Calls Tryz.prog 101 #[.int .i64 v, .string ⟨s.toArray⟩] w fun e w' =>
      ∃ x, e = .returned (.tuple #[evVal (rdB v s).1 x, .bool (rdB v s).2]) ∧ w'.ownsRow w.heap.size 9 1 x (rdB v s).1.tags.length ((rdB v s).1.tags.map Value.string) ∧ Below w.heap.size w w' := by
  by_cases hv : v = 1
  · subst hv
    have HR : Hid (rdB 1 s = rdLetter s) := rfl
    have hL := fun w' => readLetter_any s w' hs
    go_enter Tryz.func101, Tryz.ntmps101
    go_wp2_with (go_at_call 104; refine (hL _).mono ?_; rintro e w1 ⟨rfl, ht1, hb1⟩; simp only [evVal]; have HT1 := hide0 ht1; clear ht1; obtain ⟨hc1, hf1⟩ := bcell hb1)
    have hrb := (hb1.block w.heap.size (by rw [World.size_alloc]; omega)).trans (heap_alloc_new w _)
    obtain ⟨r0, r1, r2, r3, r4, rz⟩ := res_cells hrb
    refine bodyPost_ret (v := .tuple #[evVal (rdLetter s).1 (.slice none 0 0), .bool (rdLetter s).2]) (by simp [results, Tryz.results101, go_sem, evVal, r0, r1, r2, r3, r4]) rfl ⟨.slice none 0 0, ?_, ?_, ?_⟩
    · rw [HR.out]
    · rw [HR.out, HT1.out]; exact World.ownsRow_nil _ _ _ _
    · exact below_set5 (((Below.refl _ _).alloc (Nat.le_refl _) _).trans (hb1.mono (by simp))) (Nat.le_refl _)
  · have hvb : (v == 1) = false := by simp [hv]
    have HR : Hid (rdB v s = (rdFields v s, okOf v s)) := if_neg hv
    clear hv
    have hF := fun w' => readFields_any v s w' hs
    have hfit := rdFields_fits v s
    have HSH := hide0 (short_of hfit hs)
    have htl := Nat.le_trans hfit.task hs
    have hbl := Nat.le_trans hfit.body hs
    have hfew : (rdFields v s).tags.length ≤ maxLen := by have := hfit.few; unfold maxLen; omega
    have HOK : Hid (okOf v s = (decide ((encB v (rdFields v s)).2 = 0) && ((encB v (rdFields v s)).1 == s))) := rfl
    clear hfit
    generalize rdFields v s = E at *
    obtain ⟨k, t, m, b, ts⟩ := E
    simp only at hF htl hbl hfew HSH
    generalize hen : encB v ⟨k, t, m, b, ts⟩ = en at HOK
    have HEN := hide0 hen
    clear hen
    go_enter Tryz.func101, Tryz.ntmps101
    go_wp2_with (go_at_call 105; refine (hF _).mono ?_; rintro e w1 ⟨x, rfl, ho1, hb1⟩; obtain ⟨a, cap, rfl, hta, hfa⟩ := own_form ho1)
    have HO1 := hide0 ho1
    have hE1 := encode_any v k t m b a cap ts (w1.alloc (.cells #[.int .i64 k, .string t, .int .i64 m, .string b, .slice a ts.length cap] 38)) (TagsAt.alloc hta _) HSH hfew htl hbl
    rw [HEN.out] at hE1
    have hs1 := hb1.size
    rw [World.size_alloc] at hs1
    have hrb := (hb1.block w.heap.size (by rw [World.size_alloc]; omega)).trans (heap_alloc_new w _)
    clear ho1 hta hfa hF
    refine hE1.mono ?_
    rintro e w2 ⟨rfl, hb2⟩
    have hrb2 := (hb2.block w.heap.size (by rw [World.size_alloc]; omega)).trans ((Below.heap_alloc _ _ _ (by omega)).trans hrb)
    have hbx2 := (hb2.block w1.heap.size (by rw [World.size_alloc]; omega)).trans (heap_alloc_new w1 _)
    obtain ⟨r0, r1, r2, r3, r4, rz⟩ := res_cells hrb2
    obtain ⟨c0, c1, c2, c3, c4, cz⟩ := res_cells hbx2
    have hne : ¬ w1.heap.size = w.heap.size := by omega
    have HB : Hid (Below w.heap.size w w2) := (((Below.refl w.heap.size w).alloc (Nat.le_refl _) _).trans (hb1.mono (by rw [World.size_alloc]; omega))).trans ((((Below.refl w.heap.size w1).alloc (by omega) _)).trans (hb2.mono (by rw [World.size_alloc]; omega)))
    have HO2 : Hid (w2.ownsRow (w.heap.size + 1) 9 1 (.slice a ts.length cap) ts.length (ts.map Value.string)) := by
      have := own_below (own_below HO1.out ((Below.refl _ _).alloc (Nat.le_refl _) _)) hb2
      rw [World.size_alloc] at this; exact this
    clear hE1 hb1 hb2 hrb hrb2 hbx2 HO1
    obtain ⟨en1, en2⟩ := en
    simp only
    by_cases h2 : en2 = 0
    · have h2b : (en2 == 0) = true := by simp [h2]
      go_wp2
      refine bodyPost_ret (v := .tuple #[evVal ⟨k, t, m, b, ts⟩ (.slice a ts.length cap), .bool (en1 == s)]) (by simp [results, Tryz.results101, go_sem, evVal, r0, r1, r2, r3, r4]) rfl ⟨.slice a ts.length cap, ?_, ?_, ?_⟩
      · rw [HR.out, HOK.out]; simp [h2]
      · rw [HR.out]; exact own_set5 HO2.out (by omega) (by omega)
      · exact below_set5 HB.out (Nat.le_refl _)
    · have h2b : (en2 == 0) = false := by simp [h2]
      go_wp2
      refine bodyPost_ret (v := .tuple #[evVal ⟨k, t, m, b, ts⟩ (.slice a ts.length cap), .bool (false)]) (by simp [results, Tryz.results101, go_sem, evVal, r0, r1, r2, r3, r4]) rfl ⟨.slice a ts.length cap, ?_, ?_, ?_⟩
      · rw [HR.out, HOK.out]; simp [h2]
      · rw [HR.out]; exact own_set5 HO2.out (by omega) (by omega)
      · exact below_set5 HB.out (Nat.le_refl _)

set_option maxRecDepth 100000 in
set_option maxHeartbeats 1000000 in
theorem decode_any (v : Int) (s : List UInt8) (w : World) (hs : s.length ≤ maxLen) :
    Calls Tryz.prog 92 #[.int .i64 v, .string ⟨s.toArray⟩] w fun e w' =>
      ∃ x, e = .returned (.tuple #[evVal (decB v s).1 x, .int .i64 (decB v s).2]) ∧ w'.ownsRow w.heap.size 9 1 x (decB v s).1.tags.length ((decB v s).1.tags.map Value.string) ∧ Below w.heap.size w w' := by
  by_cases hv : isVer v = true
  · have hR := fun w' => read_any v s w' hs
    have hkn : (rdB v s).2 = true → Known (rdB v s).1 := fun h => is_known (rd_is h)
    have HD : Hid (decB v s = if (rdB v s).2 = false then (zeroEv, 3) else ((rdB v s).1, 0)) := by simp [Hid, decB, hv]
    generalize rdB v s = E at *
    obtain ⟨⟨k, t, m, b, ts⟩, ok⟩ := E
    simp only at hR hkn HD
    cases ok
    · have HD' : Hid (decB v s = (zeroEv, 3)) := HD.out.trans (if_pos rfl)
      clear HD hkn
      go_enter Tryz.func92, Tryz.ntmps92
      go_wp2_with (first
        | (go_at_call 54; refine (isVersion_any _ _).mono ?_; rintro e w' ⟨rfl, rfl⟩)
        | (go_at_call 101; refine (hR _).mono ?_; rintro e w1 ⟨x, rfl, ho1, hb1⟩; simp only [evVal]; have hs1 := hb1.size; rw [World.size_alloc] at hs1; have hrb := (hb1.block w.heap.size (by rw [World.size_alloc]; omega)).trans (heap_alloc_new w _); obtain ⟨r0, r1, r2, r3, r4, rz⟩ := alloc_cells hrb; obtain ⟨a, cap, rfl, _, _⟩ := own_form ho1; have hne : ¬ w1.heap.size = w.heap.size := by omega))
      refine bodyPost_ret (v := .tuple #[evVal zeroEv (.slice none 0 0), .int .i64 3]) (by simp [results, Tryz.results92, go_sem, evVal, zeroEv, r0, r1, r2, r3, r4]) rfl ⟨.slice none 0 0, ?_, ?_, ?_⟩
      · rw [HD'.out]
      · rw [HD'.out]; exact World.ownsRow_nil _ _ _ _
      · exact below_set5 ((((Below.refl w.heap.size w).alloc (Nat.le_refl _) _).trans (hb1.mono (by rw [World.size_alloc]; omega))).alloc (by omega) _) (Nat.le_refl _)
    · have HD' : Hid (decB v s = (⟨k, t, m, b, ts⟩, 0)) := HD.out.trans (if_neg (by simp))
      obtain ⟨_, _, htk, _, _, _, hbd, hfew, hlines⟩ := hkn rfl
      simp only at htk hbd hfew hlines
      have HLN := hide0 hlines
      clear HD hkn hlines
      go_enter Tryz.func92, Tryz.ntmps92
      go_wp2_with (first
        | (go_at_call 54; refine (isVersion_any _ _).mono ?_; rintro e w' ⟨rfl, rfl⟩)
        | (go_at_call 101; refine (hR _).mono ?_; rintro e w1 ⟨x, rfl, ho1, hb1⟩; simp only [evVal]; have hs1 := hb1.size; rw [World.size_alloc] at hs1; have hrb := (hb1.block w.heap.size (by rw [World.size_alloc]; omega)).trans (heap_alloc_new w _); obtain ⟨a, cap, rfl, hta, hfa⟩ := own_form ho1; have hne : ¬ w1.heap.size = w.heap.size := by omega))
      have hO := copy_any k t m b a cap ts (w1.alloc (.cells #[.int .i64 k, .string t, .int .i64 m, .string b, .slice a ts.length cap] 38)) (TagsAt.alloc hta _) HLN hfew htk hbd
      clear ho1 hta hfa hR
      refine hO.mono ?_
      rintro e w2 ⟨x2, rfl, ho2, hb2⟩
      obtain ⟨a2, cap2, rfl, _⟩ := own_shape ho2
      have hrb2 := (hb2.block w.heap.size (by rw [World.size_alloc]; omega)).trans ((Below.heap_alloc _ _ _ (by omega)).trans hrb)
      obtain ⟨r0, r1, r2, r3, r4, rz⟩ := res_cells hrb2
      have HB : Hid (Below w.heap.size w w2) := (((Below.refl w.heap.size w).alloc (Nat.le_refl _) _).trans (hb1.mono (by rw [World.size_alloc]; omega))).trans ((((Below.refl w.heap.size w1).alloc (by omega) _)).trans (hb2.mono (by rw [World.size_alloc]; omega)))
      have HO2 : Hid (w2.ownsRow (w.heap.size + 1) 9 1 (.slice a2 ts.length cap2) ts.length (ts.map Value.string)) := own_mono ho2 (by rw [World.size_alloc]; omega)
      clear hO hb1 hb2 hrb hrb2 ho2
      go_wp2
      refine bodyPost_ret (v := .tuple #[evVal ⟨k, t, m, b, ts⟩ (.slice a2 ts.length cap2), .int .i64 0]) (by simp [results, Tryz.results92, go_sem, evVal, r0, r1, r2, r3, r4]) rfl ⟨.slice a2 ts.length cap2, ?_, ?_, ?_⟩
      · rw [HD'.out]
      · rw [HD'.out]; exact own_set5 HO2.out (by omega) (by omega)
      · exact below_set5 HB.out (Nat.le_refl _)
  · have hv' : isVer v = false := by simpa using hv
    have HD' : Hid (decB v s = (zeroEv, 1)) := by simp [Hid, decB, hv']
    clear hv
    go_enter Tryz.func92, Tryz.ntmps92
    go_wp2_with (first
      | (go_at_call 54; refine (isVersion_any _ _).mono ?_; rintro e w' ⟨rfl, rfl⟩))
    refine bodyPost_ret (v := .tuple #[evVal zeroEv (.slice none 0 0), .int .i64 1]) (by simp [results, Tryz.results92, go_sem, evVal, zeroEv]) rfl ⟨.slice none 0 0, ?_, ?_, ?_⟩
    · rw [HD'.out]
    · rw [HD'.out]; exact World.ownsRow_nil _ _ _ _
    · exact (Below.refl _ _).alloc (Nat.le_refl _) _
end Go.Proofs.YtdjllnhahhjgmaaGreat
namespace Go.Proofs.YtdjllnhahhjgmaaGreat
open Go.RowKit Chron
end Go.Proofs.YtdjllnhahhjgmaaGreat
namespace Chron
open Go Go.RowKit
theorem readF_of : ∀ (f : Nat) (b : Bool) (n : Nat) (r : List UInt8), 0 < f → n < 128 ^ f → (b = true ∨ 1 ≤ n) → readF f b (numF f n ++ r) = some (n, r)
  | 0, _, _, _, h, _, _ => by omega
  | f + 1, b, n, r, _, hn, hb => by
    by_cases hs : n < 128
    · rw [numF_small hs]
      have e : (UInt8.ofNat n).toNat = n := by simp; omega
      simp only [List.cons_append, List.nil_append, readF, e]
      rw [if_pos hs, if_neg]
      rintro ⟨h0, hf⟩
      rcases hb with hb | hb
      · rw [hb] at hf; cases hf
      · omega
    · rw [numF_more (by omega)]
      have e : (UInt8.ofNat (128 + n % 128)).toNat = 128 + n % 128 := by simp; omega
      rw [Nat.pow_succ] at hn
      have hf : 0 < f := by
        rcases Nat.eq_zero_or_pos f with h0 | h0
        · subst h0; simp at hn; omega
        · exact h0
      simp only [List.cons_append, readF, e]
      rw [if_neg (by omega), readF_of f false (n / 128) r hf (Nat.div_lt_of_lt_mul (by omega)) (Or.inr (by omega))]
      simp only [Option.some.injEq, Prod.mk.injEq, and_true]
      omega
theorem readNum_of {n : Nat} (hn : n < 128 ^ 9) (r : List UInt8) : readNum (num n ++ r) = some (n, r) := by
  rw [num, numF_fuel 9 10 n (by omega) (by omega) hn]
  exact readF_of 9 true n r (by omega) hn (Or.inl rfl)
theorem readTx_of {t : List UInt8} (ht : t.length ≤ 60) (r : List UInt8) : readTx (text t ++ r) = some (t, r) := by
  rw [readTx, text, List.append_assoc, readNum_of (by omega)]
  simp only
  rw [if_pos (by simp)]
  simp
theorem num_tag {tag : Nat} (h : tag ≤ 5) : num tag = [UInt8.ofNat tag] := by rw [num, numF_small (by omega)]
theorem hp_yes {tag : Nat} (r : List UInt8) : hp tag (num tag ++ r) = true ∧ nx tag (num tag ++ r) = r := by
  have h1 : Lib.hasPrefix (num tag ++ r) (num tag) = true := by
    rw [Lib.hasPrefix, List.isPrefixOf_iff_prefix]; exact List.prefix_append _ _
  refine ⟨h1, ?_⟩
  rw [nx, Lib.trimPrefix, if_pos h1]; simp
theorem hp_no {tag : Nat} {s : List UInt8} (h : hp tag s = false) : nx tag s = s := by
  rw [nx, Lib.trimPrefix, if_neg]; rw [hp] at h; simp [h]
theorem hp_other {tag other : Nat} (h1 : tag ≤ 5) (h2 : other ≤ 5) (hne : tag ≠ other) (r : List UInt8) : hp tag (num other ++ r) = false := by
  rw [hp, Lib.hasPrefix, num_tag h1, num_tag h2]
  have : UInt8.ofNat tag ≠ UInt8.ofNat other := by
    intro h
    have := congrArg UInt8.toNat h
    simp at this
    omega
  show ((UInt8.ofNat tag == UInt8.ofNat other) && _) = false
  rw [beq_false_of_ne this]; rfl
theorem hp_nil {tag : Nat} (h1 : tag ≤ 5) : hp tag [] = false := by rw [hp, Lib.hasPrefix, num_tag h1]; rfl
theorem tagsF_of : ∀ (f : Nat) (ts : List ByteArray), ts.length ≤ f → Lines ts → tagsF f (tagParts ts) = ts
  | 0, ts, h, _ => by
    have : ts = [] := List.length_eq_zero_iff.1 (by omega)
    subst this; rfl
  | f + 1, [], _, _ => by
    rw [tagsF, if_neg]; rw [show tagParts [] = [] from rfl, hp_nil (by omega)]; simp
  | f + 1, t :: ts, h, hl => by
    have ht : t.data.toList.length ≤ 60 := by have := hl t (by simp); simpa using this
    have e : tagParts (t :: ts) = num 5 ++ (text t.data.toList ++ tagParts ts) := by simp [tagParts, tagPart]
    have ih := tagsF_of f ts (by simpa using h) (fun x hx => hl x (by simp [hx]))
    rw [tagsF, e, if_pos (hp_yes _).1, (hp_yes _).2, txOf, txRest, readTx_of ht]
    simp only
    rw [ih]
/- what lies behind the time, the body, and the tags -/
theorem noTime {ts : List ByteArray} {b : ByteArray} : hp 3 (bodyPart b ++ tagParts ts) = false := by
  unfold bodyPart
  split
  · cases ts with
    | nil => exact hp_nil (by omega)
    | cons t ts => rw [List.nil_append, show tagParts (t :: ts) = num 5 ++ (text t.data.toList ++ tagParts ts) by simp [tagParts, tagPart]]; exact hp_other (by omega) (by omega) (by omega) _
  · rw [List.append_assoc]; exact hp_other (by omega) (by omega) (by omega) _
theorem noBody {ts : List ByteArray} : hp 4 (tagParts ts) = false := by
  cases ts with
  | nil => exact hp_nil (by omega)
  | cons t ts => rw [show tagParts (t :: ts) = num 5 ++ (text t.data.toList ++ tagParts ts) by simp [tagParts, tagPart]]; exact hp_other (by omega) (by omega) (by omega) _
theorem mk_data (s : ByteArray) : (⟨s.data.toList.toArray⟩ : ByteArray) = s := rfl
theorem time_of {m : Int} {r : List UInt8} (h0 : 0 ≤ m) (h1 : m ≤ 1125899906842624) (hr : hp 3 r = false) : timeOf (timePart m ++ r) = m ∧ behindNum 3 (timePart m ++ r) = r := by
  by_cases hm : m = 0
  · rw [timePart, if_pos hm, List.nil_append, timeOf, behindNum, if_neg (by simp [hr]), if_neg (by simp [hr]), hp_no hr]; exact ⟨hm.symm, rfl⟩
  · rw [timePart, if_neg hm, List.append_assoc, timeOf, behindNum, if_pos (hp_yes _).1, if_pos (hp_yes _).1, (hp_yes _).2, numOf, numRest, readNum_of (time_small h1)]
    exact ⟨by simp only; omega, rfl⟩
theorem body_of {b : ByteArray} {r : List UInt8} (hb : b.size ≤ 60) (hr : hp 4 r = false) : textOf 4 (bodyPart b ++ r) = b ∧ behindText 4 (bodyPart b ++ r) = r := by
  by_cases hm : b.toList = []
  · rw [bodyPart, if_pos hm, List.nil_append, textOf, behindText, if_neg (by simp [hr]), if_neg (by simp [hr]), hp_no hr]
    refine ⟨?_, rfl⟩
    apply bytes_inj; rw [ByteArray.toList_eq] at hm; rw [hm]
  · rw [bodyPart, if_neg hm, List.append_assoc, textOf, behindText, if_pos (hp_yes _).1, if_pos (hp_yes _).1, (hp_yes _).2, txOf, txRest, readTx_of (by simpa using hb)]
    exact ⟨rfl, rfl⟩
theorem rdFields_of {v : Int} {e : Ev} (hk : Known e) : rdFields v (fieldsB v e) = e := by
  obtain ⟨k, t, m, b, ts⟩ := e
  obtain ⟨h1, h4, ht, _, h0, hm, hb, hf, hl⟩ := hk
  simp only at h1 h4 ht h0 hm hb hf hl
  have hsh := shift_bd v
  have e1 : fieldsB v ⟨k, t, m, b, ts⟩ = num 1 ++ (num (k - shift v).toNat ++ (num 2 ++ (text t.data.toList ++ (timePart m ++ (bodyPart b ++ tagParts ts))))) := by
    simp [fieldsB, front, List.append_assoc]
  have a1 : behindNum 1 (fieldsB v ⟨k, t, m, b, ts⟩) = num 2 ++ (text t.data.toList ++ (timePart m ++ (bodyPart b ++ tagParts ts))) := by
    rw [e1, behindNum, if_pos (hp_yes _).1, (hp_yes _).2, numRest, readNum_of (by omega)]
  have a2 : kindOf v (fieldsB v ⟨k, t, m, b, ts⟩) = k := by
    rw [e1, kindOf, if_pos (hp_yes _).1, (hp_yes _).2, numOf, readNum_of (by omega)]
    simp only
    rw [wrap_small (by omega) (by omega)]; omega
  have a3 : textOf 2 (num 2 ++ (text t.data.toList ++ (timePart m ++ (bodyPart b ++ tagParts ts)))) = t ∧ behindText 2 (num 2 ++ (text t.data.toList ++ (timePart m ++ (bodyPart b ++ tagParts ts)))) = timePart m ++ (bodyPart b ++ tagParts ts) := by
    rw [textOf, behindText, if_pos (hp_yes _).1, if_pos (hp_yes _).1, (hp_yes _).2, txOf, txRest, readTx_of (by simpa using ht)]
    exact ⟨rfl, rfl⟩
  have a4 := time_of (r := bodyPart b ++ tagParts ts) h0 hm noTime
  have a5 := body_of (r := tagParts ts) hb noBody
  have a6 := tagsF_of 4 ts hf hl
  simp only [rdFields]
  rw [a2, a1, a3.1, a3.2, a4.1, a4.2, a5.1, a5.2, a6]
theorem letterKind_of {k : Int} (h1 : 1 ≤ k) (h3 : k ≤ 4) (h4 : ¬ k = 4) : letterKind (letterOf k) = k := by
  have : k = 1 ∨ k = 2 ∨ k = 3 := by omega
  rcases this with rfl | rfl | rfl <;> decide
theorem data_nil {s : ByteArray} (h : s.toList ≠ []) : ¬ s.data.toList = [] := by rw [ByteArray.toList_eq] at h; exact h
theorem rd_of {v : Int} {e : Ev} (h : goesB v e = true) : rdB v (encB v e).1 = (e, true) := by
  have hv := goes_ver h
  have hk := is_known (goes_is h)
  by_cases h1 : v = 1
  · subst h1
    have hg := goes_one h
    obtain ⟨k, t, m, b, ts⟩ := e
    have e1 : (encB 1 ⟨k, t, m, b, ts⟩).1 = letterOf k :: (text t.data.toList ++ b.data.toList) := by
      rw [encB, if_neg (by simp [hv]), if_neg (by simp [h]), if_pos rfl]; rfl
    have htx := readTx_of (t := t.data.toList) (by have := hk.task; simpa using this) b.data.toList
    have hts : ts = [] := List.length_eq_zero_iff.1 hg.2.2.1
    have hm : m = 0 := hg.2.1
    rw [e1, rdB, if_pos rfl]
    simp only [rdLetter, htx]
    rw [if_neg (data_nil hk.named), letterKind_of hk.k1 hk.k4 hg.1]
    subst hts hm
    exact Prod.ext rfl h
  · have e1 : encB v e = (fieldsB v e, 0) := by rw [encB, if_neg (by simp [hv]), if_neg (by simp [h]), if_neg h1]
    rw [rdB, if_neg h1, okOf, e1, rdFields_of hk, e1]
    simp
theorem dec_of {v : Int} {e : Ev} (h : goesB v e = true) : (encB v e).2 = 0 ∧ decB v (encB v e).1 = (e, 0) := by
  have hv := goes_ver h
  refine ⟨?_, ?_⟩
  · rw [encB, if_neg (by simp [hv]), if_neg (by simp [h])]; split <;> rfl
  · rw [decB, if_neg (by simp [hv]), rd_of h]; simp
theorem enc_pos {v : Int} {e : Ev} (h : goesB v e = true) : 0 < (encB v e).1.length := by
  have hv := goes_ver h
  rw [encB, if_neg (by simp [hv]), if_neg (by simp [h])]
  split
  · simp [letterB]
  · simp [fieldsB, front, num_tag]
/- with a byte less it is another event, or none -/
theorem dec_less {v : Int} {e : Ev} (h : goesB v e = true) (s : List UInt8) (hs : s.length < (encB v e).1.length) : (decB v s).1 ≠ e ∧ ((decB v s).2 = 3 ∨ (decB v s).2 = 0) := by
  have hv := goes_ver h
  have hk := is_known (goes_is h)
  by_cases hr : (rdB v s).2 = true
  · have hd : decB v s = ((rdB v s).1, 0) := by rw [decB, if_neg (by simp [hv]), if_neg (by simp [hr])]
    refine ⟨?_, Or.inr (by rw [hd])⟩
    rw [hd]
    intro he
    have ho := rd_oneWay hv hr
    simp only at he
    rw [he, OneWayB] at ho
    split at ho
    · rename_i hc
      obtain ⟨hc1, hc2⟩ := hc
      subst hc1
      rw [dash_goes hc2] at h; cases h
    · rw [ho] at hs; simp at hs
  · have hd : decB v s = (zeroEv, 3) := by rw [decB, if_neg (by simp [hv]), if_pos (by simpa using hr)]
    refine ⟨?_, Or.inl (by rw [hd])⟩
    rw [hd]
    intro he
    have := hk.k1
    rw [← he] at this
    simp [zeroEv] at this
end Chron
namespace Chron
open Go Go.RowKit
def lineN (s : ByteArray) (n : Nat) : Prop := s.size ≤ n ∧ s.data.toList.all byteOk = true
theorem lineN_line {s : ByteArray} {n : Nat} (h : lineN s n) (hn : n ≤ 60) : lineB s = true := by
  simp only [lineB, h.2, Bool.and_true, decide_eq_true_eq]; exact Nat.le_trans h.1 hn
def TagsI (acc : List ByteArray) : Prop := ∀ i, (h : i < acc.length) → ∃ r : List UInt8, acc[i].data.toList = UInt8.ofNat (97 + i) :: r ∧ r.length ≤ 20 ∧ r.all byteOk = true
theorem tagsI_push {acc : List ByteArray} {x : ByteArray} (h : TagsI acc) (hx : ∃ r : List UInt8, x.data.toList = UInt8.ofNat (97 + acc.length) :: r ∧ r.length ≤ 20 ∧ r.all byteOk = true) : TagsI (acc ++ [x]) := by
  intro i hi
  by_cases h1 : i < acc.length
  · rw [List.getElem_append_left h1]; exact h i h1
  · have : i = acc.length := by simp at hi; omega
    subst this
    rw [List.getElem_append_right (by omega)]
    simpa using hx
theorem tagsI_ok {acc : List ByteArray} (h : TagsI acc) (h4 : acc.length ≤ 4) : tagsB acc = true := by
  refine tags_all (k := acc.length) h4 (Nat.le_refl _) ?_
  intro j hj
  obtain ⟨r, h1, h2, h3⟩ := h j hj
  have e0 : acc[j]?.getD ByteArray.empty = acc[j] := by rw [List.getElem?_eq_getElem hj]; rfl
  have hb : byteOk (UInt8.ofNat (97 + j)) = true := by simp [byteOk]; omega
  have hname : nameB acc[j] = true := by
    rw [nameB, ByteArray.toList_eq, h1]
    have hsz : acc[j].size = r.length + 1 := by
      have : acc[j].data.toList.length = acc[j].size := by simp
      rw [← this, h1]; rfl
    simp only [List.isEmpty_cons, Bool.not_false, Bool.true_and, lineB, h1, List.all_cons, hb, h3, hsz, Bool.and_true, decide_eq_true_eq]
    omega
  rw [tagOk, e0, hname, Bool.true_and, Bool.or_eq_true]
  rcases Nat.eq_zero_or_pos j with hj0 | hj0
  · left; simp [hj0]
  · right
    obtain ⟨r', g1, _, _⟩ := h (j - 1) (by omega)
    have e1 : acc[j - 1]?.getD ByteArray.empty = acc[j - 1] := by rw [List.getElem?_eq_getElem (by omega)]; rfl
    rw [e1, ByteArray.toList_eq, ByteArray.toList_eq, h1, g1, Op.bytesLess]
    have : UInt8.ofNat (97 + (j - 1)) < UInt8.ofNat (97 + j) := by
      rw [UInt8.lt_iff_toNat_lt]; simp; omega
    simp only [this, decide_true, Bool.true_or]
theorem task_name {s : ByteArray} {n : Nat} (h : lineN s n) (hn : n ≤ 40) : nameB (⟨#[116]⟩ ++ s) = true ∧ dashB (⟨#[116]⟩ ++ s) = false := by
  have e : (⟨#[116]⟩ ++ s : ByteArray).data.toList = 116 :: s.data.toList := by obtain ⟨⟨s⟩⟩ := s; simp
  have hsz : (⟨#[116]⟩ ++ s : ByteArray).size = s.size + 1 := by
    rw [ByteArray.size_append]; show 1 + s.size = _; omega
  refine ⟨?_, ?_⟩
  · rw [nameB, ByteArray.toList_eq, e]
    have hb : byteOk 116 = true := by decide
    have hl : s.size + 1 ≤ 60 := by have := h.1; omega
    simp only [lineB, e, hsz, List.all_cons, hb, h.2]
    simp; omega
  · rw [dashB, ByteArray.toList_eq, e]; simp
theorem event_goes {v k : Int} {e : Ev} {s b : ByteArray} (hs : lineN s 40) (hb : lineN b 60) (ht : e.task = ⟨#[116]⟩ ++ s) (hbd : e.body = b) (h1 : 1 ≤ e.kind) (h4 : e.kind ≤ 4)
    (hm0 : 0 ≤ e.time) (hm1 : e.time < 1125899906842625) (htg : tagsB e.tags = true) (hv : 1 ≤ v) (hvk : v ≤ k) (hk : k ≤ 3) (hone : v = 1 → e.kind ≤ 3 ∧ e.time = 0) (htwo : v ≤ 2 → e.tags = []) : goesB k e = true := by
  have hn := task_name hs (Nat.le_refl _)
  have hl := lineN_line hb (Nat.le_refl _)
  have hi : isB e = true := by
    simp only [isB, Bool.and_eq_true, decide_eq_true_eq]
    rw [ht, hbd]
    exact ⟨h1, h4, hn.1, hm0, by omega, hl, htg⟩
  have hf : fitsB k e = true := by
    simp only [fitsB, Bool.and_eq_true, Bool.or_eq_true, Bool.not_eq_true', Bool.and_eq_false_iff, decide_eq_true_eq, decide_eq_false_iff_not]
    refine ⟨?_, ?_⟩
    · by_cases h : v ≤ 2
      · right; rw [htwo h]; simp
      · left; omega
    · by_cases h : 1 < k
      · exact Or.inl h
      · have hv1 : v = 1 := by omega
        have h3 := hone hv1
        exact Or.inr ⟨h3.2, by omega, by rw [ht]; exact hn.2⟩
  simp only [goesB, Bool.and_eq_true]
  exact ⟨by simp [isVer]; omega, hi, hf⟩
end Chron
namespace Go.Proofs.YtdjllnhahhjgmaaGreat
open Go.RowKit Chron
/- n ints lie behind an address -/
def IntsAt (w : World) (a : Option Addr) (n : Nat) : Prop :=
  ∀ i, i < n → ∃ b off z, a = some ⟨b, off, none⟩ ∧ w.cell? ⟨b, off + i, none⟩ = some (.int .i64 z) ∧ -9223372036854775808 ≤ z
theorem IntsAt.below {w w' : World} {a : Option Addr} {n B : Nat} (h : IntsAt w a n) (hb : Below B w w') (hB : w.heap.size ≤ B) : IntsAt w' a n := by
  intro i hi
  obtain ⟨b, off, z, rfl, hc, hz⟩ := h i hi
  have hlt := World.block_lt_of_cell? w _ hc
  exact ⟨b, off, z, rfl, (hb.cell (p := ⟨b, off + i, none⟩) (Nat.lt_of_lt_of_le hlt hB)).trans hc, hz⟩
theorem conv_one (x : Int) (h0 : 0 ≤ x) (h1 : x < 256) (w : World) :
    (convert 74 9 (.slice (some ⟨w.heap.size, 0, none⟩) 1 1)).run Tryz.prog (w.alloc (.cells #[.int .u8 x] 5)) = .ok (.string ⟨#[UInt8.ofNat x.toNat]⟩) (w.alloc (.cells #[.int .u8 x] 5)) := by
  refine run_convert_bytes_back (w.alloc (.cells #[.int .u8 x] 5)) _ _ 5 ⟨w.heap.size, 0, none⟩ 1 [UInt8.ofNat x.toNat] Tryz.underlying74 Tryz.underlying5 Tryz.underlying9 ?_
  intro j hj
  have hj0 : j = 0 := by simpa using hj
  subst hj0
  refine cell_one_new w (.int .u8 x) 5 0 _ ?_
  simp
  omega
theorem wrap64_lo (x : Int) : -9223372036854775808 ≤ wrap64 x := by unfold wrap64; omega
theorem line_push {s : ByteArray} {p : Int} (h : s.data.toList.all byteOk = true) (h0 : 0 ≤ p) (h1 : p < 95) : (s ++ ⟨#[UInt8.ofNat (32 + p).toNat]⟩).data.toList.all byteOk = true := by
  have e : (s ++ ⟨#[UInt8.ofNat (32 + p).toNat]⟩ : ByteArray).data.toList = s.data.toList ++ [UInt8.ofNat (32 + p).toNat] := by
    obtain ⟨⟨s⟩⟩ := s; simp
  rw [e, List.all_append, h]
  simp [byteOk]
  omega
end Go.Proofs.YtdjllnhahhjgmaaGreat
namespace Go.Proofs.YtdjllnhahhjgmaaGreat
open Go.RowKit Chron
set_option maxRecDepth 100000 in
set_option maxHeartbeats 400000 in
theorem lineOK_any (s : ByteArray) (w : World) (hs : s.size ≤ maxLen) :
    Calls Tryz.prog 62 #[.string s] w fun e w' => e = .returned (.bool (lineB s)) ∧ w' = w := by
  unfold maxLen at hs
  go_enter Tryz.func62, Tryz.ntmps62
  go_wp2
  go_loop [3] (fun i => ∃ k : Nat, k ≤ s.size ∧ i = .int .i64 k ∧ Hid ((s.data.toList.take k).all byteOk = true)) (fun i => s.size - (intOf i).toNat)
  case atStart => exact ⟨0, Nat.zero_le _, rfl, rfl⟩
  case round =>
    obtain ⟨k, hk, rfl, HA⟩ := hrel
    by_cases hlt : k < s.size
    · go_wp2
      · go_ret
        exact ⟨ret_bool (all_fails s k hlt (by assumption)).symm, rfl⟩
      · have hb : 32 ≤ (s[k].toNat : Int) ∧ (s[k].toNat : Int) ≤ 126 := by assumption
        go_round
        case rel => exact ⟨k + 1, by omega, by go_num, all_step s k hlt HA.out hb.1 hb.2⟩
        case measure => simp [intOf]; omega
      · go_ret
        exact ⟨ret_bool (all_fails s k hlt (Or.inl (by assumption))).symm, rfl⟩
    · have hall : s.data.toList.all byteOk = true := by
        have := HA.out
        rwa [List.take_of_length_le (by simp; omega)] at this
      have HL : Hid (lineB s = decide (s.size ≤ 60)) := by simp [Hid, lineB, hall]
      clear hall
      go_wp2
      go_ret
      exact ⟨ret_bool (by rw [HL.out]; exact decide_eq_decide.2 (by omega)), rfl⟩
theorem conv_blk (x : Int) (h0 : 0 ≤ x) (h1 : x < 256) (X : World) (b : Nat) (hX : X.heap[b]? = some (.cells #[.int .u8 x] 5)) :
    (convert 74 9 (.slice (some ⟨b, 0, none⟩) 1 1)).run Tryz.prog X = .ok (.string ⟨#[UInt8.ofNat x.toNat]⟩) X := by
  refine run_convert_bytes_back X _ _ 5 ⟨b, 0, none⟩ 1 [UInt8.ofNat x.toNat] Tryz.underlying74 Tryz.underlying5 Tryz.underlying9 ?_
  intro j hj
  have hj0 : j = 0 := by simpa using hj
  subst hj0
  simp [World.cell?, Addr.add, hX]
  omega
set_option maxRecDepth 100000 in
set_option maxHeartbeats 1000000 in
theorem number_ref (f : Nat) : ∀ (n : Int) (w : World), 0 ≤ n → Hid (n.toNat < 128 ^ f) → 0 < f → f ≤ 10 →
    Calls Tryz.prog 48 #[.int .i64 n] w fun e w' => e = .returned (.string ⟨(numF f n.toNat).toArray⟩) ∧ Below w.heap.size w w' := by
  induction f with
  | zero => intro n w _ _ h; omega
  | succ f ih =>
    intro n w h0 h1 _ h10
    by_cases hs : n < 128
    · have HN : Hid (numF (f + 1) n.toNat = [UInt8.ofNat n.toNat]) := numF_small (by omega)
      have hcv := conv_one n h0 (by omega)
      go_enter Tryz.func48, Tryz.ntmps48
      go_wp2
      go_ret
      exact ⟨ret_str (by rw [HN.out]), (Below.refl _ _).alloc (Nat.le_refl _) _⟩
    · have HN : Hid (numF (f + 1) n.toNat = UInt8.ofNat (128 + n.toNat % 128) :: numF f (n.toNat / 128)) := numF_more (by omega)
      have hf0 : 0 < f := by
        have := h1.out
        rcases Nat.eq_zero_or_pos f with h | h
        · subst h; simp at this; omega
        · exact h
      have hdiv : Hid ((n / 128).toNat < 128 ^ f) := by
        have := h1.out
        rw [Nat.pow_succ] at this
        show (n / 128).toNat < 128 ^ f
        rw [show (n / 128).toNat = n.toNat / 128 by omega]
        exact Nat.div_lt_of_lt_mul (by omega)
      obtain ⟨B, hB, hB0, hB1, HB⟩ : ∃ B : Int, IntKind.u8.wrap (IntKind.i64.wrap (128 + n.tmod 128)) = B ∧ 0 ≤ B ∧ B < 256 ∧ Hid (B.toNat = 128 + n.toNat % 128) := by
        have e : n.tmod 128 = n % 128 := Int.tmod_eq_emod_of_nonneg h0
        refine ⟨128 + n % 128, ?_, by omega, by omega, by show (128 + n % 128).toNat = _; omega⟩
        rw [e, wrapI_small (by omega) (by omega)]
        simp [IntKind.wrap, IntKind.bits, IntKind.signed]; omega
      obtain ⟨D, hD, HD⟩ : ∃ D : Int, IntKind.i64.wrap (n.tdiv 128) = D ∧ Hid (D = n / 128) := by
        have e : n.tdiv 128 = n / 128 := Int.tdiv_eq_ediv_of_nonneg h0
        have hn9 : n.toNat < 128 ^ 10 := Nat.lt_of_lt_of_le h1.out (Nat.pow_le_pow_right (by omega) h10)
        refine ⟨n / 128, ?_, rfl⟩
        rw [e, wrapI_small (by omega) (by omega)]
      have hlenF := numF_len f D.toNat
      have hnum : ∀ X, (X = w.drew ∨ X = (w.alloc (.cells #[.int .u8 B] 5)).drew) → Calls Tryz.prog 48 #[.int .i64 D] X fun e wz => e = .returned (.string ⟨(numF f D.toNat).toArray⟩) ∧ Hid (Below w.heap.size w wz) ∧
          (X = (w.alloc (.cells #[.int .u8 B] 5)).drew → (convert 74 9 (.slice (some ⟨w.heap.size, 0, none⟩) 1 1)).run Tryz.prog wz = .ok (.string ⟨#[UInt8.ofNat B.toNat]⟩) wz) := by
        intro X hX
        refine (ih D X (by rw [HD.out]; omega) (by rw [HD.out]; exact hdiv) hf0 (by omega)).mono ?_
        rintro e wz ⟨rfl, hb⟩
        refine ⟨rfl, ?_, ?_⟩
        · rcases hX with rfl | rfl
          · exact (Below.refl w.heap.size w).drew.trans hb
          · exact ((Below.refl w.heap.size w).alloc (Nat.le_refl _) _).drew.trans (hb.mono (by show w.heap.size ≤ (w.alloc _).heap.size; simp))
        · intro hX2
          subst hX2
          exact conv_blk _ hB0 hB1 wz _ ((hb.block w.heap.size (by show w.heap.size < (w.alloc _).heap.size; simp)).trans (heap_alloc_new w _))
      have hcvD : (convert 74 9 (.slice (some ⟨w.heap.size, 0, none⟩) 1 1)).run Tryz.prog (w.alloc (.cells #[.int .u8 B] 5)).drew = .ok (.string ⟨#[UInt8.ofNat B.toNat]⟩) (w.alloc (.cells #[.int .u8 B] 5)).drew := conv_blk _ hB0 hB1 _ _ (heap_alloc_new w _)
      have hcv := conv_one B hB0 hB1
      have hnl : ¬ 9223372036854775807 < 1 + (numF f D.toNat).length := by omega
      have HF : Hid (numF (f + 1) n.toNat = UInt8.ofNat B.toNat :: numF f D.toNat) := by
        show _ = _
        rw [HN.out, HB.out, HD.out, show (n / 128).toNat = n.toNat / 128 by omega]
      clear ih hlenF hdiv HN h1
      go_enter Tryz.func48, Tryz.ntmps48
      go_wp2_with fail
      go_region_law (first
        | (go_simp; go_at_call 48; refine (hnum _ ?_).mono ?_; first | exact Or.inl rfl | exact Or.inr rfl
           rintro e wz ⟨rfl, HBz, cvz⟩))
      all_goals
        go_wp2
        go_ret
        refine ⟨ret_str ?_, ?_⟩
        · rw [HF.out]; apply bytes_inj; simp
        · first | exact HBz.out | exact HBz.out.alloc (by have := HBz.out.size; omega) _
set_option maxHeartbeats 400000 in
theorem numRef_any (n : Int) (w : World) (h0 : 0 ≤ n) (h1 : Hid (n.toNat < 128 ^ 9)) :
    Calls Tryz.prog 48 #[.int .i64 n] w fun e w' => e = .returned (.string ⟨(num n.toNat).toArray⟩) ∧ Below w.heap.size w w' :=
  number_ref 10 n w h0 (Nat.lt_of_lt_of_le h1.out (Nat.pow_le_pow_right (by omega) (by omega))) (by omega) (by omega)
def fitsR (v k : Int) (t : ByteArray) (m : Int) (n : Nat) : Bool := if v = 3 then true else if v = 2 then decide (n = 0) else (decide (n = 0) && (decide (m = 0) && (decide (k ≠ 4) && !dashB t)))
theorem fitsR_eq {v : Int} {e : Ev} (h : isVer v = true) : fitsR v e.kind e.task e.time e.tags.length = fitsB v e := by
  simp [isVer] at h
  have : v = 1 ∨ v = 2 ∨ v = 3 := by omega
  have hz : decide (e.tags.length = 0) = !decide (0 < e.tags.length) := by
    by_cases h0 : e.tags.length = 0 <;> simp [h0]; omega
  rcases this with rfl | rfl | rfl
  · simp only [fitsR, fitsB]; rw [if_neg (by omega), if_neg (by omega), hz]; simp
  · simp only [fitsR, fitsB]; rw [if_neg (by omega), if_pos trivial, hz]; simp
  · simp [fitsR, fitsB]
theorem fitsR_three {v k : Int} {t : ByteArray} {m : Int} {n : Nat} (h : (v == 3) = true) : fitsR v k t m n = true := by simp at h; simp [fitsR, h]
theorem fitsR_two {v k : Int} {t : ByteArray} {m : Int} {n : Nat} (h3 : (v == 3) = false) (h : (v == 2) = true) : fitsR v k t m n = ((n : Int) == 0) := by
  simp at h h3; rw [fitsR, if_neg h3, if_pos h, Bool.eq_iff_iff]; simp
theorem fitsR_one {v k : Int} {t : ByteArray} {m : Int} {n : Nat} (h3 : (v == 3) = false) (h : (v == 2) = false) : fitsR v k t m n = (((n : Int) == 0) && ((m == 0) && ((k != 4) && !(t.toList == [45])))) := by
  simp at h h3; rw [fitsR, if_neg h3, if_neg h, dashB, Bool.eq_iff_iff]; simp
set_option maxRecDepth 100000 in
set_option maxHeartbeats 1000000 in
theorem fits_any (v k : Int) (t : ByteArray) (m : Int) (b : ByteArray) (a : Option Addr) (n cap : Nat) (w : World) :
    Calls Tryz.prog 45 #[.int .i64 v, .agg #[.int .i64 k, .string t, .int .i64 m, .string b, .slice a n cap]] w fun e w' =>
      e = .returned (.bool (fitsR v k t m n)) ∧ Below w.heap.size w w' := by
  go_enter Tryz.func45, Tryz.ntmps45
  go_wp2
  all_goals
    go_ret
    refine ⟨ret_bool ?_, (Below.refl _ _).alloc (Nat.le_refl _) _⟩
    first
      | (rw [fitsR_three ‹_›]; done)
      | (rw [fitsR_two ‹_› ‹_›]; done)
      | (rw [fitsR_one ‹(v == 3) = false› ‹(v == 2) = false›]; simp_all; done)
end Go.Proofs.YtdjllnhahhjgmaaGreat
