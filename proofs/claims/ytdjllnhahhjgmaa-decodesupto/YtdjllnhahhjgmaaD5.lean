/- Walk of chroniclelaw.Encodes. -/
import Derived.Test.YtdjllnhahhjgmaaD4
namespace Go.Proofs.Ytdjllnhahhjgmaa
open Go.RowKit Chron
structure Law3 (N X M : Nat) (w wx : World) (e o x : Array Value) (L : List Value) : Prop where
  be : wx.heap[N]? = some (.cells e 24)
  bo : wx.heap[N + 1]? = some (.cells o 24)
  bx : wx.heap[X]? = some (.cells x 24)
  row : wx.heap[M]? = some (.cells L.toArray 9 (0, 0))
  bel : Below N w wx
  o1 : N + 1 < M
  o2 : M < X
  o3 : X < wx.heap.size
theorem Law3.below {N X M : Nat} {w wx wy : World} {e o x : Array Value} {L : List Value} (h : Law3 N X M w wx e o x L) (hb : Below wx.heap.size wx wy) : Law3 N X M w wy e o x L := by
  have h1 := h.o1
  have h2 := h.o2
  have h3 := h.o3
  exact ⟨(hb.block _ (by omega)).trans h.be, (hb.block _ (by omega)).trans h.bo, (hb.block _ (by omega)).trans h.bx, (hb.block _ (by omega)).trans h.row, h.bel.trans (hb.mono (by omega)), h1, h2, Nat.lt_of_lt_of_le h3 hb.size⟩
/- within the loop: y too, its tags a row of its own -/
structure Law5 (N X M Y : Nat) (w wx : World) (e o x : Array Value) (k : Int) (t : ByteArray) (m : Int) (b : ByteArray) (yv : Value) (L : List Value) (zs : List ByteArray) : Prop where
  l3 : Law3 N X M w wx e o x L
  bY : wx.heap[Y]? = some (.cells #[.int .i64 k, .string t, .int .i64 m, .string b, yv] 24)
  own : wx.ownsRow (Y + 1) 9 1 yv zs.length (zs.map Value.string)
  oY : X < Y
theorem Law5.lt {N X M Y : Nat} {w wx : World} {e o x : Array Value} {k : Int} {t : ByteArray} {m : Int} {b : ByteArray} {yv : Value} {L : List Value} {zs : List ByteArray} (h : Law5 N X M Y w wx e o x k t m b yv L zs) : Y < wx.heap.size := (Array.getElem?_eq_some_iff.1 h.bY).1
theorem Law5.store {N X M Y : Nat} {w wx : World} {e o x : Array Value} {k : Int} {t : ByteArray} {m : Int} {b : ByteArray} {yv : Value} {L : List Value} {zs : List ByteArray} (h : Law5 N X M Y w wx e o x k t m b yv L zs) (i : Nat) (u : Value) : Law5 N X M Y w (wx.setCell ⟨M, i, none⟩ u) e o x k t m b yv (L.set i u) zs := by
  obtain ⟨⟨h1, h2, h3, h4, h5, h6, h7, h8⟩, h9, h10, h11⟩ := h
  have hb : ∀ q, q ≠ M → (wx.setCell ⟨M, i, none⟩ u).heap[q]? = wx.heap[q]? := fun q hq => Below.heap_setCell _ _ _ _ hq
  exact ⟨⟨(hb _ (by omega)).trans h1, (hb _ (by omega)).trans h2, (hb _ (by omega)).trans h3, set_row h4, h5.setCell (by show N ≤ M; omega) _, h6, h7, by rw [size_set]; exact h8⟩, (hb _ (by omega)).trans h9, ownsRow_setCell_below h10 (by show M < Y + 1; omega) _, h11⟩
theorem Law5.drew {N X M Y : Nat} {w wx : World} {e o x : Array Value} {k : Int} {t : ByteArray} {m : Int} {b : ByteArray} {yv : Value} {L : List Value} {zs : List ByteArray} (h : Law5 N X M Y w wx e o x k t m b yv L zs) : Law5 N X M Y w wx.drew e o x k t m b yv L zs :=
  ⟨⟨h.l3.be, h.l3.bo, h.l3.bx, h.l3.row, h.l3.bel.drew, h.l3.o1, h.l3.o2, h.l3.o3⟩, h.bY, World.ownsRow.drew h.own, h.oY⟩
theorem Law5.push {N X M Y : Nat} {w wx wa : World} {e o x : Array Value} {k : Int} {t : ByteArray} {m : Int} {b : ByteArray} {yv : Value} {L : List Value} {zs : List ByteArray} {o' : Obj} {g cap n : Nat} {z : ByteArray} (h : Law5 N X M Y w wx e o x k t m b yv L zs) (hn : zs.length = n)
    (hg : (wx.alloc o').grownBy wa yv.ownBlock) (hown : wa.ownsRow (Y + 1) 9 1 (.slice (some ⟨g, 0, none⟩) (n + 1) cap) (n + 1) (zs.map Value.string ++ [.string z])) :
    wa.heap[Y]? = some (.cells #[.int .i64 k, .string t, .int .i64 m, .string b, yv] 24) ∧ Law5 N X M Y w (wa.setCell ⟨Y, 4, none⟩ (.slice (some ⟨g, 0, none⟩) (n + 1) cap)) e o x k t m b (.slice (some ⟨g, 0, none⟩) (n + 1) cap) L (zs ++ [z]) := by
  subst hn
  have hY := h.lt
  have hs := hg.size
  rw [World.size_alloc] at hs
  obtain ⟨⟨h1, h2, h3, h4, h5, h6, h7, h8⟩, h9, h10, h11⟩ := h
  have hblk : ∀ q, q ≤ Y → wa.heap[q]? = wx.heap[q]? := fun q hq => by
    rw [hg.block q (by rw [World.size_alloc]; omega) (fun e => by have := (h10.lt q e.symm).1; omega), Below.heap_alloc _ _ _ (by omega)]
  have hb : ∀ q, q < Y → (wa.setCell ⟨Y, 4, none⟩ (.slice (some ⟨g, 0, none⟩) (zs.length + 1) cap)).heap[q]? = wx.heap[q]? := fun q hq => (Below.heap_setCell _ _ _ _ (by show q ≠ Y; omega)).trans (hblk q (by omega))
  have hbY := (hblk Y (Nat.le_refl _)).trans h9
  refine ⟨hbY, ⟨(hb _ (by omega)).trans h1, (hb _ (by omega)).trans h2, (hb _ (by omega)).trans h3, (hb _ (by omega)).trans h4, ?_, h6, h7, by rw [size_set]; omega⟩, loan_set hbY, ?_, h11⟩
  · exact (Below.grown (h5.alloc (by omega) _) hg (by rw [World.size_alloc]; omega) (fun q hq => by have := (h10.lt q hq).1; omega)).setCell (by show N ≤ Y; omega) _
  · have := ownsRow_setCell_below hown (a := ⟨Y, 4, none⟩) (Nat.lt_succ_self _) (.slice (some ⟨g, 0, none⟩) (zs.length + 1) cap)
    simpa using this
theorem take_push {zs : List ByteArray} {i : Nat} {z : ByteArray} (hz : zs[i]? = some z) : zs.take i ++ [z] = zs.take (i + 1) := by
  have hi := (List.getElem?_eq_some_iff.1 hz).1
  rw [List.take_succ_eq_append_getElem hi]
  rw [List.getElem?_eq_getElem hi] at hz
  rw [Option.some.inj hz]
theorem first_call (W : World) (N : Nat) (hN : W.heap.size = N) : Calls Try.prog 9 #[.int .i64 3, .agg #[.int .i64 2, .string ⟨#[116]⟩, .int .i64 300, .string ⟨#[104, 105]⟩, .slice (some ⟨N, 0, none⟩) 1 1]] (W.alloc (.cells #[.string ⟨#[97]⟩] 9)) fun e w' =>
    e = .returned (.tuple #[.string firstB, .int .i64 0]) ∧ Below (W.alloc (.cells #[.string ⟨#[97]⟩] 9)).heap.size (W.alloc (.cells #[.string ⟨#[97]⟩] 9)) w' := by
  subst hN
  have hE := encode_any 3 2 ⟨#[116]⟩ 300 ⟨#[104, 105]⟩ (some ⟨W.heap.size, 0, none⟩) 1 [⟨#[97]⟩] (W.alloc (.cells #[.string ⟨#[97]⟩] 9)) one_tag
    (fun i hi => by
      have : i = 0 := by simpa using hi
      subst this; decide) (by decide) (by decide) (by decide)
  rw [first_enc] at hE
  exact hE
set_option maxRecDepth 100000 in
set_option maxHeartbeats 2000000 in
theorem encodes_any (v k : Int) (t : ByteArray) (m : Int) (bd : ByteArray) (a : Option Addr) (cap : Nat) (ts : List ByteArray) (k' : Int) (t' : ByteArray) (m' : Int) (bd' : ByteArray) (a' : Option Addr) (cap' : Nat) (us : List ByteArray) (w : World)
    (ht : Hid (TagsAt w a ts)) (hs : Hid (Short ts)) (hl : ts.length * 16 ≤ 140737488351232) (htl : t.size ≤ maxLen) (hbl : bd.size ≤ maxLen)
    (hu : Hid (TagsAt w a' us)) (hus : Hid (Short us)) (hul : us.length * 16 ≤ 140737488351232) :
    Calls Try.prog 3 #[.int .i64 v, .agg #[.int .i64 k, .string t, .int .i64 m, .string bd, .slice a ts.length cap], .agg #[.int .i64 k', .string t', .int .i64 m', .string bd', .slice a' us.length cap']] w fun e w' =>
      e = .returned (.bool true) ∧ Below w.heap.size w w' := by
  have hlm : ts.length ≤ maxLen := by unfold maxLen; omega
  go_enter Try.func3, Try.ntmps3
  go_wp2_with fail
  refine (first_call _ (w.heap.size + 1 + 1) (by simp)).mono ?_
  rintro e w1 ⟨rfl, hb1⟩
  have hs1 := hb1.size
  simp only [World.size_alloc] at hs1
  have be1 : w1.heap[w.heap.size]? = some (.cells #[.int .i64 k, .string t, .int .i64 m, .string bd, .slice a ts.length cap] 24) := by
    rw [hb1.block _ (by simp only [World.size_alloc]; omega), Below.heap_alloc _ _ _ (by simp only [World.size_alloc]; omega), Below.heap_alloc _ _ _ (by simp only [World.size_alloc]; omega)]; exact heap_alloc_new _ _
  have bo1 : w1.heap[w.heap.size + 1]? = some (.cells #[.int .i64 k', .string t', .int .i64 m', .string bd', .slice a' us.length cap'] 24) := by
    rw [hb1.block _ (by simp only [World.size_alloc]; omega), Below.heap_alloc _ _ _ (by simp only [World.size_alloc]; omega)]
    have := heap_alloc_new (w.alloc (.cells #[.int .i64 k, .string t, .int .i64 m, .string bd, .slice a ts.length cap] 24)) (.cells #[.int .i64 k', .string t', .int .i64 m', .string bd', .slice a' us.length cap'] 24)
    rwa [World.size_alloc] at this
  have bel1 : Below w.heap.size w w1 := ((((Below.refl _ _).alloc (Nat.le_refl _) _).alloc (by simp) _).alloc (by simp only [World.size_alloc]; omega) _).trans (hb1.mono (by simp only [World.size_alloc]; omega))
  have HB1 := hide0 (And.intro be1 (And.intro bo1 bel1))
  obtain ⟨c0, c1, c2, c3, c4, cf⟩ := res_cells be1
  clear be1 bo1 bel1 hb1
  have hfb : (firstB.toList == [1, 2, 2, 1, 116, 3, 172, 2, 4, 2, 104, 105, 5, 1, 97]) = true := by decide +kernel
  have hne1 : ¬ w.heap.size = w1.heap.size := by omega
  have hlt1 : w.heap.size < w1.heap.size := by omega
  go_wp2_with fail
  have HL1 : Hid (LoanAt w1.heap.size (.slice none 0 0) (.slice none 0 0) (.slice none 0 0) (.int .i64 0) (.slice none 0 0) 0 [] 0 [] (w1.alloc (.cells #[.slice none 0 0, .slice none 0 0, .slice none 0 0, .int .i64 0, .slice none 0 0] 33))) :=
    ⟨heap_alloc_new _ _, World.ownsRow_nil _ _ _ _, World.ownsRow_nil _ _ _ _, fun q hq => by cases hq⟩
  refine (one_any w1.heap.size _ _ _ _ _ 0 [] [] k t m bd a cap ts _ HL1 (TagsAt.alloc (ht.out.below HB1.out.2.2 (Nat.le_refl _)) _) hl (by omega)).mono ?_
  rintro e w2 ⟨M, tv, cv, rfl, hM, hrow, hloan, htv, hcv, hfar⟩
  simp only [World.size_alloc] at hM
  have hbel2 : Below w1.heap.size (w1.alloc (.cells #[.slice none 0 0, .slice none 0 0, .slice none 0 0, .int .i64 0, .slice none 0 0] 33)) w2 := hfar.below (by simp) (fun q hq => by simp [Value.ownBlock] at hq; omega)
  have hbel2' : Below w1.heap.size w1 w2 := ((Below.refl _ _).alloc (Nat.le_refl _) _).trans hbel2
  have hMlt := (Array.getElem?_eq_some_iff.1 hrow).1
  have H5 : Hid (Law3 w.heap.size w2.heap.size M w (w2.alloc (.cells #[.int .i64 k, .string t, .int .i64 m, .string bd, .slice (some ⟨M, 0, none⟩) ts.length (ts.length + 8)] 24)) #[.int .i64 k, .string t, .int .i64 m, .string bd, .slice a ts.length cap] #[.int .i64 k', .string t', .int .i64 m', .string bd', .slice a' us.length cap'] #[.int .i64 k, .string t, .int .i64 m, .string bd, .slice (some ⟨M, 0, none⟩) ts.length (ts.length + 8)] (lent ts 8)) := by
    have hb := (Below.refl w2.heap.size w2).alloc (Nat.le_refl _) (.cells #[.int .i64 k, .string t, .int .i64 m, .string bd, .slice (some ⟨M, 0, none⟩) ts.length (ts.length + 8)] 24)
    have hs2 := hbel2'.size
    exact ⟨(hb.block _ (by omega)).trans ((hbel2'.block _ (by omega)).trans HB1.out.1), (hb.block _ (by omega)).trans ((hbel2'.block _ (by omega)).trans HB1.out.2.1), heap_alloc_new _ _, (hb.block _ (by omega)).trans hrow, (HB1.out.2.2.trans (hbel2'.mono (by omega))).trans (hb.mono (by omega)), by omega, hMlt, by rw [World.size_alloc]; omega⟩
  have HLN : Hid (LoanAt w1.heap.size tv cv (.slice none 0 0) (.int .i64 0) (.slice none 0 0) 1 (lentV [(M, ts.length)]) 1 (lentN [(M, ts.length)]) (w2.alloc (.cells #[.int .i64 k, .string t, .int .i64 m, .string bd, .slice (some ⟨M, 0, none⟩) ts.length (ts.length + 8)] 24))) :=
    LoanAt.kept hloan ((Below.refl _ _).alloc (Nat.le_refl _) _) (Nat.le_refl _)
  clear hloan htv hcv hfar hbel2 hbel2' hrow HL1 c0 c1 c2 c3 c4 cf HB1 hfb
  generalize hr : encB v ⟨k, t, m, bd, ts⟩ = r
  have HR := hide0 hr
  clear hr
  go_wp2_with fail
  have hc3 := encode_any v k t m bd (some ⟨M, 0, none⟩) (ts.length + 8) ts _ (lent_tags H5.out.row) hs hlm htl hbl
  rw [HR.out] at hc3
  refine hc3.mono ?_
  clear hc3
  rintro e w3 ⟨rfl, hb3⟩
  have H3 := hide0 (H5.out.below hb3)
  have HL3 := hide0 (HLN.out.kept hb3 (Nat.le_refl _))
  have hs3 := hb3.size
  rw [World.size_alloc] at hs3
  clear H5 HLN hb3
  obtain ⟨c0, c1, c2, c3, c4, cf⟩ := res_cells H3.out.be
  go_wp2_with fail
  have hc4 := encodeRef_any v k t m bd a cap ts w3 (ht.out.below H3.out.bel (Nat.le_refl _)) hs hlm htl hbl
  rw [HR.out] at hc4
  refine hc4.mono ?_
  clear hc4
  rintro e w4 ⟨rfl, hb4⟩
  have H4 := hide0 (H3.out.below hb4)
  have HL4 := hide0 (HL3.out.kept hb4 (Nat.le_refl _))
  clear H3 HL3 hb4 c0 c1 c2 c3 c4 cf
  obtain ⟨c0, c1, c2, c3, c4, cf⟩ := res_cells H4.out.be
  obtain ⟨x0, x1, x2, x3, x4, xf⟩ := res_cells H4.out.bx
  go_wp2_with fail
  have hc5 := same_law ⟨k, t, m, bd, ts⟩ ⟨k, t, m, bd, ts⟩ (some ⟨M, 0, none⟩) a (ts.length + 8) cap w4 (lent_tags H4.out.row) (ht.out.below H4.out.bel (Nat.le_refl _)) hlm hlm
  rw [sameEv_iff.2 rfl] at hc5
  refine hc5.mono ?_
  clear hc5
  rintro e w5 ⟨rfl, hb5⟩
  have H5 := hide0 (H4.out.below hb5)
  have HL5 := hide0 (HL4.out.kept hb5 (Nat.le_refl _))
  clear H4 HL4 hb5 c0 c1 c2 c3 c4 cf x0 x1 x2 x3 x4 xf
  go_wp2_with fail
  refine (kept_tags w1.heap.size tv cv [(M, ts.length)] w5 HL5 (lent_ok H5.out.row hl) (by simp)).mono ?_
  rintro e w6 ⟨rfl, nq, hw6⟩
  have H6 := hide0 (H5.out.below (show Below w5.heap.size w5 w6 by rw [hw6]; exact below_of_drewN nq))
  clear H5 HL5 hw6
  obtain ⟨c0, c1, c2, c3, c4, cf⟩ := res_cells H6.out.be
  go_wp2_with fail
  have hzl := mix_len ts us
  have HZS := hide0 (mix_short hs.out hus.out)
  have HZ : Hid (∀ i, i < ts.length → (i < us.length → (mix ts us)[i]? = us[i]?) ∧ (us.length ≤ i → (mix ts us)[i]? = ts[i]?)) := fun i hi => ⟨mix_lt hi, mix_ge hi⟩
  generalize mix ts us = zs at hzl HZS HZ
  have HX6 := H6.out.o3
  clear c0 c1 c2 c3 c4 cf
  go_loopw [18] (fun iv wx => ∃ (i : Nat) (yv : Value), i ≤ ts.length ∧ iv = .int .i64 i ∧ Hid (Law5 w.heap.size w2.heap.size M w6.heap.size w wx #[.int .i64 k, .string t, .int .i64 m, .string bd, .slice a ts.length cap] #[.int .i64 k', .string t', .int .i64 m', .string bd', .slice a' us.length cap'] #[.int .i64 k, .string t, .int .i64 m, .string bd, .slice (some ⟨M, 0, none⟩) ts.length (ts.length + 8)] k t m bd yv (lent (half zs ts i) 8) (zs.take i))) (fun iv _ => ts.length - (intOf iv).toNat)
  case atStart =>
    refine ⟨0, .slice none 0 0, Nat.zero_le _, rfl, ?_⟩
    rw [half_zero]
    exact ⟨H6.out.below ((Below.refl _ _).alloc (Nat.le_refl _) _), heap_alloc_new _ _, World.ownsRow_nil _ _ _ _, HX6⟩
  case round =>
    obtain ⟨i, yv, hi, rfl, HA⟩ := hrel
    clear H6
    obtain ⟨c0, c1, c2, c3, c4, cf⟩ := res_cells HA.out.l3.be
    obtain ⟨o0, o1, o2, o3, o4, of⟩ := res_cells HA.out.l3.bo
    obtain ⟨x0, x1, x2, x3, x4, xf⟩ := res_cells HA.out.l3.bx
    by_cases hlt : i < ts.length
    · go_upto_if 82 with fail
      clear c0 c1 c2 c3 cf o0 o1 o2 o3 of x0 x1 x2 x3 xf
      go_cut [82] (fun _ wx => Hid (Law5 w.heap.size w2.heap.size M w6.heap.size w wx #[.int .i64 k, .string t, .int .i64 m, .string bd, .slice a ts.length cap] #[.int .i64 k', .string t', .int .i64 m', .string bd', .slice a' us.length cap'] #[.int .i64 k, .string t, .int .i64 m, .string bd, .slice (some ⟨M, 0, none⟩) ts.length (ts.length + 8)] k t m bd yv (lent (half zs ts (i + 1)) 8) (zs.take i)))
      case first =>
        by_cases hiu : i < us.length
        · obtain ⟨q, off, rfl, hcx⟩ := hu.out (by omega)
          have hck := hcx i hiu
          have hqlt := World.block_lt_of_cell? w _ hck
          obtain ⟨x, hx⟩ : ∃ x, us[i]? = some x := ⟨us[i], List.getElem?_eq_getElem hiu⟩
          rw [hx] at hck
          have hck' : wr.cell? ⟨q, off + i, none⟩ = some (.string x) := (HA.out.l3.bel.cell (p := ⟨q, off + i, none⟩) hqlt).trans hck
          have hzx : zs[i]? = some x := ((HZ.out i hlt).1 hiu).trans hx
          have HN : Hid (Law5 w.heap.size w2.heap.size M w6.heap.size w (wr.setCell ⟨M, i, none⟩ (.string x)) #[.int .i64 k, .string t, .int .i64 m, .string bd, .slice a ts.length cap] #[.int .i64 k', .string t', .int .i64 m', .string bd', .slice (some ⟨q, off, none⟩) us.length cap'] #[.int .i64 k, .string t, .int .i64 m, .string bd, .slice (some ⟨M, 0, none⟩) ts.length (ts.length + 8)] k t m bd yv (lent (half zs ts (i + 1)) 8) (zs.take i)) := by
            have h := HA.out.store i (.string x)
            rwa [lent_put _ (by rw [half_len hzl hi]; exact hlt), half_succ hzl hlt hzx] at h
          obtain ⟨y, hcell, hfr⟩ := row_cell HA.out.l3.row (i := i) (by rw [lent_len _ (by omega), half_len hzl hi]; omega)
          have hiI : (i : Int) < (us.length : Int) := by omega
          have hiT : (i : Int) < (ts.length : Int) := by omega
          clear hcx hck hqlt hx hzx
          go_wp2_with fail
          go_region
          all_goals
            go_wp2_with fail
            go_meet
            case rel => exact HN.out.drew
        · have hiI : ¬ (i : Int) < (us.length : Int) := by omega
          go_wp2_with fail
          go_meet
          case rel => rw [half_same hzl hlt ((HZ.out i hlt).2 (by omega))]; exact HA
      case rest =>
        have HC := hide0 hcut.out.drew
        clear HA c4 o4 x4
        obtain ⟨z, hz⟩ : ∃ z, zs[i]? = some z := ⟨zs[i], List.getElem?_eq_getElem (by omega)⟩
        have hcz : wc.cell? ⟨M, i, none⟩ = some (.string z) := lent_cell hcut.out.l3.row ((half_now hzl hlt).trans hz)
        have HTP := hide0 (take_push hz)
        have x4 := (res_cells hcut.out.l3.bx).2.2.2.2.1
        have y4 := (res_cells hcut.out.bY).2.2.2.2.1
        have hsY := hcut.out.lt
        obtain ⟨i0, hi0, hz0, hz1, hz2⟩ := info_parts infoText
        have htl' : (zs.take i).length = i := by simp; omega
        have e1 : i + 1 ≤ maxLen := by unfold maxLen; omega
        have e2 : (i + 1) * 16 ≤ 140737488355328 := by omega
        have HOW : Hid (wc.drew.ownsRow (w6.heap.size + 1) 9 1 yv i ((zs.take i).map Value.string)) := by have h := HC.out.own; rwa [htl'] at h
        have e3 : ∀ o, w6.heap.size + 1 ≤ (wc.drew.alloc o).heap.size := fun o => by rw [World.size_alloc]; show w6.heap.size + 1 ≤ wc.heap.size + 1; omega
        have hiT : (i : Int) < (ts.length : Int) := by omega
        clear hz hcut
        have HLT := hide0 htl'
        clear htl'
        go_upto_region 19 with fail
        go_region_law (first
          | (go_must (refine step_append_lies _ rfl _ _ 22 rfl (w6.heap.size + 1) 9 i0 (.string ⟨#[]⟩) 1 16 Try.underlying22 hi0 hz0 hz1 hz2 rfl Nat.one_pos yv i ((zs.take i).map Value.string) rfl (World.ownsRow.alloc HOW.out _) ⟨wc.heap.size, 0, none⟩ 1 1 [_] rfl rfl (cell_one_new _ _ _) (one_string _) Nat.one_pos e1 e2 (e3 _) _ rfl ?_)
             intro g cap9 wa hown' hgrow hat hglt
             obtain ⟨hbY, HP⟩ := HC.out.push HLT.out hgrow hown'
             rw [HTP.out] at HP
             have HN := hide0 HP
             obtain ⟨ya0, ya1, ya2, ya3, ya4, yaf⟩ := res_cells hbY
             clear hgrow hown' hat HP hbY))
        all_goals
          clear hcz HC HOW x4 y4 ya0 ya1 ya2 ya3 ya4 yaf
          go_wp2
          go_roundw
          case rel => exact ⟨i + 1, _, by omega, by go_num, HN⟩
          case measure => simp [intOf]; omega
    · have hie : i = ts.length := by omega
      subst hie
      have HB : Hid (Law5 w.heap.size w2.heap.size M w6.heap.size w wr #[.int .i64 k, .string t, .int .i64 m, .string bd, .slice a ts.length cap] #[.int .i64 k', .string t', .int .i64 m', .string bd', .slice a' us.length cap'] #[.int .i64 k, .string t, .int .i64 m, .string bd, .slice (some ⟨M, 0, none⟩) ts.length (ts.length + 8)] k t m bd yv (lent zs 8) zs) := by
        have h := HA.out
        rwa [half_all hzl, List.take_of_length_le (by omega)] at h
      clear HA c0 c1 c2 c3 cf o0 o1 o2 o3 o4 of HR hi hlt
      obtain ⟨ya, ycap, rfl, hty⟩ := own_tags HB.out.own
      have HTY := hide0 hty
      have hlz : zs.length ≤ maxLen := by omega
      generalize hr2 : encB v ⟨k, t, m, bd, zs⟩ = r2
      have HR2 := hide0 hr2
      clear hr2 hty
      go_wp2_with fail
      have hc7 := encode_any v k t m bd (some ⟨M, 0, none⟩) (ts.length + 8) zs wr (lent_tags HB.out.l3.row) HZS hlz htl hbl
      rw [HR2.out, hzl] at hc7
      refine hc7.mono ?_
      clear hc7
      rintro e w7 ⟨rfl, hb7⟩
      have hbY7 := (hb7.block _ HB.out.lt).trans HB.out.bY
      have H7 := hide0 (HB.out.l3.below hb7)
      have HT7 := hide0 (HTY.out.below hb7 (Nat.le_refl _))
      obtain ⟨y0, y1, y2, y3, y4, yf⟩ := res_cells hbY7
      have HY7 := hide0 hbY7
      clear hb7 HB HTY hbY7 x0 x1 x2 x3 x4 xf c4
      go_wp2_with fail
      have hc8 := encodeRef_any v k t m bd ya ycap zs w7 HT7 HZS hlz htl hbl
      rw [HR2.out, hzl] at hc8
      refine hc8.mono ?_
      clear hc8
      rintro e w8 ⟨rfl, hb8⟩
      have hbY8 := (hb8.block _ (Array.getElem?_eq_some_iff.1 HY7.out).1).trans HY7.out
      have H8 := hide0 (H7.out.below hb8)
      have HT8 := hide0 (HT7.out.below hb8 (Nat.le_refl _))
      clear y0 y1 y2 y3 y4 yf
      obtain ⟨y0, y1, y2, y3, y4, yf⟩ := res_cells hbY8
      obtain ⟨x0, x1, x2, x3, x4, xf⟩ := res_cells H8.out.bx
      clear hb8 H7 HT7 HY7 hbY8
      go_wp2_with fail
      have hc9 := same_law ⟨k, t, m, bd, zs⟩ ⟨k, t, m, bd, zs⟩ (some ⟨M, 0, none⟩) ya (ts.length + 8) ycap w8 (lent_tags H8.out.row) HT8 hlz hlz
      rw [sameEv_iff.2 rfl] at hc9
      simp only [evVal, hzl] at hc9
      refine hc9.mono ?_
      clear hc9
      rintro e w9 ⟨rfl, hb9⟩
      have hbel := (H8.out.below hb9).bel
      clear H8 HT8 hb9 y0 y1 y2 y3 y4 yf x0 x1 x2 x3 x4 xf
      go_wp2
      go_ret
      exact ⟨rfl, hbel⟩
end Go.Proofs.Ytdjllnhahhjgmaa
