/- Walk of chroniclelaw's loan.one. -/
import Derived.Test.YtdjllnhahhjgmaaD1
namespace Go.Proofs.Ytdjllnhahhjgmaa
open Go.RowKit Chron
theorem infoText : (Try.prog.info? 9).map (fun i => (i.zero, i.size, i.bytes)) = some (some (.string ⟨#[]⟩), 1, 16) := by kernel_rfl
theorem infoTexts : (Try.prog.info? 22).map (fun i => (i.zero, i.size, i.bytes)) = some (some (.slice none 0 0), 1, 24) := by kernel_rfl
theorem infoInt : (Try.prog.info? 3).map (fun i => (i.zero, i.size, i.bytes)) = some (some (.int .i64 0), 1, 8) := by kernel_rfl
theorem sizeText : (Try.prog.info? 9).map (·.size) = some 1 := by kernel_rfl
theorem made_strings (n : Nat) : (madeCells (Value.string ⟨#[]⟩).cells (n * 1)).toList = List.replicate n (.string ⟨#[]⟩) := by
  apply List.ext_getElem
  · simp [madeCells]
  · intro i h1 h2
    simp [madeCells, Value.cells, Nat.mod_one]
theorem own_whole {w : World} {base : Nat} {e : TypeId} {g n : Nat} {xs : List Value} (h : w.ownsRow base e 1 (.slice (some ⟨g, 0, none⟩) n n) n xs) : w.heap[g]? = some (.cells xs.toArray e (0, 0)) := by
  rcases h.2 with ⟨h0, _⟩ | ⟨g', cap, cur, hv, hb, hg, h1, h2, h3, h4⟩
  · cases h0
  · simp only [Value.slice.injEq, Option.some.injEq, Addr.mk.injEq] at hv
    obtain ⟨⟨rfl, _⟩, _, rfl⟩ := hv
    rw [hg, ← h4, List.take_of_length_le (by simp; omega)]
structure OneAt (N : Nat) (w wx : World) (k : Int) (t : ByteArray) (m : Int) (b : ByteArray) (v : Value) (L : List Value) : Prop where
  box : wx.heap[N]? = some (.cells #[.int .i64 k, .string t, .int .i64 m, .string b, v] 24)
  res : wx.heap[N + 1]? = some (.cells #[.int .i64 0, .string ⟨#[]⟩, .int .i64 0, .string ⟨#[]⟩, .slice none 0 0] 24)
  row : wx.heap[N + 2]? = some (.cells L.toArray 9 (0, 0))
  bel : Below N w wx
  big : N + 3 ≤ wx.heap.size
theorem OneAt.below {N : Nat} {w wx wy : World} {k : Int} {t : ByteArray} {m : Int} {b : ByteArray} {v : Value} {L L' : List Value} (h : OneAt N w wx k t m b v L) (hb : Below (N + 2) wx wy) (hr : wy.heap[N + 2]? = some (.cells L'.toArray 9 (0, 0))) : OneAt N w wy k t m b v L' :=
  ⟨(hb.block N (by omega)).trans h.box, (hb.block (N + 1) (by omega)).trans h.res, hr, h.bel.trans (hb.mono (by omega)), Nat.le_trans h.big hb.size⟩
theorem OneAt.made {w w1 : World} {k : Int} {t : ByteArray} {m : Int} {b : ByteArray} {v : Value} {n : Nat}
    (hown : w1.ownsRow (w.heap.size + 2) 9 1 (.slice (some ⟨((w.alloc (.cells #[.int .i64 k, .string t, .int .i64 m, .string b, v] 24)).alloc (.cells #[.int .i64 0, .string ⟨#[]⟩, .int .i64 0, .string ⟨#[]⟩, .slice none 0 0] 24)).heap.size, 0, none⟩) n n) n (madeCells (Value.string ⟨#[]⟩).cells (n * 1)).toList)
    (hg : ((w.alloc (.cells #[.int .i64 k, .string t, .int .i64 m, .string b, v] 24)).alloc (.cells #[.int .i64 0, .string ⟨#[]⟩, .int .i64 0, .string ⟨#[]⟩, .slice none 0 0] 24)).grownBy w1 none) :
    OneAt w.heap.size w w1 k t m b v (List.replicate n (.string ⟨#[]⟩)) := by
  have hr := own_whole hown
  rw [made_strings] at hr
  simp only [World.size_alloc] at hr
  have hsz := hg.size
  simp only [World.size_alloc] at hsz
  have hlt := (Array.getElem?_eq_some_iff.1 hr).1
  refine ⟨?_, ?_, hr, ?_, by omega⟩
  · rw [hg.block w.heap.size (by simp only [World.size_alloc]; omega) (by simp), Below.heap_alloc _ _ _ (by simp)]; exact heap_alloc_new _ _
  · rw [hg.block (w.heap.size + 1) (by simp only [World.size_alloc]; omega) (by simp)]
    have := heap_alloc_new (w.alloc (.cells #[.int .i64 k, .string t, .int .i64 m, .string b, v] 24)) (.cells #[.int .i64 0, .string ⟨#[]⟩, .int .i64 0, .string ⟨#[]⟩, .slice none 0 0] 24)
    rw [World.size_alloc] at this; exact this
  · exact Below.grown (((Below.refl _ _).alloc (Nat.le_refl _) _).alloc (by simp) _) hg (by simp only [World.size_alloc]; omega) (fun q hq => by cases hq)
theorem row_cell {w : World} {g i : Nat} {L : List Value} {t : TypeId} (h : w.heap[g]? = some (.cells L.toArray t (0, 0))) (hi : i < L.length) : ∃ x, w.cell? ⟨g, i, none⟩ = some x ∧ w.frozen? ⟨g, i, none⟩ = false := by
  refine ⟨L[i], ?_, ?_⟩
  · simp [World.cell?, h, hi]
  · simp [World.frozen?, h]
theorem one_slice (a : Option Addr) (n c : Nat) : ∀ u ∈ [Value.slice a n c], u.oneCell' = true := fun u hu => by simp at hu; subst hu; rfl
theorem one_int (k : IntKind) (x : Int) : ∀ u ∈ [Value.int k x], u.oneCell' = true := fun u hu => by simp at hu; subst hu; rfl
/- behind the loop: what was there is as it was but for the loan -/
structure OneFar (N : Nat) (w wx : World) (R : List (Option Nat)) (k : Int) (t : ByteArray) (m : Int) (b : ByteArray) (v : Value) (L : List Value) : Prop where
  box : wx.heap[N]? = some (.cells #[.int .i64 k, .string t, .int .i64 m, .string b, v] 24)
  res : wx.heap[N + 1]? = some (.cells #[.int .i64 0, .string ⟨#[]⟩, .int .i64 0, .string ⟨#[]⟩, .slice none 0 0] 24)
  row : wx.heap[N + 2]? = some (.cells L.toArray 9 (0, 0))
  far : Far w wx R
  big : N + 3 ≤ wx.heap.size
  same : N = w.heap.size
theorem OneAt.far {N : Nat} {w wx : World} {k : Int} {t : ByteArray} {m : Int} {b : ByteArray} {v : Value} {L : List Value} (h : OneAt N w wx k t m b v L) (R : List (Option Nat)) (hN : N = w.heap.size) : OneFar N w wx R k t m b v L :=
  ⟨h.box, h.res, h.row, Far.of_below h.bel (by omega), h.big, hN⟩
theorem OneFar.grown {N : Nat} {w wx wy : World} {R : List (Option Nat)} {k : Int} {t : ByteArray} {m : Int} {b : ByteArray} {v : Value} {L : List Value} {row : Option Nat} {o : Obj} (h : OneFar N w wx R k t m b v L) (hg : (wx.alloc o).grownBy wy row) (hr : row ∈ R) (hlt : ∀ q, row = some q → q < N ∨ N + 3 ≤ q) : OneFar N w wy R k t m b v L := by
  have hbig := h.big
  have hs := hg.size
  rw [World.size_alloc] at hs
  have hblk : ∀ q, N ≤ q → q ≤ N + 2 → wy.heap[q]? = wx.heap[q]? := fun q h1 h2 => by
    rw [hg.block q (by rw [World.size_alloc]; omega) (fun e => by have := hlt q e.symm; omega), Below.heap_alloc _ _ _ (by omega)]
  exact ⟨(hblk _ (by omega) (by omega)).trans h.box, (hblk _ (by omega) (by omega)).trans h.res, (hblk _ (by omega) (by omega)).trans h.row, (h.far.alloc o).grown hg (fun _ _ => .inl hr), by omega, h.same⟩
theorem OneFar.set {N : Nat} {w wx : World} {R : List (Option Nat)} {k : Int} {t : ByteArray} {m : Int} {b : ByteArray} {v : Value} {L : List Value} {p : Addr} (h : OneFar N w wx R k t m b v L) (hp : p.block < N) (hR : some p.block ∈ R) (u : Value) : OneFar N w (wx.setCell p u) R k t m b v L := by
  have hblk : ∀ q, N ≤ q → (wx.setCell p u).heap[q]? = wx.heap[q]? := fun q h1 => Below.heap_setCell _ _ _ _ (by omega)
  exact ⟨(hblk _ (by omega)).trans h.box, (hblk _ (by omega)).trans h.res, (hblk _ (by omega)).trans h.row, h.far.setCell (.inl hR) u, by have := h.big; simpa [World.setCell] using this, h.same⟩
theorem cell_one_at (w : World) (v : Value) (t : TypeId) (N : Nat) (h : w.heap.size = N) : ∀ j u, [v][j]? = some u → (w.alloc (.cells #[v] t)).cell? ((⟨N, 0, none⟩ : Addr).add j) = some u := by
  subst h; exact cell_one_new w v t
theorem size_set (w : World) (p : Addr) (u : Value) : (w.setCell p u).heap.size = w.heap.size := by simp [World.setCell]
theorem le_alloc {w : World} {b : Nat} (o : Obj) (h : b < w.heap.size) : b + 1 ≤ (w.alloc o).heap.size := by rw [World.size_alloc]; omega
theorem at_far {tv : Value} {g N : Nat} {w : World} {o : Obj} (h : tv.ownBlock = some g ∨ g = (w.alloc o).heap.size) (hN : N + 2 < w.heap.size) : tv.ownBlock = some g ∨ N + 3 ≤ g :=
  h.imp id (fun e => by rw [World.size_alloc] at e; omega)
theorem own_of_block {w w' : World} {base : Nat} {e : TypeId} {size : Nat} {v : Value} {n : Nat} {xs : List Value} (h : w.ownsRow base e size v n xs) (hb : ∀ q, v.ownBlock = some q → w'.heap[q]? = w.heap[q]?) : w'.ownsRow base e size v n xs := by
  obtain ⟨h1, h2 | ⟨g, cap, cur, rfl, a2, a3, a4⟩⟩ := h
  · exact ⟨h1, .inl h2⟩
  · exact ⟨h1, .inr ⟨g, cap, cur, rfl, a2, (hb g rfl).trans a3, a4⟩⟩
theorem LoanAt.same {b : Nat} {tv cv ev nv lv : Value} {nT : Nat} {xs : List Value} {nC : Nat} {cs : List Value} {w w' : World} (h : LoanAt b tv cv ev nv lv nT xs nC cs w) (hb : ∀ q, q = b ∨ tv.ownBlock = some q ∨ cv.ownBlock = some q → w'.heap[q]? = w.heap[q]?) : LoanAt b tv cv ev nv lv nT xs nC cs w' :=
  ⟨(hb b (.inl rfl)).trans h.blk, own_of_block h.tags (fun q hq => hb q (.inr (.inl hq))), own_of_block h.counts (fun q hq => hb q (.inr (.inr hq))), h.apart⟩
theorem set6_other {w : World} {N q : Nat} {s x0 x1 x2 x3 x4 : Value} (h1 : ¬ q = N) (h2 : ¬ q = N + 1) :
    ((((((w.setCell ⟨N, 4, none⟩ s).setCell ⟨N + 1, 0, none⟩ x0).setCell ⟨N + 1, 1, none⟩ x1).setCell ⟨N + 1, 2, none⟩ x2).setCell ⟨N + 1, 3, none⟩ x3).setCell ⟨N + 1, 4, none⟩ x4).heap[q]? = w.heap[q]? := by
  rw [Below.heap_setCell _ _ _ _ h2, Below.heap_setCell _ _ _ _ h2, Below.heap_setCell _ _ _ _ h2, Below.heap_setCell _ _ _ _ h2, Below.heap_setCell _ _ _ _ h2, Below.heap_setCell _ _ _ _ h1]
theorem copy_pos {w w1 : World} {a : Option Addr} {ts : List ByteArray} {N : Nat} (ht : TagsAt w a ts) (hb : Below w.heap.size w w1) : 0 < (ts.map Value.string).length → (some (⟨N + 1 + 1, 0, none⟩ : Addr)) = some ⟨N + 2, 0, none⟩ ∧ ∃ ad, a = some ad ∧ ∀ j v, (ts.map Value.string)[j]? = some v → w1.cell? (ad.add j) = some v := by
  intro h0
  refine ⟨rfl, ?_⟩
  obtain ⟨q, off, rfl, hc⟩ := ht (by simpa using h0)
  refine ⟨_, rfl, fun j v hv => ?_⟩
  simp only [List.getElem?_map, Option.map_eq_some_iff] at hv
  obtain ⟨x, hx, rfl⟩ := hv
  have hj := (List.getElem?_eq_some_iff.1 hx).1
  have hcj := hc j hj
  rw [hx] at hcj
  have hlt := World.block_lt_of_cell? w _ hcj
  rw [show (⟨q, off, none⟩ : Addr).add j = ⟨q, off + j, none⟩ by simp [Addr.add], hb.cell (p := ⟨q, off + j, none⟩) hlt]; exact hcj
set_option maxRecDepth 100000 in
set_option maxHeartbeats 1000000 in
theorem one_any (b : Nat) (tv cv ev nv lv : Value) (nT : Nat) (xs cs : List Value) (k : Int) (t : ByteArray) (m : Int) (bd : ByteArray) (a : Option Addr) (cap : Nat) (ts : List ByteArray) (w : World)
    (HL : Hid (LoanAt b tv cv ev nv lv nT xs nT cs w)) (ht : Hid (TagsAt w a ts)) (hl : ts.length * 16 ≤ 140737488351232) (hnT : (nT + 1) * 24 ≤ 140737488355328) :
    Calls Try.prog 10 #[.pointer (some ⟨b, 0, none⟩), .agg #[.int .i64 k, .string t, .int .i64 m, .string bd, .slice a ts.length cap]] w fun e w' =>
      ∃ M tv' cv', e = .returned (.agg #[.int .i64 k, .string t, .int .i64 m, .string bd, .slice (some ⟨M, 0, none⟩) ts.length (ts.length + 8)]) ∧ w.heap.size ≤ M ∧ w'.heap[M]? = some (.cells (lent ts 8).toArray 9 (0, 0)) ∧
        LoanAt b tv' cv' ev nv lv (nT + 1) (xs ++ [.slice (some ⟨M, 0, none⟩) (ts.length + 8) (ts.length + 8)]) (nT + 1) (cs ++ [.int .i64 ts.length]) w' ∧
        (∀ q, tv'.ownBlock = some q → q ≠ M ∧ (tv.ownBlock = some q ∨ w.heap.size ≤ q)) ∧ (∀ q, cv'.ownBlock = some q → q ≠ M ∧ (cv.ownBlock = some q ∨ w.heap.size ≤ q)) ∧
        Far w w' [some b, tv.ownBlock, cv.ownBlock] := by
  obtain ⟨i0, hi, hz0, hz1, hz2⟩ := info_parts infoText
  have hb2 : i0.bytes * (ts.length + 8) ≤ 281474976710656 := by rw [hz2]; omega
  have hb3 : ts.length + 8 ≤ maxLen := by unfold maxLen; omega
  go_enter Try.func10, Try.ntmps10
  have hlenm : (ts.map Value.string).length = Nat.min ts.length (ts.length + 8) := by simp
  have hfit : 0 + (ts.map Value.string).length ≤ (List.replicate (ts.length + 8) (Value.string ⟨#[]⟩)).length := by simp
  have hone : ∀ v ∈ ts.map Value.string, v.oneCell' = true := by intro v hv; simp at hv; obtain ⟨x, _, rfl⟩ := hv; rfl
  go_wp2_with (first
    | (at_make; go_must (refine wpList_make_full _ rfl _ _ 22 rfl (w.heap.size + 2) 9 i0 (.string ⟨#[]⟩) 1 Try.underlying22 hi hz0 hz1 .i64 .i64 _ _ (ts.length + 8) rfl rfl (by simp) (by simp) hb2 hb3 (by simp) ?_); intro w1 hown1 hgr1
       have HO : Hid (OneAt w.heap.size w w1 k t m bd (.slice a ts.length cap) (List.replicate (ts.length + 8) (.string ⟨#[]⟩))) := OneAt.made hown1 hgr1
       have d4 := (res_cells HO.out.box).2.2.2.2.1
       clear hown1 hgr1)
    | (have hO9 := HO; clear hO9; refine (wpList_copy_splice rfl _ _ 22 22 rfl 9 Try.underlying22 sizeText _ _ _ _ _ _ rfl rfl (w.heap.size + 2) 0 (List.replicate (ts.length + 8) (.string ⟨#[]⟩)) 9 HO.out.row (ts.map Value.string) hlenm (copy_pos ht.out HO.out.bel) hfit hone (w.heap.size + 2) w1 (Below.refl _ _) (Nat.le_refl _) ?_)
       intro w2 HG2 hB2
       have HO2 : Hid (OneAt w.heap.size w w2 k t m bd (.slice a ts.length cap) (lent ts 0)) := HO.out.below hB2 (by rw [HG2.out, made_splice])
       clear HO HG2 hB2 d4))
  clear hlenm hfit hone hb2 hb3
  go_loopw [7] (fun i wx => ∃ p : Nat, ts.length ≤ p ∧ p ≤ ts.length + 8 ∧ i = .int .i64 p ∧ Hid (OneAt w.heap.size w wx k t m bd (.slice a ts.length cap) (lent ts (p - ts.length)))) (fun i _ => ts.length + 8 - (intOf i).toNat)
  case atStart => exact ⟨ts.length, Nat.le_refl _, by omega, rfl, by rw [Nat.sub_self]; exact HO2⟩
  case round =>
    obtain ⟨p, hp1, hp2, rfl, HR⟩ := hrel
    by_cases hlt : p < ts.length + 8
    · obtain ⟨x, hcell, hfr⟩ := row_cell HR.out.row (i := p) (by rw [lent_len ts (by omega)]; omega)
      have HN : Hid (OneAt w.heap.size w (wr.setCell ⟨w.heap.size + 1 + 1, p, none⟩ (.string badT)) k t m bd (.slice a ts.length cap) (lent ts (p + 1 - ts.length))) := by
        refine HR.out.below ((Below.refl _ _).setCell (p := ⟨w.heap.size + 1 + 1, p, none⟩) (Nat.le_refl _) _) ?_
        have e := lent_set ts (j := p - ts.length) (by omega)
        rw [show ts.length + (p - ts.length) = p by omega, show p - ts.length + 1 = p + 1 - ts.length by omega] at e
        rw [← e]
        exact set_row HR.out.row
      have hpi : (p : Int) < (ts.length : Int) + 8 := by omega
      go_wp2_with (first | (go_at_call 29; refine (badTag_zero _).mono ?_; rintro e w' ⟨rfl, rfl⟩))
      go_roundw
      case rel => exact ⟨p + 1, by omega, by omega, by go_num, HN⟩
      case measure => simp [intOf]; omega
    · have HF : Hid (OneAt w.heap.size w wr k t m bd (.slice a ts.length cap) (lent ts 8)) := by
        have := HR.out
        rwa [show p - ts.length = 8 by omega] at this
      clear HR
      obtain ⟨i1, hi1, hy0, hy1, hy2⟩ := info_parts infoTexts
      obtain ⟨i2, hi2, hx0, hx1, hx2⟩ := info_parts infoInt
      have HLr : Hid (LoanAt b tv cv ev nv lv nT xs nT cs wr) := HL.out.kept HF.out.bel (Nat.le_refl _)
      have HG : Hid (OneFar w.heap.size w wr [some b, tv.ownBlock, cv.ownBlock] k t m bd (.slice a ts.length cap) (lent ts 8)) := HF.out.far _ rfl
      have hblt := HL.out.lt
      have hbr := HLr.out.lt
      obtain ⟨db0, db1, db2, db3, db4, dbf⟩ := res_cells HLr.out.blk
      have e1 : nT + 1 ≤ maxLen := by unfold maxLen; omega
      have e2 : (nT + 1) * 8 ≤ 140737488355328 := by omega
      have hmt : tv.ownBlock ∈ [some b, tv.ownBlock, cv.ownBlock] := by simp
      have hmc : cv.ownBlock ∈ [some b, tv.ownBlock, cv.ownBlock] := by simp
      have hmb : some b ∈ [some b, tv.ownBlock, cv.ownBlock] := by simp
      have HTL : Hid (∀ q, tv.ownBlock = some q → q < w.heap.size) := fun q hq => (HL.out.tags.lt q hq).2
      have HCL : Hid (∀ q, cv.ownBlock = some q → q < w.heap.size) := fun q hq => (HL.out.counts.lt q hq).2
      have HM : Hid (tv.ownBlock ∈ [some b, tv.ownBlock, cv.ownBlock] ∧ cv.ownBlock ∈ [some b, tv.ownBlock, cv.ownBlock] ∧ some b ∈ [some b, tv.ownBlock, cv.ownBlock]) := ⟨hmt, hmc, hmb⟩
      have e3 : ∀ o, b + 1 ≤ (wr.alloc o).heap.size := fun o => by rw [World.size_alloc]; omega
      have hpe : (ts.length : Int) + 8 ≤ (p : Int) := by omega
      clear HF hmt hmc hmb hlt hp2 hp1
      have n1 : ¬ b = w.heap.size := by omega
      have n2 : ¬ w.heap.size = b := by omega
      have n3 : ¬ b = w.heap.size + 1 := by omega
      have n4 : ¬ w.heap.size + 1 = b := by omega
      go_wp2_with (first
        | (at_builtin; refine wpList_append_lies _ rfl _ _ 29 rfl (b + 1) 22 i1 (.slice none 0 0) 1 24 Try.underlying29 hi1 hy0 hy1 hy2 rfl Nat.one_pos tv nT xs rfl (HLr.out.tags.alloc _) ⟨wr.heap.size, 0, none⟩ 1 1 [_] rfl rfl (cell_one_new _ _ _) (one_slice _ _ _) Nat.one_pos e1 hnT (e3 _) _ rfl ?_
           intro g1 cap1 wa hown1 hgr1 hat1 hlt1
           obtain ⟨ba, HL1⟩ := HLr.out.tagged hgr1 hown1 hat1
           have HG1 := (HG.out.grown hgr1 HM.out.1 (fun q hq => .inl (HTL.out q hq))).set (p := ⟨b, 0, none⟩) hblt HM.out.2.2 (.slice (some ⟨g1, 0, none⟩) (nT + 1) cap1)
           have HLa := hide0 HL1
           have HGa := hide0 HG1
           have HAT := hide0 (at_far hat1 (Nat.lt_of_lt_of_le (Nat.lt_succ_self _) HG.out.big))
           have e4 := HL1.lt
           obtain ⟨da0, da1, da2, da3, da4, daf⟩ := res_cells ba
           clear hown1 hgr1 hat1 HL1 HG1 ba HLr HG db0 db1 db2 db3 db4 dbf)
        | (at_builtin; have hz := HLa; clear hz; go_must (refine wpList_append_lies _ rfl _ _ 30 rfl (b + 1) 3 i2 (.int .i64 0) 1 8 Try.underlying30 hi2 hx0 hx1 hx2 rfl Nat.one_pos cv nT cs rfl (HLa.out.counts.alloc _) _ 1 1 [_] rfl rfl (cell_one_at _ _ _ _ (size_set _ _ _)) (one_int _ _) Nat.one_pos e1 e2 (le_alloc _ e4) _ rfl ?_)
           intro g2 cap2 wc hown2 hgr2 hat2 hlt2
           obtain ⟨bc, HL2⟩ := HLa.out.counted hgr2 hown2 hat2
           have HG2 := HGa.out.grown hgr2 HM.out.2.1 (fun q hq => .inl (HCL.out q hq))
           have HG3 := hide0 (HG2.set (p := ⟨b, 1, none⟩) hblt HM.out.2.2 (.slice (some ⟨g2, 0, none⟩) (nT + 1) cap2))
           have HLb := hide0 HL2
           have HATc := hide0 (at_far hat2 (Nat.lt_of_lt_of_le (Nat.lt_succ_self _) HGa.out.big))
           obtain ⟨dc0, dc1, dc2, dc3, dc4, dcf⟩ := res_cells bc
           obtain ⟨ee0, ee1, ee2, ee3, ee4, eef⟩ := res_cells HG2.box
           obtain ⟨er0, er1, er2, er3, er4, erf⟩ := res_cells HG2.res
           clear hown2 hgr2 hat2 HL2 HG2 bc HLa HGa da0 da1 da2 da3 da4 daf))
      refine bodyPost_ret (v := .agg #[.int .i64 k, .string t, .int .i64 m, .string bd, .slice (some ⟨w.heap.size + 1 + 1, 0, none⟩) ts.length (ts.length + 8)]) (by simp [results, Try.results10, go_sem, er0, er1, er2, er3, er4]) rfl ?_
      have hall : ∀ q, ¬ q = w.heap.size → ¬ q = w.heap.size + 1 → _ := fun q h1 h2 => set6_other (w := wc.setCell ⟨b, 1, none⟩ (.slice (some ⟨g2, 0, none⟩) (nT + 1) cap2)) (N := w.heap.size) (q := q) (s := .slice (some ⟨w.heap.size + 1 + 1, 0, none⟩) ts.length (ts.length + 8)) (x0 := .int .i64 k) (x1 := .string t) (x2 := .int .i64 m) (x3 := .string bd) (x4 := .slice (some ⟨w.heap.size + 1 + 1, 0, none⟩) ts.length (ts.length + 8)) h1 h2
      have hg1 : ∀ q, some g1 = some q → q ≠ w.heap.size + 1 + 1 ∧ (tv.ownBlock = some q ∨ w.heap.size ≤ q) := by
        intro q hq
        simp only [Option.some.injEq] at hq
        subst hq
        rcases HAT.out with h | h
        · exact ⟨by have := HTL.out g1 h; omega, .inl h⟩
        · exact ⟨by omega, .inr (by omega)⟩
      have hg2 : ∀ q, some g2 = some q → q ≠ w.heap.size + 1 + 1 ∧ (cv.ownBlock = some q ∨ w.heap.size ≤ q) := by
        intro q hq
        simp only [Option.some.injEq] at hq
        subst hq
        rcases HATc.out with h | h
        · exact ⟨by have := HCL.out g2 h; omega, .inl h⟩
        · exact ⟨by omega, .inr (by omega)⟩
      refine ⟨_, _, _, rfl, by omega, (hall _ (by omega) (by omega)).trans HG3.out.row, HLb.out.same (fun q hq => hall q ?_ ?_), hg1, hg2, ?_⟩
      · rcases hq with rfl | hq | hq
        · omega
        · simp only [Value.ownBlock, Option.some.injEq] at hq
          subst hq
          rcases HAT.out with h | h
          · have := HTL.out g1 h; omega
          · omega
        · simp only [Value.ownBlock, Option.some.injEq] at hq
          subst hq
          rcases HATc.out with h | h
          · have := HCL.out g2 h; omega
          · omega
      · rcases hq with rfl | hq | hq
        · omega
        · simp only [Value.ownBlock, Option.some.injEq] at hq
          subst hq
          rcases HAT.out with h | h
          · have := HTL.out g1 h; omega
          · omega
        · simp only [Value.ownBlock, Option.some.injEq] at hq
          subst hq
          rcases HATc.out with h | h
          · have := HCL.out g2 h; omega
          · omega
      · exact (((((HG3.out.far.setCell (.inr (Nat.le_refl _)) _).setCell (.inr (Nat.le_succ _)) _).setCell (.inr (Nat.le_succ _)) _).setCell (.inr (Nat.le_succ _)) _).setCell (.inr (Nat.le_succ _)) _).setCell (.inr (Nat.le_succ _)) _
end Go.Proofs.Ytdjllnhahhjgmaa
