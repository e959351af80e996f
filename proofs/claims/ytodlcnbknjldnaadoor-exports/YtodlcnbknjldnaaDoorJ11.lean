/- The lists that a loan of events holds: plain facts. -/
import Derived.Test.YtodlcnbknjldnaaDoorJ10
namespace Go.Proofs.YtodlcnbknjldnaaDoor
open Go.RowKit Chron
structure RowIt (cur : Array Value) (o : Nat) (i : Item) : Prop where
  c0 : cur[o]? = some (.int .i64 i.ev.kind)
  c1 : cur[o + 1]? = some (.string i.ev.task)
  c2 : cur[o + 2]? = some (.int .i64 i.ev.time)
  c3 : cur[o + 3]? = some (.string i.ev.body)
  c4 : cur[o + 4]? = some (.slice i.at' i.ev.tags.length i.cap)
theorem RowIt.cells {w : World} {G o : Nat} {cur : Array Value} {t : TypeId} {fr : Nat × Nat} {i : Item} (h : RowIt cur o i) (hg : w.heap[G]? = some (.cells cur t fr)) : CellsAt w G o i :=
  ⟨by simpa [World.cell?, hg] using h.c0, by simpa [World.cell?, hg] using h.c1, by simpa [World.cell?, hg] using h.c2, by simpa [World.cell?, hg] using h.c3, by simpa [World.cell?, hg] using h.c4⟩
def set5 (w : World) (G o : Nat) (x0 x1 x2 x3 x4 : Value) : World := ((((w.setCell ⟨G, o, none⟩ x0).setCell ⟨G, o + 1, none⟩ x1).setCell ⟨G, o + 2, none⟩ x2).setCell ⟨G, o + 3, none⟩ x3).setCell ⟨G, o + 4, none⟩ x4
theorem set5_other {w : World} {G o q : Nat} {x0 x1 x2 x3 x4 : Value} (h : q ≠ G) : (set5 w G o x0 x1 x2 x3 x4).heap[q]? = w.heap[q]? := by
  unfold set5
  rw [Below.heap_setCell _ _ _ _ h, Below.heap_setCell _ _ _ _ h, Below.heap_setCell _ _ _ _ h, Below.heap_setCell _ _ _ _ h, Below.heap_setCell _ _ _ _ h]
theorem set1_heap {w : World} {G o : Nat} {cur : Array Value} {t : TypeId} {fr : Nat × Nat} {u : Value} (h : w.heap[G]? = some (.cells cur t fr)) : (w.setCell ⟨G, o, none⟩ u).heap[G]? = some (.cells (cur.setIfInBounds o u) t fr) := by
  rw [setCell_eq_setRow w G o cur t fr u h, setRow_heap w G _ _ t fr h]
theorem set5_heap {w : World} {G o : Nat} {cur : Array Value} {t : TypeId} {fr : Nat × Nat} {x0 x1 x2 x3 x4 : Value} (h : w.heap[G]? = some (.cells cur t fr)) :
    (set5 w G o x0 x1 x2 x3 x4).heap[G]? = some (.cells (((((cur.setIfInBounds o x0).setIfInBounds (o + 1) x1).setIfInBounds (o + 2) x2).setIfInBounds (o + 3) x3).setIfInBounds (o + 4) x4) t fr) :=
  set1_heap (set1_heap (set1_heap (set1_heap (set1_heap h))))
theorem set5_size {w : World} {G o : Nat} {x0 x1 x2 x3 x4 : Value} : (set5 w G o x0 x1 x2 x3 x4).heap.size = w.heap.size := by simp [set5, World.setCell]
theorem set5_below {w w' : World} {B G o : Nat} {x0 x1 x2 x3 x4 : Value} (h : Below B w w') (hG : B ≤ G) : Below B w (set5 w' G o x0 x1 x2 x3 x4) :=
  ((((h.setCell (p := ⟨G, o, none⟩) hG _).setCell (p := ⟨G, o + 1, none⟩) hG _).setCell (p := ⟨G, o + 2, none⟩) hG _).setCell (p := ⟨G, o + 3, none⟩) hG _).setCell (p := ⟨G, o + 4, none⟩) hG _
theorem set5_new {cur : Array Value} {o : Nat} (h : o + 5 ≤ cur.size) (i : Item) : RowIt (((((cur.setIfInBounds o (.int .i64 i.ev.kind)).setIfInBounds (o + 1) (.string i.ev.task)).setIfInBounds (o + 2) (.int .i64 i.ev.time)).setIfInBounds (o + 3) (.string i.ev.body)).setIfInBounds (o + 4) (.slice i.at' i.ev.tags.length i.cap)) o i := by
  constructor <;> (simp [Array.getElem?_setIfInBounds]; try omega)
theorem set5_old {cur : Array Value} {o p : Nat} {i : Item} {x0 x1 x2 x3 x4 : Value} (h : RowIt cur p i) (hp : p + 5 ≤ o ∨ o + 5 ≤ p) : RowIt (((((cur.setIfInBounds o x0).setIfInBounds (o + 1) x1).setIfInBounds (o + 2) x2).setIfInBounds (o + 3) x3).setIfInBounds (o + 4) x4) p i := by
  have key : ∀ j, j < 5 → (((((cur.setIfInBounds o x0).setIfInBounds (o + 1) x1).setIfInBounds (o + 2) x2).setIfInBounds (o + 3) x3).setIfInBounds (o + 4) x4)[p + j]? = cur[p + j]? := by
    intro j hj
    rw [Array.getElem?_setIfInBounds_ne (by omega), Array.getElem?_setIfInBounds_ne (by omega), Array.getElem?_setIfInBounds_ne (by omega), Array.getElem?_setIfInBounds_ne (by omega), Array.getElem?_setIfInBounds_ne (by omega)]
  exact ⟨(key 0 (by omega)).trans h.c0, (key 1 (by omega)).trans h.c1, (key 2 (by omega)).trans h.c2, (key 3 (by omega)).trans h.c3, (key 4 (by omega)).trans h.c4⟩
/- a row of events, its first ones known -/
def EvRow (w : World) (G m : Nat) (its : List Item) : Prop := ∃ cur, w.heap[G]? = some (.cells cur 39 (0, 0)) ∧ cur.size = m * 5 ∧ ∀ k i, its[k]? = some i → RowIt cur (k * 5) i
theorem EvRow.same {w w' : World} {G m : Nat} {its : List Item} (h : EvRow w G m its) (hg : w'.heap[G]? = w.heap[G]?) : EvRow w' G m its := by
  obtain ⟨cur, h1, h2, h3⟩ := h
  exact ⟨cur, hg.trans h1, h2, h3⟩
theorem EvRow.store {w : World} {G m : Nat} {its : List Item} (h : EvRow w G m its) {p : Nat} (hp : p < m) (hl : p ≤ its.length) (i : Item) :
    EvRow (set5 w G (p * 5) (.int .i64 i.ev.kind) (.string i.ev.task) (.int .i64 i.ev.time) (.string i.ev.body) (.slice i.at' i.ev.tags.length i.cap)) G m (its.take p ++ [i]) := by
  obtain ⟨cur, h1, h2, h3⟩ := h
  have hp5 : p * 5 + 5 ≤ cur.size := by
    have : (p + 1) * 5 ≤ m * 5 := Nat.mul_le_mul_right _ hp
    omega
  refine ⟨_, set5_heap h1, by simp [h2], fun k x hk => ?_⟩
  have hlen : (its.take p).length = p := by rw [List.length_take]; omega
  rcases Nat.lt_trichotomy k p with hkp | rfl | hkp
  · rw [List.getElem?_append_left (by omega), List.getElem?_take_of_lt hkp] at hk
    exact set5_old (h3 k x hk) (.inl (by have : (k + 1) * 5 ≤ p * 5 := Nat.mul_le_mul_right _ hkp; omega))
  · rw [List.getElem?_append_right (by omega), hlen, Nat.sub_self] at hk
    simp only [List.getElem?_cons_zero, Option.some.injEq] at hk
    subst hk
    exact set5_new hp5 i
  · rw [List.getElem?_eq_none (by simp; omega)] at hk
    cases hk
theorem EvRow.there {w : World} {G m : Nat} {its : List Item} (h : EvRow w G m its) {p : Nat} (hp : p < m * 5) : ∃ x, w.cell? ⟨G, p, none⟩ = some x ∧ w.frozen? ⟨G, p, none⟩ = false := by
  obtain ⟨cur, h1, h2, _⟩ := h
  exact ⟨cur[p], by simp [World.cell?, h1, h2, hp], by simp [World.frozen?, h1]⟩
theorem EvRow.at {w : World} {G m : Nat} {its : List Item} (h : EvRow w G m its) {k : Nat} {i : Item} (hk : its[k]? = some i) : CellsAt w G (k * 5) i := by
  obtain ⟨cur, h1, _, h3⟩ := h
  exact (h3 k i hk).cells h1
/- the loan, while its lists are made -/
structure AllAt (b G n : Nat) (a : Option Addr) (cap : Nat) (l : List Item) (w0 wx : World) (tv cv : Value) (ls : List (Nat × Nat)) (its : List Item) : Prop where
  loan : LoanAt b tv cv (.slice (some ⟨G, 0, none⟩) (n + 8) (n + 8)) (.int .i64 n) (.slice a n cap) ls.length (lentV ls) ls.length (lentN ls) wx
  bel : Below b w0 wx
  row : EvRow wx G (n + 8) its
  lists : ∀ (k M c : Nat), ls[k]? = some (M, c) → ∃ e, l[k]? = some e ∧ c = e.ev.tags.length ∧ its[k]? = some ⟨e.ev, some ⟨M, 0, none⟩, c + 8⟩ ∧ wx.heap[M]? = some (.cells (lent e.ev.tags 8).toArray 9 (0, 0)) ∧ M ≠ G ∧ b < M ∧ tv.ownBlock ≠ some M ∧ cv.ownBlock ≠ some M
  bads : ∀ k, n ≤ k → k < its.length → its[k]? = some badI
  gb : b < G
  gt : tv.ownBlock ≠ some G
  gc : cv.ownBlock ≠ some G
theorem LoanAt.not_new {b : Nat} {tv cv ev nv lv : Value} {nT : Nat} {xs : List Value} {nC : Nat} {cs : List Value} {w : World} (h : LoanAt b tv cv ev nv lv nT xs nC cs w) {q : Nat} (hq : w.heap.size ≤ q) : tv.ownBlock ≠ some q ∧ cv.ownBlock ≠ some q := by
  constructor <;> intro e
  · have := (h.tags.lt q e).2; omega
  · have := (h.counts.lt q e).2; omega
theorem AllAt.store {b G n : Nat} {a : Option Addr} {cap : Nat} {l : List Item} {w0 wx : World} {tv cv : Value} {ls : List (Nat × Nat)} {its : List Item} (h : AllAt b G n a cap l w0 wx tv cv ls its) {p : Nat} (hp : p < n + 8) (hl : p ≤ its.length) (hls : ls.length ≤ p) (i : Item) (hb : n ≤ p → i = badI) :
    AllAt b G n a cap l w0 (set5 wx G (p * 5) (.int .i64 i.ev.kind) (.string i.ev.task) (.int .i64 i.ev.time) (.string i.ev.body) (.slice i.at' i.ev.tags.length i.cap)) tv cv ls (its.take p ++ [i]) := by
  have hlen : (its.take p).length = p := by rw [List.length_take]; omega
  have hgb := h.gb
  refine ⟨h.loan.same fun q hq => set5_other ?_, set5_below h.bel (by omega), h.row.store hp hl i, fun k M c hk => ?_, fun k h1 h2 => ?_, h.gb, h.gt, h.gc⟩
  · rintro rfl
    rcases hq with e | e | e
    · omega
    · exact h.gt e
    · exact h.gc e
  · obtain ⟨e, h1, h2, h3, h4, h5, h6⟩ := h.lists k M c hk
    have hkl := (List.getElem?_eq_some_iff.1 hk).1
    exact ⟨e, h1, h2, by rw [List.getElem?_append_left (by omega), List.getElem?_take_of_lt (by omega)]; exact h3, (set5_other h5).trans h4, h5, h6⟩
  · rw [List.length_append, hlen, List.length_singleton] at h2
    rcases Nat.lt_or_ge k p with hkp | hkp
    · rw [List.getElem?_append_left (by omega), List.getElem?_take_of_lt hkp]
      exact h.bads k h1 (by omega)
    · have : k = p := by omega
      subst this
      rw [List.getElem?_append_right (by omega), hlen, Nat.sub_self, hb h1]; rfl
theorem AllAt.below {b G n : Nat} {a : Option Addr} {cap : Nat} {l : List Item} {w0 wx wy : World} {tv cv : Value} {ls : List (Nat × Nat)} {its : List Item} (h : AllAt b G n a cap l w0 wx tv cv ls its) (hb : Below wx.heap.size wx wy) : AllAt b G n a cap l w0 wy tv cv ls its := by
  have hG : G < wx.heap.size := by obtain ⟨cur, h1, _⟩ := h.row; exact (Array.getElem?_eq_some_iff.1 h1).1
  have hblt := h.loan.lt
  refine ⟨h.loan.kept hb (Nat.le_refl _), h.bel.trans (hb.mono (by omega)), h.row.same (hb.block G hG), fun k M c hk => ?_, h.bads, h.gb, h.gt, h.gc⟩
  obtain ⟨e, h1, h2, h3, h4, h5⟩ := h.lists k M c hk
  exact ⟨e, h1, h2, h3, (hb.block M (Array.getElem?_eq_some_iff.1 h4).1).trans h4, h5⟩
theorem AllAt.cut {b G n : Nat} {a : Option Addr} {cap : Nat} {l : List Item} {w0 wx : World} {tv cv : Value} {ls : List (Nat × Nat)} {its : List Item} (h : AllAt b G n a cap l w0 wx tv cv ls its) {p : Nat} (hp : ls.length ≤ p) (hl : p ≤ its.length) : AllAt b G n a cap l w0 wx tv cv ls (its.take p) := by
  refine ⟨h.loan, h.bel, ?_, fun k M c hk => ?_, fun k h1 h2 => ?_, h.gb, h.gt, h.gc⟩
  · obtain ⟨cur, h1, h2, h3⟩ := h.row
    refine ⟨cur, h1, h2, fun k i hk => h3 k i ?_⟩
    have := (List.getElem?_eq_some_iff.1 hk).1
    rwa [List.getElem?_take_of_lt (by rw [List.length_take] at this; omega)] at hk
  · obtain ⟨e, h1, h2, h3, h4⟩ := h.lists k M c hk
    have hkl := (List.getElem?_eq_some_iff.1 hk).1
    exact ⟨e, h1, h2, by rw [List.getElem?_take_of_lt (by omega)]; exact h3, h4⟩
  · rw [List.length_take] at h2
    rw [List.getElem?_take_of_lt (by omega)]
    exact h.bads k h1 (by omega)
theorem AllAt.one {b G n : Nat} {a : Option Addr} {cap : Nat} {l : List Item} {w0 wx wy : World} {tv cv tv' cv' : Value} {ls : List (Nat × Nat)} {its : List Item} {M : Nat} {e : Item} (h : AllAt b G n a cap l w0 wx tv cv ls its)
    (he : l[ls.length]? = some e) (hM : wx.heap.size ≤ M) (hrow : wy.heap[M]? = some (.cells (lent e.ev.tags 8).toArray 9 (0, 0)))
    (hloan : LoanAt b tv' cv' (.slice (some ⟨G, 0, none⟩) (n + 8) (n + 8)) (.int .i64 n) (.slice a n cap) (ls.length + 1) (lentV ls ++ [.slice (some ⟨M, 0, none⟩) (e.ev.tags.length + 8) (e.ev.tags.length + 8)]) (ls.length + 1) (lentN ls ++ [.int .i64 e.ev.tags.length]) wy)
    (htv : ∀ q, tv'.ownBlock = some q → q ≠ M ∧ (tv.ownBlock = some q ∨ wx.heap.size ≤ q)) (hcv : ∀ q, cv'.ownBlock = some q → q ≠ M ∧ (cv.ownBlock = some q ∨ wx.heap.size ≤ q)) (hfar : Far wx wy [some b, tv.ownBlock, cv.ownBlock])
    (hlen : its.length = ls.length) (hn : ls.length < n) :
    EvRow wy G (n + 8) its ∧ AllAt b G n a cap l w0 (set5 wy G (ls.length * 5) (.int .i64 e.ev.kind) (.string e.ev.task) (.int .i64 e.ev.time) (.string e.ev.body) (.slice (some ⟨M, 0, none⟩) e.ev.tags.length (e.ev.tags.length + 8))) tv' cv' (ls ++ [(M, e.ev.tags.length)]) (its ++ [⟨e.ev, some ⟨M, 0, none⟩, e.ev.tags.length + 8⟩]) := by
  have hgb := h.gb
  have hG : G < wx.heap.size := by obtain ⟨cur, h1, _⟩ := h.row; exact (Array.getElem?_eq_some_iff.1 h1).1
  have hblt := h.loan.lt
  have hblk : ∀ q, q < wx.heap.size → q ≠ b → tv.ownBlock ≠ some q → cv.ownBlock ≠ some q → wy.heap[q]? = wx.heap[q]? := fun q hq h1 h2 h3 => hfar.block q hq (fun r hr e => by
    subst e
    simp only [List.mem_cons, List.mem_nil_iff, or_false, Option.some.injEq] at hr
    rcases hr with hr | hr | hr
    · exact h1 hr
    · exact h2 hr.symm
    · exact h3 hr.symm)
  have hnew : ∀ (q : Nat), q < wx.heap.size → tv.ownBlock ≠ some q → cv.ownBlock ≠ some q → tv'.ownBlock ≠ some q ∧ cv'.ownBlock ≠ some q := fun q hq h1 h2 => ⟨fun e => by
      rcases (htv q e).2 with h | h
      · exact h1 h
      · omega, fun e => by
      rcases (hcv q e).2 with h | h
      · exact h2 h
      · omega⟩
  have hr := h.row.same (hblk G hG (by omega) h.gt h.gc)
  have hst := hr.store (p := ls.length) (by omega) (by omega) ⟨e.ev, some ⟨M, 0, none⟩, e.ev.tags.length + 8⟩
  rw [← hlen, List.take_length, hlen] at hst
  refine ⟨hr, ?_, set5_below (h.bel.trans (hfar.below (by omega) (fun q hq => ?_))) (by omega), hst, fun k M' c hk => ?_, fun k h1 h2 => ?_, h.gb, (hnew G hG h.gt h.gc).1, (hnew G hG h.gt h.gc).2⟩
  · have e1 : (ls ++ [(M, e.ev.tags.length)]).length = ls.length + 1 := by simp
    have e2 : lentV (ls ++ [(M, e.ev.tags.length)]) = lentV ls ++ [.slice (some ⟨M, 0, none⟩) (e.ev.tags.length + 8) (e.ev.tags.length + 8)] := by simp [lentV]
    have e3 : lentN (ls ++ [(M, e.ev.tags.length)]) = lentN ls ++ [.int .i64 e.ev.tags.length] := by simp [lentN]
    rw [e1, e2, e3]
    refine hloan.same fun q hq => set5_other ?_
    rintro rfl
    rcases hq with e | e | e
    · omega
    · exact (hnew _ hG h.gt h.gc).1 e
    · exact (hnew _ hG h.gt h.gc).2 e
  · simp only [List.mem_cons, List.mem_nil_iff, or_false, Option.some.injEq] at hq
    rcases hq with hq | hq | hq
    · omega
    · have := (h.loan.tags.lt q hq.symm).1; omega
    · have := (h.loan.counts.lt q hq.symm).1; omega
  · rcases Nat.lt_or_ge k ls.length with hkl | hkl
    · rw [List.getElem?_append_left hkl] at hk
      obtain ⟨x, h1, h2, h3, h4, h5, h6, h7, h8⟩ := h.lists k M' c hk
      have hM' := (Array.getElem?_eq_some_iff.1 h4).1
      exact ⟨x, h1, h2, by rw [List.getElem?_append_left (by omega)]; exact h3, (set5_other h5).trans ((hblk M' hM' (by omega) h7 h8).trans h4), h5, h6, (hnew M' hM' h7 h8).1, (hnew M' hM' h7 h8).2⟩
    · have hk0 : k = ls.length := by
        have := (List.getElem?_eq_some_iff.1 hk).1
        simp at this; omega
      subst hk0
      simp only [List.getElem?_append_right (Nat.le_refl _), Nat.sub_self, List.getElem?_cons_zero, Option.some.injEq, Prod.mk.injEq] at hk
      obtain ⟨rfl, rfl⟩ := hk
      refine ⟨e, he, rfl, ?_, (set5_other (by omega)).trans hrow, by omega, by omega, fun e => (htv _ e).1 rfl, fun e => (hcv _ e).1 rfl⟩
      rw [← hlen, List.getElem?_append_right (Nat.le_refl _), Nat.sub_self]; rfl
  · rw [List.length_append, List.length_singleton] at h2
    omega
end Go.Proofs.YtodlcnbknjldnaaDoor
