/- Walks and plain facts, in the order in which they lean on one another. -/
import Derived.Test.YtdjllnhahhjgmaaGreatW16
import Derived.Sort.CutIn
namespace Go.Proofs.YtdjllnhahhjgmaaGreat
open Go.RowKit Go.Shelf Chron
theorem MadeO.same {N : Nat} {W W' : World} {lv : Value} {its : List Item} (h : MadeO N W lv its) (hk : ∀ q, lv.ownBlock = some q ∨ q ∈ tagBs its → W'.heap[q]? = W.heap[q]?) : MadeO N W' lv its :=
  ⟨own_of_block h.row (fun q hq => hk q (.inl hq)), fun it hi => own_of_block (h.tags it hi) (fun q hq => hk q (.inr (tagBs_mem.2 ⟨it, hi, hq⟩))), h.apart, h.dist⟩
/- nothing is changed but what lies behind B and is no pair's -/
structure FarOk (B : Nat) (ps : List PS) (W W' : World) : Prop where
  os : W'.os = W.os
  tape : W'.tape = W.tape
  output : W'.output = W.output
  size : W.heap.size ≤ W'.heap.size
  low : ∀ q, q < W.heap.size → q < B → W'.heap[q]? = W.heap[q]?
  foot : ∀ (j : Nat) (x : PS) (q : Nat), ps[j]? = some x → x.r.foot q → W'.heap[q]? = W.heap[q]?
theorem WorldOk.far {crash : Bool} {most : Int} {w0 W W' : World} {b B : Nat} {pv tv ev : Value} {xs ys : List Value} {ps : List PS} (h : WorldOk crash most w0 b W pv tv ev xs ys ps) (hf : FarOk B ps W W') (hpv : ∀ q, pv.ownBlock = some q → q < B) (hclr : ∀ q, B ≤ q → Clear b tv ev xs ys q) (hb : w0.heap.size ≤ B) : WorldOk crash most w0 b W' pv tv ev xs ys ps := by
  refine ⟨h.book.keep hf.size (fun q hq hn => hf.low q hq (Nat.lt_of_not_le (fun e => hn (hclr q e)))), own_of_block h.prow (fun q hq => hf.low q (h.prow.lt q hq).2 (hpv q hq)), h.pclr, fun j x hx => ⟨(h.mem j x hx).1.keep (fun q hq => hf.foot j x q hx hq), (h.mem j x hx).2⟩, h.sep, h.dis, h.args.step hf.os hf.tape hf.output hf.size (fun q hq _ => hf.low q (by have := h.args.size; omega) (by omega)), h.w0b, h.aclr⟩
structure SomeW (crash : Bool) (most : Int) (w0 : World) (b : Nat) (pv tv ev : Value) (xs0 ys : List Value) (ps : List PS) (i : Nat) (p : PS) (B : Nat) (mm : Int) (nb n m : Nat) (W : World) (p' : PS) (va : Option Addr) (vc : Nat) (js : List Item) : Prop where
  ok : WorldOk crash most w0 b W pv tv ev xs0 ys (ps.set i p')
  P : p'.r.P = p.r.P ∧ p'.r.p = p.r.p
  pre : ∃ t, evs p'.r.its = evs p.r.its ++ t
  bw : W.heap[B]? = some (.cells #[.pointer (some ⟨b, 0, none⟩)] 25)
  bp : W.heap[B + 1]? = some (.cells #[.pointer (some ⟨p.r.P, 0, none⟩)] 42)
  bm : W.heap[B + 2]? = some (.cells #[.int .i64 mm] 3)
  bn : W.heap[B + 4]? = some (.cells #[.int .i64 (nb : Int)] 3)
  bs : W.heap[B + 5]? = some (.cells #[.int .i64 (p.r.its.length : Int)] 3)
  bk : W.heap[B + 6]? = some (.cells #[.bool true] 4)
  bo : W.heap[B + 7]? = some (.cells #[.slice va js.length vc] 33)
  o2 : MadeO (B + 7 + 1) W (.slice va js.length vc) js
  o3 : evs js = (evs p.r.its).take n
  o4 : ∀ q, Value.ownBlock (.slice va js.length vc) = some q ∨ q ∈ tagBs js → q < m ∧ ¬ p'.r.foot q
  bf : ∀ q, B ≤ q → q < B + 8 → ¬ p'.r.foot q
  fm : ∀ q, p'.r.foot q → q < m
  mW : m ≤ W.heap.size
  Bm : B + 8 ≤ m
def SomeI (crash : Bool) (most : Int) (w0 : World) (b : Nat) (pv tv ev : Value) (xs0 ys : List Value) (ps : List PS) (i : Nat) (p : PS) (B mm : Nat) (c : Option Code) (xs : List Told) (m : Nat) (W : World) : Prop := ∃ p' n va vc js, ((c = none ∧ n = xs.length ∧ n ≤ mm ∧ (n = 0 → p' = p)) ∨ (c = some (.exit 0) ∧ n = mm ∧ n < p.r.its.length)) ∧ SomeW crash most w0 b pv tv ev xs0 ys ps i p B (mm : Int) n n m W p' va vc js
/- what the world at the start says of all that lies behind it -/
structure SomeS (w0 : World) (b : Nat) (pv tv ev : Value) (xs0 ys : List Value) (ps : List PS) (i B : Nat) : Prop where
  hb : w0.heap.size ≤ B
  il : i < ps.length
  clr : ∀ q, B ≤ q → Clear b tv ev xs0 ys q
  pv : ∀ q, pv.ownBlock = some q → q < B
  oth : ∀ (j : Nat) (x : PS) (q : Nat), j ≠ i → ps[j]? = some x → x.r.foot q → q < B
theorem SomeS.start {crash : Bool} {most : Int} {w0 w : World} {b : Nat} {pv tv ev : Value} {xs0 ys : List Value} {ps : List PS} {i : Nat} {p : PS} (h : WorldOk crash most w0 b w pv tv ev xs0 ys ps) (hp : ps[i]? = some p) : SomeS w0 b pv tv ev xs0 ys ps i w.heap.size :=
  ⟨h.args.size, (List.getElem?_eq_some_iff.1 hp).1, fun _ hq => h.book.clear_new hq, fun q hq => (h.prow.lt q hq).2, fun j x q _ hx hf => ((h.mem j x hx).1.lt q hf).2⟩
theorem set_get {α : Type} {l : List α} {i j : Nat} {x y : α} (h : (l.set i x)[j]? = some y) : (j = i ∧ y = x) ∨ (j ≠ i ∧ l[j]? = some y) := by
  by_cases hj : j = i
  · subst hj
    have hl := (List.getElem?_eq_some_iff.1 h).1
    rw [List.length_set] at hl
    rw [List.getElem?_set_self hl] at h
    exact .inl ⟨rfl, (Option.some.inj h).symm⟩
  · rw [List.getElem?_set_ne (fun e => hj e.symm)] at h
    exact .inr ⟨hj, h⟩
theorem FarOk.of {w0 : World} {b : Nat} {pv tv ev : Value} {xs0 ys : List Value} {ps : List PS} {i B : Nat} {p' : PS} {W W' : World} (hS : SomeS w0 b pv tv ev xs0 ys ps i B) (os : W'.os = W.os) (tape : W'.tape = W.tape) (output : W'.output = W.output) (size : W.heap.size ≤ W'.heap.size) (low : ∀ q, q < B → W'.heap[q]? = W.heap[q]?) (foot : ∀ q, p'.r.foot q → W'.heap[q]? = W.heap[q]?) : FarOk B (ps.set i p') W W' := by
  refine ⟨os, tape, output, size, fun q _ hq => low q hq, fun j x q hx hf => ?_⟩
  rcases set_get hx with ⟨_, rfl⟩ | ⟨hj, hx2⟩
  · exact foot q hf
  · exact low q (hS.oth j x q hj hx2 hf)
section
variable {crash : Bool} {most : Int} {w0 : World} {b : Nat} {pv tv ev : Value} {xs0 ys : List Value} {ps : List PS} {i : Nat} {p : PS} {B : Nat} {mm : Int} {nb n m : Nat} {W : World} {p' : PS} {va : Option Addr} {vc : Nat} {js : List Item}
theorem SomeW.abide (hS : SomeS w0 b pv tv ev xs0 ys ps i B) {L : Nat} (hL : B ≤ L) : Abide L (fun W => SomeW crash most w0 b pv tv ev xs0 ys ps i p B mm nb n m W p' va vc js) := by
  rintro W W' row h hg hr
  have hr' : ∀ r, row = some r → ∃ o : Obj, W.heap[r]? = some o ∧ o.isCells = false := fun r e => (hr r e).2
  have hW := h.mW
  have hBm := h.Bm
  have hpi : (ps.set i p')[i]? = some p' := List.getElem?_set_self hS.il
  refine ⟨h.ok.far (FarOk.of hS hg.os hg.tape hg.output hg.size (fun q hq => hg.block q (by omega) (fun e => by have := (hr q e.symm).1; omega)) (fun q hq => hg.block q ((h.ok.mem i p' hpi).1.lt q hq).2 (fun e => by
    obtain ⟨o, h1, h2⟩ := hr' q e.symm
    have := (h.ok.mem i p' hpi).1.cells hq h1
    rw [h2] at this; cases this))) hS.pv hS.clr hS.hb, h.P, h.pre, (abide_block hg hr' h.bw).trans h.bw, (abide_block hg hr' h.bp).trans h.bp, (abide_block hg hr' h.bm).trans h.bm, (abide_block hg hr' h.bn).trans h.bn, (abide_block hg hr' h.bs).trans h.bs, (abide_block hg hr' h.bk).trans h.bk, (abide_block hg hr' h.bo).trans h.bo, h.o2.abide hg hr', h.o3, h.o4, h.bf, h.fm, Nat.le_trans h.mW hg.size, h.Bm⟩
theorem SomeW.below {W' : World} (hS : SomeS w0 b pv tv ev xs0 ys ps i B) (h : SomeW crash most w0 b pv tv ev xs0 ys ps i p B mm nb n m W p' va vc js) (hb : Below W.heap.size W W') : SomeW crash most w0 b pv tv ev xs0 ys ps i p B mm nb n m W' p' va vc js :=
  SomeW.abide hS (Nat.le_refl B) W W' none h (grown_below hb (Nat.le_refl _)) (fun r e => by cases e)
theorem SomeW.up {m' : Nat} (h : SomeW crash most w0 b pv tv ev xs0 ys ps i p B mm nb n m W p' va vc js) (hm : m ≤ m') (hW : m' ≤ W.heap.size) : SomeW crash most w0 b pv tv ev xs0 ys ps i p B mm nb n m' W p' va vc js :=
  ⟨h.ok, h.P, h.pre, h.bw, h.bp, h.bm, h.bn, h.bs, h.bk, h.bo, h.o2, h.o3, fun q hq => ⟨by have := (h.o4 q hq).1; omega, (h.o4 q hq).2⟩, h.bf, fun q hq => by have := h.fm q hq; omega, hW, by have := h.Bm; omega⟩
theorem SomeW.setN (nb' : Nat) (hS : SomeS w0 b pv tv ev xs0 ys ps i B) (h : SomeW crash most w0 b pv tv ev xs0 ys ps i p B mm nb n m W p' va vc js) : SomeW crash most w0 b pv tv ev xs0 ys ps i p B mm nb' n m (W.setCell ⟨B + 4, 0, none⟩ (.int .i64 (nb' : Int))) p' va vc js ∧ Below B W (W.setCell ⟨B + 4, 0, none⟩ (.int .i64 (nb' : Int))) ∧ ∀ L, KeepsFrom L W (W.setCell ⟨B + 4, 0, none⟩ (.int .i64 (nb' : Int))) := by
  have hW := h.mW
  have hBm := h.Bm
  have hs : (W.setCell ⟨B + 4, 0, none⟩ (.int .i64 (nb' : Int))).heap.size = W.heap.size := by simp [World.setCell]
  have hoth : ∀ q, q ≠ B + 4 → (W.setCell ⟨B + 4, 0, none⟩ (.int .i64 (nb' : Int))).heap[q]? = W.heap[q]? := fun q hq => Below.heap_setCell _ _ _ _ hq
  have hset : (W.setCell ⟨B + 4, 0, none⟩ (.int .i64 (nb' : Int))).heap[B + 4]? = some (.cells #[.int .i64 (nb' : Int)] 3) := by
    simp only [World.setCell, Array.getElem?_modify, if_true, h.bn, Option.map_some]
    rfl
  refine ⟨⟨h.ok.far (FarOk.of hS rfl rfl rfl (by omega) (fun q hq => hoth q (by omega)) (fun q hq => hoth q (fun e => h.bf q (by omega) (by omega) hq))) hS.pv hS.clr hS.hb, h.P, h.pre, (hoth _ (by omega)).trans h.bw, (hoth _ (by omega)).trans h.bp, (hoth _ (by omega)).trans h.bm, hset, (hoth _ (by omega)).trans h.bs, (hoth _ (by omega)).trans h.bk, (hoth _ (by omega)).trans h.bo, h.o2.same (fun q hq => hoth q (fun e => by
    have : B + 7 + 1 ≤ q := by
      rcases hq with hq | hq
      · exact (h.o2.row.lt q hq).1
      · exact (h.o2.tag_lt hq).1
    omega)), h.o3, h.o4, h.bf, h.fm, by omega, h.Bm⟩, ⟨rfl, rfl, rfl, by omega, fun q hq => hoth q (by omega)⟩, fun L => ⟨by omega, fun k o _ hk ho => ?_⟩⟩
  exact (hoth k (fun e => by rw [e, h.bn] at hk; cases hk; simp [Obj.isCells] at ho)).trans hk
theorem SomeW.push {wa : World} {o : Obj} {g cap : Nat} {it : Item} (hS : SomeS w0 b pv tv ev xs0 ys ps i B) (h : SomeW crash most w0 b pv tv ev xs0 ys ps i p B mm nb n m W p' va vc js) (hi : W.ownsRow m 9 1 it.tv it.ev.tags.length (it.ev.tags.map Value.string)) (he : (evs p.r.its)[n]? = some it.ev) (hgr : (W.alloc o).grownBy wa (Value.ownBlock (.slice va js.length vc)))
    (hown : wa.ownsRow (B + 7 + 1) 38 5 (.slice (some ⟨g, 0, none⟩) (js.length + 1) cap) (js.length + 1) (fives js ++ it.five)) (hat : Value.ownBlock (.slice va js.length vc) = some g ∨ g = (W.alloc o).heap.size) :
    ∃ F, F = wa.setCell ⟨B + 7, 0, none⟩ (.slice (some ⟨g, 0, none⟩) (js.length + 1) cap) ∧ SomeW crash most w0 b pv tv ev xs0 ys ps i p B mm nb (n + 1) F.heap.size F p' (some ⟨g, 0, none⟩) cap (js ++ [it]) ∧ Below B W F ∧ ∀ L, KeepsFrom L W F := by
  have hl : (js ++ [it]).length = js.length + 1 := by simp
  have hW := h.mW
  have hBm := h.Bm
  have hP := h.o2.push hi (by omega) (fun q hq => (h.o4 q (.inl hq)).1) (fun q hq => (h.o4 q (.inr hq)).1) hgr hown hat
  have hgs := hgr.size
  rw [World.size_alloc] at hgs
  have hwa : ∀ q, q < W.heap.size → Value.ownBlock (.slice va js.length vc) ≠ some q → wa.heap[q]? = W.heap[q]? := fun q hq hn => (hgr.block q (by rw [World.size_alloc]; omega) (fun e => hn e.symm)).trans (Below.heap_alloc _ _ _ hq)
  have hlow : ∀ q, q < B + 8 → Value.ownBlock (.slice va js.length vc) ≠ some q := fun q hq e => by have := (h.o2.row.lt q e).1; omega
  have hoth : ∀ q, q ≠ B + 7 → (wa.setCell ⟨B + 7, 0, none⟩ (.slice (some ⟨g, 0, none⟩) (js.length + 1) cap)).heap[q]? = wa.heap[q]? := fun q hq => Below.heap_setCell _ _ _ _ hq
  have hset : (wa.setCell ⟨B + 7, 0, none⟩ (.slice (some ⟨g, 0, none⟩) (js.length + 1) cap)).heap[B + 7]? = some (.cells #[.slice (some ⟨g, 0, none⟩) (js.length + 1) cap] 33) := by
    simp only [World.setCell, Array.getElem?_modify, if_true, (hwa (B + 7) (by omega) (hlow _ (by omega))).trans h.bo, Option.map_some]
    rfl
  have hfs : (wa.setCell ⟨B + 7, 0, none⟩ (.slice (some ⟨g, 0, none⟩) (js.length + 1) cap)).heap.size = wa.heap.size := by simp [World.setCell]
  have hbox : ∀ q, q < B + 8 → q ≠ B + 7 → (wa.setCell ⟨B + 7, 0, none⟩ (.slice (some ⟨g, 0, none⟩) (js.length + 1) cap)).heap[q]? = W.heap[q]? := fun q h1 h2 => (hoth q h2).trans (hwa q (by omega) (hlow q h1))
  have hfoot : ∀ q, p'.r.foot q → (wa.setCell ⟨B + 7, 0, none⟩ (.slice (some ⟨g, 0, none⟩) (js.length + 1) cap)).heap[q]? = W.heap[q]? := fun q hq => (hoth q (fun e => h.bf q (by omega) (by omega) hq)).trans (hwa q (by have := h.fm q hq; omega) (fun e => (h.o4 q (.inl e)).2 hq))
  have hPF := hP.keep (w' := wa.setCell ⟨B + 7, 0, none⟩ (.slice (some ⟨g, 0, none⟩) (js.length + 1) cap)) (fun q h1 _ => hoth q (by omega))
  have hb : Below B W (wa.setCell ⟨B + 7, 0, none⟩ (.slice (some ⟨g, 0, none⟩) (js.length + 1) cap)) := ⟨hgr.os, hgr.tape, hgr.output, by omega, fun q hq => hbox q (by omega) (by omega)⟩
  refine ⟨_, rfl, ⟨h.ok.far (FarOk.of hS hb.os hb.tape hb.output hb.size (fun q hq => hb.block q hq) hfoot) hS.pv hS.clr hS.hb, h.P, h.pre, (hbox _ (by omega) (by omega)).trans h.bw, (hbox _ (by omega) (by omega)).trans h.bp, (hbox _ (by omega) (by omega)).trans h.bm, (hbox _ (by omega) (by omega)).trans h.bn, (hbox _ (by omega) (by omega)).trans h.bs, (hbox _ (by omega) (by omega)).trans h.bk, by rw [hl]; exact hset, by rw [hl]; exact hPF, ?_, fun q hq => ?_, h.bf, fun q hq => by have := h.fm q hq; omega, Nat.le_refl _, by omega⟩, hb, fun L => ⟨by omega, fun k ob _ hob hc => ?_⟩⟩
  · rw [List.take_add_one, he, ← h.o3]
    simp [evs]
  · rw [hl] at hq
    have hlt : q < (wa.setCell ⟨B + 7, 0, none⟩ (.slice (some ⟨g, 0, none⟩) (js.length + 1) cap)).heap.size := by
      rcases hq with hq | hq
      · exact (hPF.row.lt q hq).2
      · exact (hPF.tag_lt hq).2
    refine ⟨hlt, fun hf => ?_⟩
    have hfm := h.fm q hf
    rcases hq with hq | hq
    · simp only [Value.ownBlock, Option.some.injEq] at hq
      subst hq
      rcases hat with e | e
      · exact (h.o4 g (.inl e)).2 hf
      · rw [World.size_alloc] at e; omega
    · obtain ⟨x, hx, e⟩ := tagBs_mem.1 hq
      rcases List.mem_append.1 hx with hx | hx
      · exact (h.o4 q (.inr (tagBs_mem.2 ⟨x, hx, e⟩))).2 hf
      · simp only [List.mem_singleton] at hx
        subst hx
        have := (hi.lt q e).1
        omega
  · have hkW := (Array.getElem?_eq_some_iff.1 hob).1
    have n1 : k ≠ B + 7 := fun e => by rw [e, h.bo] at hob; cases hob; simp [Obj.isCells] at hc
    have n2 : Value.ownBlock (.slice va js.length vc) ≠ some k := fun e => by
      have := own_isC h.o2.row e hob
      rw [hc] at this; cases this
    rw [hoth k n1, hwa k hkW n2]
    exact hob
theorem appEvs_pre (v : Int) (l m : List Ev) : ∃ t, appEvs v l m = l ++ t := by
  unfold appEvs
  split
  · exact ⟨m, rfl⟩
  · exact ⟨[], by simp⟩
theorem SomeW.more (hS : SomeS w0 b pv tv ev xs0 ys ps i B) (h : SomeW crash most w0 b pv tv ev xs0 ys ps i p B mm nb n m W p' va vc js) (hmost : crash = decide (7 ≤ most)) :
    Calls Tryz.prog 12 #[.pointer (some ⟨b, 0, none⟩), .pointer (some ⟨p.r.P, 0, none⟩), .int .i64 2, .slice (some ⟨W.heap.size, 0, none⟩) 1 1] (W.alloc (.cells #[.int .i64 4, .string ⟨#[109, 111, 114, 101]⟩, .int .i64 0, .string ⟨#[]⟩, .slice none 0 0] 38)) fun e w' => e = .returned (.bool true) ∧ ∃ p2, Hid (SomeW crash most w0 b pv tv ev xs0 ys ps i p B mm nb n w'.heap.size w' p2 va vc js) ∧ Hid (Kept p'.r.ev p'.r.js W w') ∧ Hid (∀ L, KeepsFrom L W w') ∧ w'.cell? ⟨B + 6, 0, none⟩ = some (.bool true) ∧ w'.cell? ⟨B + 4, 0, none⟩ = some (.int .i64 (nb : Int)) ∧ w'.frozen? ⟨B + 6, 0, none⟩ = false ∧ w'.frozen? ⟨B + 4, 0, none⟩ = false := by
  have hb : Below W.heap.size W (W.alloc (.cells #[.int .i64 4, .string ⟨#[109, 111, 114, 101]⟩, .int .i64 0, .string ⟨#[]⟩, .slice none 0 0] 38)) := (Below.refl _ _).alloc (Nat.le_refl _) _
  have hp1 : (ps.set i p')[i]? = some p' := List.getElem?_set_self hS.il
  have hO := h.ok.below hb
  have hC := append_world crash most w0 b _ pv tv ev xs0 ys (ps.set i p') i p' 2 (some ⟨W.heap.size, 0, none⟩) 1 [moreIt] hmost hO hp1 (more_at W) (by simp) (fun it hi => by simp only [List.mem_singleton] at hi; subst hi; exact more_ok w0) (fun q off _ e hf => by
    cases e
    have := ((h.ok.mem i p' hp1).1.lt _ hf).2
    omega)
  rw [h.P.1] at hC
  refine hC.mono ?_
  rintro e w' ⟨rfl, p2, hP, HW2, HM, HK, HE⟩
  rw [List.set_set] at HW2
  have hs := HM.out.size
  rw [World.size_alloc] at hs
  have hW := h.mW
  have hBm := h.Bm
  have hsame : ∀ q, q < W.heap.size → ¬ p'.r.foot q → w'.heap[q]? = W.heap[q]? := fun q hq hn => (HM.out.block q (by rw [World.size_alloc]; omega) hn).trans (hb.block q hq)
  have hbox : ∀ q, B ≤ q → q < B + 8 → w'.heap[q]? = W.heap[q]? := fun q h1 h2 => hsame q (by omega) (h.bf q h1 h2)
  have hfo : ∀ q, q < W.heap.size → ¬ p'.r.foot q → ¬ p2.r.foot q := fun q hq hn hf => by
    rcases HM.out.sub q hf with h1 | h1
    · exact hn h1
    · rw [World.size_alloc] at h1; omega
  have hlt2 := (HW2.out.mem i p2 (List.getElem?_set_self hS.il)).1.lt
  have hN : SomeW crash most w0 b pv tv ev xs0 ys ps i p B mm nb n w'.heap.size w' p2 va vc js := by
    refine ⟨HW2.out, ⟨hP.1, hP.2.trans h.P.2⟩, ?_, (hbox _ (by omega) (by omega)).trans h.bw, (hbox _ (by omega) (by omega)).trans h.bp, (hbox _ (by omega) (by omega)).trans h.bm, (hbox _ (by omega) (by omega)).trans h.bn, (hbox _ (by omega) (by omega)).trans h.bs, (hbox _ (by omega) (by omega)).trans h.bk, (hbox _ (by omega) (by omega)).trans h.bo, h.o2.same (fun q hq => hsame q (by have := (h.o4 q hq).1; omega) (h.o4 q hq).2), h.o3, fun q hq => ⟨by have := (h.o4 q hq).1; omega, hfo q (by have := (h.o4 q hq).1; omega) (h.o4 q hq).2⟩, fun q h1 h2 => hfo q (by omega) (h.bf q h1 h2), fun q hq => (hlt2 q hq).2, Nat.le_refl _, by omega⟩
    obtain ⟨t, ht⟩ := h.pre
    obtain ⟨t2, ht2⟩ := appEvs_pre 2 (evs p'.r.its) (evs [moreIt])
    exact ⟨t ++ t2, by rw [HE.out, ht2, ht, List.append_assoc]⟩
  refine ⟨rfl, p2, hide0 hN, hide0 ((Kept.below hb).trans HK.out), hide0 (fun L => ⟨by omega, fun k o _ hk ho => ?_⟩), (one_cell hN.bk).1, (one_cell hN.bn).1, (one_cell hN.bk).2, (one_cell hN.bn).2⟩
  exact (hsame k (Array.getElem?_eq_some_iff.1 hk).1 (fun hf => by have := (h.ok.mem i p' hp1).1.cells hf hk; rw [ho] at this; cases this)).trans hk
theorem SomeW.setV (v : Int) (nb' : Nat) (hv : v = (nb' : Int)) (hS : SomeS w0 b pv tv ev xs0 ys ps i B) (h : SomeW crash most w0 b pv tv ev xs0 ys ps i p B mm nb n m W p' va vc js) : SomeW crash most w0 b pv tv ev xs0 ys ps i p B mm nb' n m (W.setCell ⟨B + 4, 0, none⟩ (.int .i64 v)) p' va vc js ∧ Below B W (W.setCell ⟨B + 4, 0, none⟩ (.int .i64 v)) ∧ ∀ L, KeepsFrom L W (W.setCell ⟨B + 4, 0, none⟩ (.int .i64 v)) := by
  subst hv
  exact h.setN nb' hS
theorem KeepsFrom.below {L : Nat} {W W' : World} (h : Below W.heap.size W W') : KeepsFrom L W W' := KeepsFrom.of_grownBy (grown_below h (Nat.le_refl _)) (fun j e => by cases e)
/- the list that was put together goes into the book -/
theorem SomeW.keep {r r2 D : Nat} (hS : SomeS w0 b pv tv ev xs0 ys ps i B) (h : SomeW crash most w0 b pv tv ev xs0 ys ps i p B mm nb n m W p' va vc js) (hg : ∀ e ∈ evs p.r.its, isB e = true) (hl : p.r.its.length ≤ 200) (HX : xs0.length = 4 * r ∧ r + 200 ≤ 500000000) (HY : ys.length = 4 * r2 ∧ r2 ≤ 500000000) (hD : B ≤ D) (hdef : W.heap[D]? = some (.deferred (some []))) :
    Calls Tryz.prog 22 #[.pointer (some ⟨b, 1, none⟩), .slice va js.length vc] W.drew fun e w' => e = .returned (.tuple #[]) ∧ Hid (∃ tv' ev' xs' ys', WorldOk crash most w0 b w' pv tv' ev' xs' ys' (ps.set i p') ∧ (xs'.length ≤ 4 * (r + 200) ∧ ∃ r', xs'.length = 4 * r') ∧ ys'.length = 4 * (r2 + 1) ∧ Clear b tv' ev' xs' ys' D) ∧ w'.cell? ⟨B + 6, 0, none⟩ = some (.bool true) ∧ w'.cell? ⟨B + 4, 0, none⟩ = some (.int .i64 (nb : Int)) ∧ w'.cell? ⟨B + 2, 0, none⟩ = some (.int .i64 mm) ∧ w'.cell? ⟨B + 5, 0, none⟩ = some (.int .i64 (p.r.its.length : Int)) ∧ w'.heap[D]? = some (.deferred (some [])) := by
  have hW := h.mW
  have hBm := h.Bm
  have hlow : ∀ q, Value.ownBlock (.slice va js.length vc) = some q ∨ q ∈ tagBs js → B + 8 ≤ q := fun q hq => by
    rcases hq with hq | hq
    · exact (h.o2.row.lt q hq).1
    · exact (h.o2.tag_lt hq).1
  have hjl : js.length ≤ 200 := by
    have h1 := congrArg List.length h.o3
    simp [evs] at h1
    omega
  have h4 : ∀ it ∈ js, it.ev.tags.length ≤ 4 := fun it hit => by
    have h1 : it.ev ∈ evs js := List.mem_map_of_mem hit
    rw [h.o3] at h1
    exact (is_known (hg _ (List.mem_of_mem_take h1))).few
  have hDf : ∀ q, Value.ownBlock (.slice va js.length vc) = some q ∨ q ∈ tagBs js → q ≠ D := fun q hq e => by
    subst e
    rcases hq with hq | hq
    · have := own_isC h.o2.row hq hdef; cases this
    · obtain ⟨it, hi2, e2⟩ := tagBs_mem.1 hq
      have := own_isC (h.o2.tags it hi2) e2 hdef; cases this
  refine (book_keep (N := B + 7 + 1) (r := r) (r2 := r2) h.ok h.o2 (by have := hS.hb; omega) (fun q hq => ⟨hS.clr q (by have := hlow q hq; omega), fun e => by have := hS.pv q e; have := hlow q hq; omega, fun j x hx hf => ?_⟩) hjl h4 ⟨HX.1, by omega⟩ HY).mono ?_
  · rcases set_get hx with ⟨_, rfl⟩ | ⟨hj, hx2⟩
    · exact (h.o4 q hq).2 hf
    · have := hS.oth j x q hj hx2 hf; have := hlow q hq; omega
  · rintro e w' ⟨rfl, tv', ev', xs', ys', h1, h2, h3⟩
    have hsame : ∀ q, B ≤ q → q < B + 8 → w'.heap[q]? = W.heap[q]? := fun q ha hb => (h3.out.2 q (by omega) (hS.clr q ha) (fun e => by have := hlow q (.inl e); omega) (fun e => by have := hlow q (.inr e); omega)).1
    have hDD := h3.out.2 D (Array.getElem?_eq_some_iff.1 hdef).1 (hS.clr D hD) (fun e => hDf D (.inl e) rfl) (fun e => hDf D (.inr e) rfl)
    have h5 := h2.out
    exact ⟨rfl, hide0 ⟨tv', ev', xs', ys', h1.out, ⟨by omega, _, h5.1⟩, h5.2, hDD.2⟩, (one_cell ((hsame _ (by omega) (by omega)).trans h.bk)).1, (one_cell ((hsame _ (by omega) (by omega)).trans h.bn)).1, (one_cell ((hsame _ (by omega) (by omega)).trans h.bm)).1, (one_cell ((hsame _ (by omega) (by omega)).trans h.bs)).1, hDD.1.trans hdef⟩
theorem SomeW.start {W0 : World} {w : World} (HW : WorldOk crash most w0 b w pv tv ev xs0 ys ps) (hp : ps[i]? = some p) (hB0 : Below w.heap.size w W0) (hs : W0.heap.size = w.heap.size + 8)
    (bw : W0.heap[w.heap.size]? = some (.cells #[.pointer (some ⟨b, 0, none⟩)] 25)) (bp : W0.heap[w.heap.size + 1]? = some (.cells #[.pointer (some ⟨p.r.P, 0, none⟩)] 42)) (bm : W0.heap[w.heap.size + 2]? = some (.cells #[.int .i64 mm] 3)) (bn : W0.heap[w.heap.size + 4]? = some (.cells #[.int .i64 0] 3)) (bs : W0.heap[w.heap.size + 5]? = some (.cells #[.int .i64 (p.r.its.length : Int)] 3)) (bk : W0.heap[w.heap.size + 6]? = some (.cells #[.bool true] 4)) (bo : W0.heap[w.heap.size + 7]? = some (.cells #[.slice none 0 0] 33)) :
    SomeW crash most w0 b pv tv ev xs0 ys ps i p w.heap.size mm 0 0 W0.heap.size W0 p none 0 [] := by
  have hset : ps.set i p = ps := by
    apply List.ext_getElem?
    intro j
    by_cases hj : j = i
    · subst hj; rw [List.getElem?_set_self (List.getElem?_eq_some_iff.1 hp).1, hp]
    · rw [List.getElem?_set_ne (fun e => hj e.symm)]
  have hlt := (HW.mem i p hp).1.lt
  exact ⟨by rw [hset]; exact HW.below hB0, ⟨rfl, rfl⟩, ⟨[], by simp⟩, bw, bp, bm, bn, bs, bk, bo, ⟨World.ownsRow_nil _ _ _ _, (fun _ h => by cases h), (fun _ h => by simp [tagBs] at h), by simp [tagBs]⟩, by simp [evs], fun q hq => by simp [Value.ownBlock, tagBs] at hq, fun q h1 _ hf => by have := (hlt q hf).2; omega, fun q hf => by have := (hlt q hf).2; omega, Nat.le_refl _, by omega⟩
end
end Go.Proofs.YtdjllnhahhjgmaaGreat
namespace Go.Proofs.YtdjllnhahhjgmaaGreat
open Go.RowKit Go.Shelf Chron
attribute [local go_sem] Oper.semAt_some
theorem some_boxes (w : World) (b : Nat) (p : PS) (mm : Nat) : ∃ W, W = ((((((((w.alloc (.cells #[.pointer (some ⟨b, 0, none⟩)] 25)).alloc (.cells #[.pointer (some ⟨p.r.P, 0, none⟩)] 42)).alloc (.cells #[.int .i64 (mm : Int)] 3)).alloc (.cells #[.pointer (some ⟨p.r.p, 0, none⟩)] 47)).alloc (.cells #[.int .i64 0] 3)).alloc (.cells #[.int .i64 (p.r.its.length : Int)] 3)).alloc (.cells #[.bool true] 4)).alloc (.cells #[.slice none 0 0] 33)) ∧ Below w.heap.size w W ∧ W.heap.size = w.heap.size + 8 ∧ W.heap[w.heap.size]? = some (.cells #[.pointer (some ⟨b, 0, none⟩)] 25) ∧ W.heap[w.heap.size + 1]? = some (.cells #[.pointer (some ⟨p.r.P, 0, none⟩)] 42) ∧ W.heap[w.heap.size + 2]? = some (.cells #[.int .i64 (mm : Int)] 3) ∧ W.heap[w.heap.size + 3]? = some (.cells #[.pointer (some ⟨p.r.p, 0, none⟩)] 47) ∧ W.heap[w.heap.size + 4]? = some (.cells #[.int .i64 0] 3) ∧ W.heap[w.heap.size + 5]? = some (.cells #[.int .i64 (p.r.its.length : Int)] 3) ∧ W.heap[w.heap.size + 6]? = some (.cells #[.bool true] 4) ∧ W.heap[w.heap.size + 7]? = some (.cells #[.slice none 0 0] 33) := by
  refine ⟨_, rfl, ((((((((Below.refl _ w).alloc (Nat.le_refl _) _).alloc (by simp only [World.size_alloc]; omega) _).alloc (by simp only [World.size_alloc]; omega) _).alloc (by simp only [World.size_alloc]; omega) _).alloc (by simp only [World.size_alloc]; omega) _).alloc (by simp only [World.size_alloc]; omega) _).alloc (by simp only [World.size_alloc]; omega) _).alloc (by simp only [World.size_alloc]; omega) _, by simp, ?_, ?_, ?_, ?_, ?_, ?_, ?_, ?_⟩
  · rw [Below.heap_alloc _ _ _ (by simp only [World.size_alloc]; omega), Below.heap_alloc _ _ _ (by simp only [World.size_alloc]; omega), Below.heap_alloc _ _ _ (by simp only [World.size_alloc]; omega), Below.heap_alloc _ _ _ (by simp only [World.size_alloc]; omega), Below.heap_alloc _ _ _ (by simp only [World.size_alloc]; omega), Below.heap_alloc _ _ _ (by simp only [World.size_alloc]; omega), Below.heap_alloc _ _ _ (by simp only [World.size_alloc]; omega)]
    exact heap_alloc_new w _
  · rw [Below.heap_alloc _ _ _ (by simp only [World.size_alloc]; omega), Below.heap_alloc _ _ _ (by simp only [World.size_alloc]; omega), Below.heap_alloc _ _ _ (by simp only [World.size_alloc]; omega), Below.heap_alloc _ _ _ (by simp only [World.size_alloc]; omega), Below.heap_alloc _ _ _ (by simp only [World.size_alloc]; omega), Below.heap_alloc _ _ _ (by simp only [World.size_alloc]; omega)]
    have h9 := heap_alloc_new (w.alloc (.cells #[.pointer (some ⟨b, 0, none⟩)] 25)) (.cells #[.pointer (some ⟨p.r.P, 0, none⟩)] 42)
    simp only [World.size_alloc] at h9; exact h9
  · rw [Below.heap_alloc _ _ _ (by simp only [World.size_alloc]; omega), Below.heap_alloc _ _ _ (by simp only [World.size_alloc]; omega), Below.heap_alloc _ _ _ (by simp only [World.size_alloc]; omega), Below.heap_alloc _ _ _ (by simp only [World.size_alloc]; omega), Below.heap_alloc _ _ _ (by simp only [World.size_alloc]; omega)]
    have h9 := heap_alloc_new ((w.alloc (.cells #[.pointer (some ⟨b, 0, none⟩)] 25)).alloc (.cells #[.pointer (some ⟨p.r.P, 0, none⟩)] 42)) (.cells #[.int .i64 (mm : Int)] 3)
    simp only [World.size_alloc] at h9; exact h9
  · rw [Below.heap_alloc _ _ _ (by simp only [World.size_alloc]; omega), Below.heap_alloc _ _ _ (by simp only [World.size_alloc]; omega), Below.heap_alloc _ _ _ (by simp only [World.size_alloc]; omega), Below.heap_alloc _ _ _ (by simp only [World.size_alloc]; omega)]
    have h9 := heap_alloc_new (((w.alloc (.cells #[.pointer (some ⟨b, 0, none⟩)] 25)).alloc (.cells #[.pointer (some ⟨p.r.P, 0, none⟩)] 42)).alloc (.cells #[.int .i64 (mm : Int)] 3)) (.cells #[.pointer (some ⟨p.r.p, 0, none⟩)] 47)
    simp only [World.size_alloc] at h9; exact h9
  · rw [Below.heap_alloc _ _ _ (by simp only [World.size_alloc]; omega), Below.heap_alloc _ _ _ (by simp only [World.size_alloc]; omega), Below.heap_alloc _ _ _ (by simp only [World.size_alloc]; omega)]
    have h9 := heap_alloc_new ((((w.alloc (.cells #[.pointer (some ⟨b, 0, none⟩)] 25)).alloc (.cells #[.pointer (some ⟨p.r.P, 0, none⟩)] 42)).alloc (.cells #[.int .i64 (mm : Int)] 3)).alloc (.cells #[.pointer (some ⟨p.r.p, 0, none⟩)] 47)) (.cells #[.int .i64 0] 3)
    simp only [World.size_alloc] at h9; exact h9
  · rw [Below.heap_alloc _ _ _ (by simp only [World.size_alloc]; omega), Below.heap_alloc _ _ _ (by simp only [World.size_alloc]; omega)]
    have h9 := heap_alloc_new (((((w.alloc (.cells #[.pointer (some ⟨b, 0, none⟩)] 25)).alloc (.cells #[.pointer (some ⟨p.r.P, 0, none⟩)] 42)).alloc (.cells #[.int .i64 (mm : Int)] 3)).alloc (.cells #[.pointer (some ⟨p.r.p, 0, none⟩)] 47)).alloc (.cells #[.int .i64 0] 3)) (.cells #[.int .i64 (p.r.its.length : Int)] 3)
    simp only [World.size_alloc] at h9; exact h9
  · rw [Below.heap_alloc _ _ _ (by simp only [World.size_alloc]; omega)]
    have h9 := heap_alloc_new ((((((w.alloc (.cells #[.pointer (some ⟨b, 0, none⟩)] 25)).alloc (.cells #[.pointer (some ⟨p.r.P, 0, none⟩)] 42)).alloc (.cells #[.int .i64 (mm : Int)] 3)).alloc (.cells #[.pointer (some ⟨p.r.p, 0, none⟩)] 47)).alloc (.cells #[.int .i64 0] 3)).alloc (.cells #[.int .i64 (p.r.its.length : Int)] 3)) (.cells #[.bool true] 4)
    simp only [World.size_alloc] at h9; exact h9
  · have h9 := heap_alloc_new (((((((w.alloc (.cells #[.pointer (some ⟨b, 0, none⟩)] 25)).alloc (.cells #[.pointer (some ⟨p.r.P, 0, none⟩)] 42)).alloc (.cells #[.int .i64 (mm : Int)] 3)).alloc (.cells #[.pointer (some ⟨p.r.p, 0, none⟩)] 47)).alloc (.cells #[.int .i64 0] 3)).alloc (.cells #[.int .i64 (p.r.its.length : Int)] 3)).alloc (.cells #[.bool true] 4)) (.cells #[.slice none 0 0] 33)
    simp only [World.size_alloc] at h9; exact h9
set_option maxRecDepth 100000 in
set_option maxHeartbeats 4000000 in
theorem some_any (crash : Bool) (most : Int) (w0 : World) (b : Nat) (w : World) (pv tv ev : Value) (xs0 ys : List Value) (ps : List PS) (i : Nat) (p : PS) (r r2 mm : Nat) (hmost : crash = decide (7 ≤ most)) (HW : Hid (WorldOk crash most w0 b w pv tv ev xs0 ys ps)) (hp : Hid (ps[i]? = some p)) (HX : Hid (xs0.length = 4 * r ∧ r + 200 ≤ 500000000)) (HY : Hid (ys.length = 4 * r2 ∧ r2 ≤ 500000000)) (hmm : mm < 8) :
    Calls Tryz.prog 13 #[.pointer (some ⟨b, 0, none⟩), .pointer (some ⟨p.r.P, 0, none⟩), .int .i64 (mm : Int)] w fun e w' => e = .returned (.bool true) ∧ ∃ tv' ev' xs' ys' p', p'.r.P = p.r.P ∧ Hid (WorldOk crash most w0 b w' pv tv' ev' xs' ys' (ps.set i p')) ∧ Hid (xs'.length ≤ 4 * (r + 200) ∧ ∃ r', xs'.length = 4 * r') ∧ Hid (ys'.length = 4 * (r2 + 1)) := by
  have HMO := hide0 hmost
  clear hmost
  have HP := hide0 (HW.out.mem i p hp.out).1
  have HL := hide0 (HW.out.mem i p hp.out).2
  have HS := hide0 (SomeS.start HW.out hp.out)
  obtain ⟨ea, ec, hevv, hE, hcap, h0⟩ := HP.out.arc.evs.at HP.out.arc.good
  obtain ⟨i0, hi, hz0, hz1, hz2⟩ := info_parts infoEvent5
  have hnil : ∀ (q : Nat) (w' : World), Sem.run Tryz.prog (binOp BinOp.eql 58 (Value.func (Fn.func 34) #[] #[.pointer (some ⟨q, 0, none⟩)]) Value.nilFunc) w' = .ok (.bool false) w' := fun q w' => by kernel_rfl
  have hPlt := (HP.out.lt p.r.P (.inl rfl)).2
  obtain ⟨la, lc, hlv, hlcap⟩ : ∃ a c, p.r.lv = .slice a p.r.its.length c ∧ p.r.its.length ≤ c := by
    rcases HP.out.row.2 with ⟨e1, e2⟩ | ⟨g, cap, _, e1, _, _, e3, _⟩
    · exact ⟨none, 0, by rw [e1, e2], by omega⟩
    · exact ⟨_, cap, e1, e3⟩
  refine (callsIn_wide (n := 0)).1 (callsIn_of_wp_marks Tryz.func13 rfl trivial ?_)
  simp only [Tryz.ntmps13, List.size_toArray, List.length_cons, List.length_nil, Nat.reduceAdd, Nat.reduceSub, Array.replicate_succ, Array.replicate_zero, List.push_toArray, List.append_toArray, List.nil_append, List.cons_append]
  have hPB : ∀ (o1 o2 o3 : Obj), (((w.alloc o1).alloc o2).alloc o3).heap[p.r.P]? = w.heap[p.r.P]? := fun o1 o2 o3 => by
    rw [Below.heap_alloc _ _ _ (by simp only [World.size_alloc]; omega), Below.heap_alloc _ _ _ (by simp only [World.size_alloc]; omega), Below.heap_alloc _ _ _ hPlt]
  have a0 := (five_cells ((hPB (.cells #[.pointer (some ⟨b, 0, none⟩)] 25) (.cells #[.pointer (some ⟨p.r.P, 0, none⟩)] 42) (.cells #[.int .i64 (mm : Int)] 3)).trans HP.out.blk)).1
  have a1 := (five_cells ((Below.heap_alloc (((w.alloc (.cells #[.pointer (some ⟨b, 0, none⟩)] 25)).alloc (.cells #[.pointer (some ⟨p.r.P, 0, none⟩)] 42)).alloc (.cells #[.int .i64 (mm : Int)] 3)) (.cells #[.pointer (some ⟨p.r.p, 0, none⟩)] 47) p.r.P (by simp only [World.size_alloc]; omega)).trans ((hPB (.cells #[.pointer (some ⟨b, 0, none⟩)] 25) (.cells #[.pointer (some ⟨p.r.P, 0, none⟩)] 42) (.cells #[.int .i64 (mm : Int)] 3)).trans HP.out.blk))).2.1
  have a2 := (five_cells ((Below.heap_alloc ((((w.alloc (.cells #[.pointer (some ⟨b, 0, none⟩)] 25)).alloc (.cells #[.pointer (some ⟨p.r.P, 0, none⟩)] 42)).alloc (.cells #[.int .i64 (mm : Int)] 3)).alloc (.cells #[.pointer (some ⟨p.r.p, 0, none⟩)] 47)) (.cells #[.int .i64 0] 3) p.r.P (by simp only [World.size_alloc]; omega)).trans ((Below.heap_alloc (((w.alloc (.cells #[.pointer (some ⟨b, 0, none⟩)] 25)).alloc (.cells #[.pointer (some ⟨p.r.P, 0, none⟩)] 42)).alloc (.cells #[.int .i64 (mm : Int)] 3)) (.cells #[.pointer (some ⟨p.r.p, 0, none⟩)] 47) p.r.P (by simp only [World.size_alloc]; omega)).trans ((hPB (.cells #[.pointer (some ⟨b, 0, none⟩)] 25) (.cells #[.pointer (some ⟨p.r.P, 0, none⟩)] 42) (.cells #[.int .i64 (mm : Int)] 3)).trans HP.out.blk)))).2.1
  rw [hlv] at a1 a2
  gi_wp2_with fail
  refine ⟨trivial, rfl, (callsIn_wide.2 (seq_any p.r.p _)).mono ?_⟩
  rintro e w' ⟨rfl, rfl⟩
  gi_wp2_with fail
  obtain ⟨W0, hW0, hB0, hsz0, k0, k1, k2, k3, k4, k5, k6, k7⟩ := some_boxes w b p mm
  rw [← hW0]
  clear hW0 a0 a1 a2 hPB
  have HST := hide0 (SomeW.start (mm := (mm : Int)) HW.out hp.out hB0 hsz0 k0 k1 k2 k4 k5 k6 k7)
  have hP0 := HP.out.below hB0
  have hbox : W0.cell? ⟨w.heap.size + 1 + 1 + 1, 0, none⟩ = some (.pointer (some ⟨p.r.p, 0, none⟩)) := (one_cell k3).1
  have hab := hP0.arc.blk
  rw [hevv] at hab
  have hlt := HP.out.arc.lt
  clear k0 k1 k2 k3 k4 k5 k6 k7 hP0
  refine wp_tells (gf := 34) (lb := #[.pointer (some ⟨w.heap.size + 1 + 1 + 1, 0, none⟩)]) rfl (enters_of Tryz.func34 (by kernel_rfl) rfl)
    (tells_any p.r.p (w.heap.size + 1 + 1 + 1) p.r.fv ea ec p.r.js W0 hbox hab (hE.below hB0 (Nat.le_refl _)) h0 HP.out.arc.good HP.out.arc.few) (Below.refl _ _) (fun _ => rfl) Kept.trans (fun W l o o' _ hl ho => Kept.put o' hl ho)
    (SomeI crash most w0 b pv tv ev xs0 ys ps i p w.heap.size mm)
    (fun xs x a' W => ∃ m E p' va vc js, (xs.length = 0 → p' = p) ∧ xs.length ≤ mm ∧ SomeW crash most w0 b pv tv ev xs0 ys ps i p w.heap.size (mm : Int) xs.length xs.length m W p' va vc js ∧ ownTold x m W ∧ someTold (evs p.r.js) (xs ++ [x]) ∧ m ≤ E ∧ W.heap[E]? = some (.cells #[.int .i64 x.it.ev.kind, .string x.it.ev.task, .int .i64 x.it.ev.time, .string x.it.ev.body, .slice x.it.at' x.it.ev.tags.length x.it.cap] 38) ∧
      a' = { tmps := #[.pointer (some ⟨b, 0, none⟩), .pointer (some ⟨p.r.P, 0, none⟩), .int .i64 (mm : Int), .pointer (some ⟨w.heap.size, 0, none⟩), .pointer (some ⟨w.heap.size + 1, 0, none⟩), .pointer (some ⟨w.heap.size + 1 + 1, 0, none⟩), .bool false, (.func (.func 34) #[] #[.pointer (some ⟨w.heap.size + 1 + 1 + 1, 0, none⟩)]), .pointer (some ⟨w.heap.size + 1 + 1 + 1 + 1, 0, none⟩), .pointer (some ⟨w.heap.size + 1 + 1 + 1 + 1 + 1, 0, none⟩), .pointer (some ⟨w.heap.size + 1 + 1 + 1 + 1 + 1 + 1, 0, none⟩), .pointer (some ⟨w.heap.size + 1 + 1 + 1 + 1 + 1 + 1 + 1, 0, none⟩), .int .i64 x.i, .pointer (some ⟨E, 0, none⟩), undef, .pointer (some ⟨p.r.P, 0, none⟩), .pointer (some ⟨p.r.P, 0, none⟩), .pointer (some ⟨p.r.P, 0, none⟩), .pointer (some ⟨p.r.p, 0, none⟩), (.func (.func 34) #[] #[.pointer (some ⟨w.heap.size + 1 + 1 + 1, 0, none⟩)]), (.func (.func 34) #[] #[.pointer (some ⟨w.heap.size + 1 + 1 + 1, 0, none⟩)]), .bool false, .pointer (some ⟨p.r.P, 0, none⟩), .pointer (some ⟨p.r.P, 0, none⟩), .pointer (some ⟨p.r.P, 1, none⟩), .slice la p.r.its.length lc, .int .i64 (p.r.its.length : Int), (.func (.func 34) #[] #[.pointer (some ⟨w.heap.size + 1 + 1 + 1, 0, none⟩)]), .int .i64 x.i, x.it.val, undef, undef, undef, undef, undef, undef, undef, undef, undef, undef, undef, undef, undef, undef, undef, undef, undef, undef, undef, undef, undef, undef, undef, undef, undef, undef, undef, undef, undef, undef, undef, undef, undef, undef, undef, undef, undef, undef, undef, undef, undef, undef, undef, undef, undef, undef, undef, undef, undef, undef, undef, undef, undef, undef], defers := [] })
    ?hI ?hAx ?start ?assign ?body ?done ?stop
  case hI =>
    rintro c xs m W W' row ⟨p', n, va, vc, js, h1, h2⟩ hg hr
    exact ⟨p', n, va, vc, js, h1, SomeW.abide HS.out (L := W0.heap.size) (by omega) W W' row h2 hg hr⟩
  case hAx =>
    rintro xs x a' W W' row ⟨m, E, p', va, vc, js, h1, h2, h3, h4, h5, h6, h7, h8⟩ hg hr
    have hr' : ∀ r, row = some r → ∃ o : Obj, W.heap[r]? = some o ∧ o.isCells = false := fun r e => (hr r e).2
    exact ⟨m, E, p', va, vc, js, h1, h2, SomeW.abide HS.out (L := W0.heap.size) (by omega) W W' row h3 hg hr, own_abide hg hr' h4, h5, h6, (abide_block hg hr' h7).trans h7, h8⟩
  case start => exact ⟨p, 0, none, 0, [], .inl ⟨rfl, rfl, Nat.zero_le _, fun _ => rfl⟩, HST.out⟩
  case assign =>
    rintro l xs x m h W K ⟨p', n, va, vc, js, hc, hSW⟩ hwh hmh hhW hH hSp hK
    have hc' : n = xs.length ∧ n ≤ mm ∧ (n = 0 → p' = p) := by
      rcases hc with ⟨_, h⟩ | ⟨h, _⟩
      · exact h
      · cases h
    clear hc
    obtain ⟨rfl, hmmx, hpp⟩ := hc'
    obtain ⟨xi, ⟨⟨k, t, tm, bd, ts⟩, ia, ic⟩⟩ := x
    simp only [encTold, Item.val] at hK ⊢
    gi_wp2
    have hga : Below W.heap.size W (W.alloc (.cells #[.int .i64 k, .string t, .int .i64 tm, .string bd, .slice ia ts.length ic] 38)) := (Below.refl _ _).alloc (Nat.le_refl _) _
    refine hK _ _ (KeepsFrom.below hga) (Kept.below hga) ⟨m, W.heap.size, p', va, vc, js, hpp, hmmx, hSW.below HS.out hga, ?_, hSp, by omega, heap_alloc_new W _, rfl⟩
    have h9 : W.ownsRow m 9 1 (.slice ia ts.length ic) ts.length (ts.map Value.string) := own_mono hH hmh
    exact h9.alloc _
  case body =>
    --[[
    rintro l xs x a' W ⟨m, E, p', va, vc, js, hpp, hmmx, hSW, hH, hSp, hE5, hEv, rfl⟩
    obtain ⟨xi, ⟨⟨k, t, tm, bd, ts⟩, ia, ic⟩⟩ := x
    simp only at hEv
    have HSW := hide0 hSW
    clear hSW
    have HXI : Hid (xi = xs.length) := hSp.2.2 xs.length ⟨xi, ⟨⟨k, t, tm, bd, ts⟩, ia, ic⟩⟩ (by simp)
    have hxi := HXI.out
    subst hxi
    have hjs : (evs p.r.js).length = p.r.its.length := by have := congrArg List.length HL.out.same; simpa [evs] using this.symm
    have hxl : xs.length < p.r.its.length := by have := hSp.2.1; simp at this; omega
    have hxli : (xs.length : Int) < (p.r.its.length : Int) := by omega
    have cN : W.cell? ⟨w.heap.size + 1 + 1 + 1 + 1, 0, none⟩ = some (.int .i64 (xs.length : Int)) := (one_cell HSW.out.bn).1
    have cM : W.cell? ⟨w.heap.size + 1 + 1, 0, none⟩ = some (.int .i64 (mm : Int)) := (one_cell HSW.out.bm).1
    have cS : W.cell? ⟨w.heap.size + 1 + 1 + 1 + 1 + 1, 0, none⟩ = some (.int .i64 (p.r.its.length : Int)) := (one_cell HSW.out.bs).1
    have cK : W.cell? ⟨w.heap.size + 1 + 1 + 1 + 1 + 1 + 1, 0, none⟩ = some (.bool true) := (one_cell HSW.out.bk).1
    have fK : W.frozen? ⟨w.heap.size + 1 + 1 + 1 + 1 + 1 + 1, 0, none⟩ = false := (one_cell HSW.out.bk).2
    have HSP := hide0 hSp
    have HEV := hide0 hEv
    have HH := hide0 hH
    clear hSp hEv hH hab hbox hE h0
    have hmx : Tryz.prog.follows .mixedOrders = true := by kernel_rfl
    by_cases hbr : (xs.length : Int) = (mm : Int)
    · gi_wp2_with fail
      exact ⟨KeepsFrom.refl _ _, p', xs.length, va, vc, js, .inr ⟨rfl, by omega, hxl⟩, HSW.out.up HSW.out.mW (Nat.le_refl _)⟩
    · gi_upto_if 44 with fail
      have hbA : Below W.heap.size W (W.setCell ⟨w.heap.size + 1 + 1 + 1 + 1 + 1 + 1, 0, none⟩ (.bool true)) := same_set cK
      generalize W.setCell ⟨w.heap.size + 1 + 1 + 1 + 1 + 1 + 1, 0, none⟩ (.bool true) = W2 at hbA ⊢
      have HS2 := hide0 (HSW.out.below HS.out hbA)
      have HKF : Hid ((∀ L, KeepsFrom L W W2) ∧ Kept (.slice ea p.r.js.length ec) p.r.js W W2) := ⟨fun L => KeepsFrom.below hbA, Kept.below hbA⟩
      have hEv : W2.heap[E]? = some (.cells #[.int .i64 k, .string t, .int .i64 tm, .string bd, .slice ia ts.length ic] 38) := grown_at (grown_below hbA (Nat.le_refl _)) HEV.out
      have hH : W2.ownsRow m 9 1 (.slice ia ts.length ic) ts.length (ts.map Value.string) := own_abide (grown_below hbA (Nat.le_refl _)) (fun r e => by cases e) HH.out
      clear cN cM cS cK fK HSW HEV HH hbA
      obtain ⟨e0, e1, e2, e3, e4, ez⟩ := res_cells hEv
      have cP : W2.cell? ⟨w.heap.size + 1, 0, none⟩ = some (.pointer (some ⟨p.r.P, 0, none⟩)) := (one_cell HS2.out.bp).1
      have cN : W2.cell? ⟨w.heap.size + 1 + 1 + 1 + 1, 0, none⟩ = some (.int .i64 (xs.length : Int)) := (one_cell HS2.out.bn).1
      have cK : W2.cell? ⟨w.heap.size + 1 + 1 + 1 + 1 + 1 + 1, 0, none⟩ = some (.bool true) := (one_cell HS2.out.bk).1
      have fK : W2.frozen? ⟨w.heap.size + 1 + 1 + 1 + 1 + 1 + 1, 0, none⟩ = false := (one_cell HS2.out.bk).2
      have hp' : (ps.set i p')[i]? = some p' := List.getElem?_set_self HS.out.il
      have HP' := hide0 (HS2.out.ok.mem i p' hp').1
      have l1 := (five_cells HP'.out.blk).2.1
      rw [HS2.out.P.1] at l1
      obtain ⟨la', lc', hlv', hlcap', hLE⟩ := HP'.out.evsAt2 HS2.out.ok.args
      rw [hlv'] at l1
      have HE3 : Hid ((evs p.r.its)[xs.length]? = some ⟨k, t, tm, bd, ts⟩) := by
        have h9 := congrArg (fun l => l[xs.length]?) HSP.out.1
        show _ = _
        rw [HL.out.same]
        simp [toldEvs] at h9
        simpa using h9.symm
      have hev : (evs p'.r.its)[xs.length]? = some ⟨k, t, tm, bd, ts⟩ := by
        obtain ⟨t2, ht2⟩ := HS2.out.pre
        rw [ht2, List.getElem?_append_left (by simp [evs]; exact hxl)]
        exact HE3.out
      have hxl' : xs.length < p'.r.its.length := by have := (List.getElem?_eq_some_iff.1 hev).1; simpa [evs] using this
      have hxli' : (xs.length : Int) < (p'.r.its.length : Int) := by omega
      obtain ⟨lb, lo, ta, tc, rfl, f0, f1, f2, f3, f4, hSame⟩ := round_same (K := w.heap.size + 1 + 1 + 1 + 1 + 1 + 1) hLE hev hH cK fK
      clear hev
      gi_cut [] from 30 (fun wx => Hid (Below W2.heap.size W2 wx))
      case first =>
        --[
        clear hnil hi hz0 hz1 hz2 hH hEv ez hlt hB0 hsz0 HSP hLE HW HX HY HP HL hp hevv hcap hlv hlcap hjs hE5 HKF HST HS HS2 HP' hp' HXI HE3 hpp hmmx hlv' hlcap' hmm HMO hPlt hxl hxl'
        gi_wp2_with fail
        gi_region_with_o (refine ⟨trivial, rfl, ?_⟩; gi_at_call 19; refine (CallsIn.inRound l (callsIn_wide.2 hSame)).mono ?_; rintro e w1 ⟨rfl, HB1, cK1, fK1⟩)
        all_goals
          gi_wp2_with fail
          gi_meet
          case rel => exact hide0 (HB1.out.trans (same_set cK1))
        --]
      case rest =>
        have HS3 := hide0 (HS2.out.below HS.out hcut.out)
        have HKF2 : Hid ((∀ L, KeepsFrom L W wc) ∧ Kept (.slice ea p.r.js.length ec) p.r.js W wc) := ⟨fun L => (HKF.out.1 L).trans (KeepsFrom.below hcut.out), HKF.out.2.trans (Kept.below hcut.out)⟩
        have hgd := grown_below hcut.out (Nat.le_refl _)
        replace hEv := grown_at hgd hEv
        replace hH : wc.ownsRow m 9 1 (.slice ia ts.length ic) ts.length (ts.map Value.string) := own_abide hgd (fun r e => by cases e) hH
        clear e0 e1 e2 e3 e4 ez cP cN cK fK hgd hcut l1 hLE f0 f1 f2 f3 f4 hSame HKF HS2 HP' hlv' hlcap'
        obtain ⟨e0, e1, e2, e3, e4, ez⟩ := res_cells hEv
        have o1 : wc.heap[w.heap.size + 1 + 1 + 1 + 1 + 1 + 1 + 1]? = some (.cells #[.slice va js.length vc] 33) := HS3.out.bo
        have cO := (one_cell o1).1
        have hNew := five_new wc ⟨⟨k, t, tm, bd, ts⟩, ia, ic⟩
        have hrow : wc.ownsRow (w.heap.size + 1 + 1 + 1 + 1 + 1 + 1 + 1 + 1) 38 5 (.slice va js.length vc) js.length (fives js) := HS3.out.o2.row
        have hfew := HP.out.arc.few
        have hjs2 : js.length < 200 := by have h8 := congrArg List.length HS3.out.o3; simp [evs] at h8 hjs; omega
        have hBs := (Array.getElem?_eq_some_iff.1 o1).1
        have hbase : w.heap.size + 1 + 1 + 1 + 1 + 1 + 1 + 1 + 1 ≤ (wc.alloc (.cells #[.int .i64 k, .string t, .int .i64 tm, .string bd, .slice ia ts.length ic] 38)).heap.size := by simp; omega
        have j4 : wc.heap[w.heap.size + 1 + 1 + 1 + 1]? = some (.cells #[.int .i64 (xs.length : Int)] 3) := HS3.out.bn
        gi_upto_if 59 with (gi_at_builtin; refine wpListIn_append_lies _ rfl _ _ 33 rfl (w.heap.size + 1 + 1 + 1 + 1 + 1 + 1 + 1 + 1) 38 i0 (.agg #[.int .i64 0, .string ⟨#[]⟩, .int .i64 0, .string ⟨#[]⟩, .slice none 0 0]) 5 72 Tryz.underlying33 hi hz0 hz1 hz2 rfl (by decide) (.slice va js.length vc) js.length (fives js) rfl (hrow.alloc _) ⟨wc.heap.size, 0, none⟩ 1 1 (Item.five ⟨⟨k, t, tm, bd, ts⟩, ia, ic⟩) rfl rfl hNew (five_one _) Nat.one_pos (by unfold maxLen; omega) (by omega) hbase _ rfl ?_; intro g gcap wa hown hgr hat hlt2; obtain ⟨cB, czB⟩ := out_box o1 hrow hgr; obtain ⟨cN, fN⟩ := one_cell (low_box (q := w.heap.size + 1 + 1 + 1 + 1) (by omega) hrow hgr (by omega) j4))
        obtain ⟨F, hF, q1, q2, q3⟩ := HS3.out.push HS.out (it := ⟨⟨k, t, tm, bd, ts⟩, ia, ic⟩) hH HE3.out hgr hown hat
        have hF' : F = wa.setCell ⟨w.heap.size + 1 + 1 + 1 + 1 + 1 + 1 + 1, 0, none⟩ (.slice (some ⟨g, 0, none⟩) (js.length + 1) gcap) := hF
        rw [← hF']
        have hevo : ∀ q, Value.ownBlock (.slice ea p.r.js.length ec) = some q → q < w.heap.size := fun q hq => (hlt q (.inr (.inr (.inl (by rw [hevv]; exact hq))))).2
        have hevt : ∀ q ∈ tagBs p.r.js, q < w.heap.size := fun q hq => (hlt q (.inr (.inr (.inr hq)))).2
        have HQ1 := hide0 q1
        have HKF3 : Hid ((∀ L, KeepsFrom L W F) ∧ Kept (.slice ea p.r.js.length ec) p.r.js W F) := ⟨fun L => (HKF2.out.1 L).trans (q3 L), HKF2.out.2.trans (Kept.far q2 hevo hevt)⟩
        clear hF hF' q1 q2 q3 cB czB cN fN hown hgr hat hlt2 hNew hrow e0 e1 e2 e3 e4 ez hEv hH o1 cO hBs hbase j4 HKF2 HS3
        have cN : F.cell? ⟨w.heap.size + 1 + 1 + 1 + 1, 0, none⟩ = some (.int .i64 (xs.length : Int)) := (one_cell HQ1.out.bn).1
        have fN : F.frozen? ⟨w.heap.size + 1 + 1 + 1 + 1, 0, none⟩ = false := (one_cell HQ1.out.bn).2
        by_cases hx0 : xs.length = 0
        · have cW : F.cell? ⟨w.heap.size, 0, none⟩ = some (.pointer (some ⟨b, 0, none⟩)) := (one_cell HQ1.out.bw).1
          have cP : F.cell? ⟨w.heap.size + 1, 0, none⟩ = some (.pointer (some ⟨p.r.P, 0, none⟩)) := (one_cell HQ1.out.bp).1
          have hMo := HQ1.out.more HS.out HMO.out
          have hx0i : (xs.length : Int) = 0 := by omega
          gi_wp2_with fail
          refine ⟨trivial, rfl, (CallsIn.inRound l (callsIn_wide.2 hMo)).mono ?_⟩
          rintro e w5 ⟨rfl, p2, H5, HK5, HF5, c6, c4, z6, z4⟩
          replace c6 : w5.cell? ⟨w.heap.size + 1 + 1 + 1 + 1 + 1 + 1, 0, none⟩ = some (.bool true) := c6
          replace c4 : w5.cell? ⟨w.heap.size + 1 + 1 + 1 + 1, 0, none⟩ = some (.int .i64 (xs.length : Int)) := c4
          replace z6 : w5.frozen? ⟨w.heap.size + 1 + 1 + 1 + 1 + 1 + 1, 0, none⟩ = false := z6
          replace z4 : w5.frozen? ⟨w.heap.size + 1 + 1 + 1 + 1, 0, none⟩ = false := z4
          have key : ∀ (L : Nat) (V : Int), V = ((xs.length + 1 : Nat) : Int) → KeepsFrom L W ((w5.setCell ⟨w.heap.size + 1 + 1 + 1 + 1 + 1 + 1, 0, none⟩ (.bool true)).setCell ⟨w.heap.size + 1 + 1 + 1 + 1, 0, none⟩ (.int .i64 V)) ∧ Kept (.slice ea p.r.js.length ec) p.r.js W ((w5.setCell ⟨w.heap.size + 1 + 1 + 1 + 1 + 1 + 1, 0, none⟩ (.bool true)).setCell ⟨w.heap.size + 1 + 1 + 1 + 1, 0, none⟩ (.int .i64 V)) ∧ SomeI crash most w0 b pv tv ev xs0 ys ps i p w.heap.size mm none (xs ++ [⟨xs.length, ⟨⟨k, t, tm, bd, ts⟩, ia, ic⟩⟩]) ((w5.setCell ⟨w.heap.size + 1 + 1 + 1 + 1 + 1 + 1, 0, none⟩ (.bool true)).setCell ⟨w.heap.size + 1 + 1 + 1 + 1, 0, none⟩ (.int .i64 V)).heap.size ((w5.setCell ⟨w.heap.size + 1 + 1 + 1 + 1 + 1 + 1, 0, none⟩ (.bool true)).setCell ⟨w.heap.size + 1 + 1 + 1 + 1, 0, none⟩ (.int .i64 V)) := by
            intro L V hV
            have hb6 : Below w5.heap.size w5 (w5.setCell ⟨w.heap.size + 1 + 1 + 1 + 1 + 1 + 1, 0, none⟩ (.bool true)) := same_set c6
            obtain ⟨s1, s2, s3⟩ := (H5.out.below HS.out hb6).setV V (xs.length + 1) hV HS.out
            have HK6 := HK5.out
            rw [hpp hx0, hevv] at HK6
            refine ⟨((((HKF3.out.1 L).trans (HF5.out L)).trans (KeepsFrom.below hb6)).trans (s3 L)), ((HKF3.out.2.trans HK6).trans (Kept.below hb6)).trans (Kept.far s2 hevo hevt), p2, xs.length + 1, _, _, _, .inl ⟨rfl, by simp, by omega, by omega⟩, s1.up s1.mW (Nat.le_refl _)⟩
          clear hMo
          gi_wp2_with fail
          exact key _ _ (by omega)
        · have key : ∀ (L : Nat) (V : Int), V = ((xs.length + 1 : Nat) : Int) → KeepsFrom L W (F.setCell ⟨w.heap.size + 1 + 1 + 1 + 1, 0, none⟩ (.int .i64 V)) ∧ Kept (.slice ea p.r.js.length ec) p.r.js W (F.setCell ⟨w.heap.size + 1 + 1 + 1 + 1, 0, none⟩ (.int .i64 V)) ∧ SomeI crash most w0 b pv tv ev xs0 ys ps i p w.heap.size mm none (xs ++ [⟨xs.length, ⟨⟨k, t, tm, bd, ts⟩, ia, ic⟩⟩]) (F.setCell ⟨w.heap.size + 1 + 1 + 1 + 1, 0, none⟩ (.int .i64 V)).heap.size (F.setCell ⟨w.heap.size + 1 + 1 + 1 + 1, 0, none⟩ (.int .i64 V)) := by
            intro L V hV
            obtain ⟨s1, s2, s3⟩ := HQ1.out.setV V (xs.length + 1) hV HS.out
            exact ⟨(HKF3.out.1 L).trans (s3 L), HKF3.out.2.trans (Kept.far s2 hevo hevt), p', xs.length + 1, _, _, _, .inl ⟨rfl, by simp, by omega, by omega⟩, s1.up s1.mW (Nat.le_refl _)⟩
          have hx0i : ¬ (xs.length : Int) = 0 := by omega
          have hx200 : xs.length < 200 := by have h8 := hjs; simp [evs] at h8; omega
          gi_wp2_with fail
          exact key _ _ (by first | omega | (unfold wrap64; omega))
    --]]
  case done =>
    rintro D xs m W hD hS hm ⟨p', n, va, vc, js, hc, hSW⟩ hdef
    have hn : n = p.r.its.length ∧ n ≤ mm := by
      rcases hc with ⟨_, h1, h2, _⟩ | ⟨h, _⟩
      · have h3 := congrArg List.length hS.1
        have h4 := congrArg List.length HL.out.same
        simp [evs, toldEvs] at h3 h4
        omega
      · cases h
    have HBQ : Hid (((n : Int) == min (mm : Int) (p.r.its.length : Int)) = true) := by show _ = _; rw [beq_iff_eq]; omega
    have HN := hide0 hn.1
    have HPE := hide0 hSW.P.1
    have hgood : ∀ e ∈ evs p.r.its, isB e = true := fun e he => by
      rw [HL.out.same] at he
      obtain ⟨it, hi2, e2⟩ := List.mem_map.1 he
      rw [← e2]
      exact HP.out.arc.good it hi2
    have hlen : p.r.its.length ≤ 200 := by
      have h3 := congrArg List.length HL.out.same
      have h4 := HP.out.arc.few
      simp [evs] at h3; omega
    have cW : W.cell? ⟨w.heap.size, 0, none⟩ = some (.pointer (some ⟨b, 0, none⟩)) := (one_cell hSW.bw).1
    have cO : W.cell? ⟨w.heap.size + 1 + 1 + 1 + 1 + 1 + 1 + 1, 0, none⟩ = some (.slice va js.length vc) := (one_cell hSW.bo).1
    have hKP : Calls Tryz.prog 22 #[.pointer (some ⟨b, 1, none⟩), .slice va js.length vc] W.drew fun e w' => e = .returned (.tuple #[]) ∧ Hid (∃ tv' ev' xs' ys', WorldOk crash most w0 b w' pv tv' ev' xs' ys' (ps.set i p') ∧ (xs'.length ≤ 4 * (r + 200) ∧ ∃ r', xs'.length = 4 * r') ∧ ys'.length = 4 * (r2 + 1) ∧ Clear b tv' ev' xs' ys' D) ∧ w'.cell? ⟨w.heap.size + 1 + 1 + 1 + 1 + 1 + 1, 0, none⟩ = some (.bool true) ∧ w'.cell? ⟨w.heap.size + 1 + 1 + 1 + 1, 0, none⟩ = some (.int .i64 (n : Int)) ∧ w'.cell? ⟨w.heap.size + 1 + 1, 0, none⟩ = some (.int .i64 (mm : Int)) ∧ w'.cell? ⟨w.heap.size + 1 + 1 + 1 + 1 + 1, 0, none⟩ = some (.int .i64 (p.r.its.length : Int)) ∧ w'.heap[D]? = some (.deferred (some [])) :=
      hSW.keep HS.out hgood hlen HX.out HY.out (by omega) hdef
    have HDD : Hid (w0.heap.size ≤ D) := by have := HS.out.hb; show _ ≤ _; omega
    have hmx : Tryz.prog.follows .mixedOrders = true := by kernel_rfl
    clear hSW hdef hS hm hD hbox hab hE h0 hlt hB0 hnil hi hz0 hz1 hz2 HST hsz0 hgood hcap hevv hc HP HL hp hlv hlcap hPlt
    gi_wp2_with fail
    first | gi_region_with_o (refine ⟨trivial, rfl, ?_⟩; gi_at_call 22; refine (callsIn_wide.2 hKP).mono ?_; rintro e w1 ⟨rfl, HZ, g6, g4, g2, g5, gD⟩) | fail
    all_goals gi_wp2_with fail
    all_goals
      refine ⟨by simp, .inl ⟨_, _, rfl, run_takeDeferred (by exact gD), ?_⟩⟩
      obtain ⟨tv', ev', xs', ys', z1, z2, z3, z4⟩ := HZ.out
      refine ⟨_, results_tmp rfl _ _ _, ?_, tv', ev', xs', ys', p', HPE.out, ?_, z2, z3⟩
      · have hb' := HBQ.out
        first
          | exact congrArg (fun x => Ending.returned (Value.bool x)) hb'
          | (rw [HN.out] at hb'; exact congrArg (fun x => Ending.returned (Value.bool x)) hb')
      · first
          | exact hide0 ((z1.below ((Below.refl _ w1).drew)).other (grownBy_putObj' _ D (.deferred none)) (by exact gD) rfl z4 HDD.out)
          | exact hide0 (z1.other (grownBy_putObj' _ D (.deferred none)) (by exact gD) rfl z4 HDD.out)
  case stop =>
    rintro D c xs m W hD hS hm ⟨p', n, va, vc, js, hc, hSW⟩ hdef
    have hn : c = .exit 0 ∧ n = mm ∧ n < p.r.its.length := by
      rcases hc with ⟨h, _⟩ | ⟨h, h2⟩
      · cases h
      · cases h; exact ⟨rfl, h2⟩
    obtain ⟨rfl, hn⟩ := hn
    have HBQ : Hid (((n : Int) == min (mm : Int) (p.r.its.length : Int)) = true) := by show _ = _; rw [beq_iff_eq]; omega
    have HN := hide0 hn.1
    have HPE := hide0 hSW.P.1
    have hgood : ∀ e ∈ evs p.r.its, isB e = true := fun e he => by
      rw [HL.out.same] at he
      obtain ⟨it, hi2, e2⟩ := List.mem_map.1 he
      rw [← e2]
      exact HP.out.arc.good it hi2
    have hlen : p.r.its.length ≤ 200 := by
      have h3 := congrArg List.length HL.out.same
      have h4 := HP.out.arc.few
      simp [evs] at h3; omega
    have cW : W.cell? ⟨w.heap.size, 0, none⟩ = some (.pointer (some ⟨b, 0, none⟩)) := (one_cell hSW.bw).1
    have cO : W.cell? ⟨w.heap.size + 1 + 1 + 1 + 1 + 1 + 1 + 1, 0, none⟩ = some (.slice va js.length vc) := (one_cell hSW.bo).1
    have hKP : Calls Tryz.prog 22 #[.pointer (some ⟨b, 1, none⟩), .slice va js.length vc] W.drew fun e w' => e = .returned (.tuple #[]) ∧ Hid (∃ tv' ev' xs' ys', WorldOk crash most w0 b w' pv tv' ev' xs' ys' (ps.set i p') ∧ (xs'.length ≤ 4 * (r + 200) ∧ ∃ r', xs'.length = 4 * r') ∧ ys'.length = 4 * (r2 + 1) ∧ Clear b tv' ev' xs' ys' D) ∧ w'.cell? ⟨w.heap.size + 1 + 1 + 1 + 1 + 1 + 1, 0, none⟩ = some (.bool true) ∧ w'.cell? ⟨w.heap.size + 1 + 1 + 1 + 1, 0, none⟩ = some (.int .i64 (n : Int)) ∧ w'.cell? ⟨w.heap.size + 1 + 1, 0, none⟩ = some (.int .i64 (mm : Int)) ∧ w'.cell? ⟨w.heap.size + 1 + 1 + 1 + 1 + 1, 0, none⟩ = some (.int .i64 (p.r.its.length : Int)) ∧ w'.heap[D]? = some (.deferred (some [])) :=
      hSW.keep HS.out hgood hlen HX.out HY.out (by omega) hdef
    have HDD : Hid (w0.heap.size ≤ D) := by have := HS.out.hb; show _ ≤ _; omega
    have hmx : Tryz.prog.follows .mixedOrders = true := by kernel_rfl
    clear hSW hdef hS hm hD hbox hab hE h0 hlt hB0 hnil hi hz0 hz1 hz2 HST hsz0 hgood hcap hevv hc HP HL hp hlv hlcap hPlt
    gi_wp2_with fail
    first | gi_region_with_o (refine ⟨trivial, rfl, ?_⟩; gi_at_call 22; refine (callsIn_wide.2 hKP).mono ?_; rintro e w1 ⟨rfl, HZ, g6, g4, g2, g5, gD⟩) | fail
    all_goals gi_wp2_with fail
    all_goals
      refine ⟨by simp, .inl ⟨_, _, rfl, run_takeDeferred (by exact gD), ?_⟩⟩
      obtain ⟨tv', ev', xs', ys', z1, z2, z3, z4⟩ := HZ.out
      refine ⟨_, results_tmp rfl _ _ _, ?_, tv', ev', xs', ys', p', HPE.out, ?_, z2, z3⟩
      · have hb' := HBQ.out
        first
          | exact congrArg (fun x => Ending.returned (Value.bool x)) hb'
          | (rw [HN.out] at hb'; exact congrArg (fun x => Ending.returned (Value.bool x)) hb')
      · first
          | exact hide0 ((z1.below ((Below.refl _ w1).drew)).other (grownBy_putObj' _ D (.deferred none)) (by exact gD) rfl z4 HDD.out)
          | exact hide0 (z1.other (grownBy_putObj' _ D (.deferred none)) (by exact gD) rfl z4 HDD.out)
end Go.Proofs.YtdjllnhahhjgmaaGreat
