/- Walks and plain facts, in the order in which they lean on one another. -/
import Derived.Test.YtdjllnhahhjgmaaGreatW15
import Derived.Sort.CutIn
namespace Go.Proofs.YtdjllnhahhjgmaaGreat
open Go.RowKit Chron
theorem Book2.keepP {b : Nat} {pv pv' mv tv ev : Value} {xs ys : List Value} {w w' : World} (h : Book2 b pv mv tv ev xs ys w) (hs : w.heap.size ≤ w'.heap.size) (hb : ∀ q, q < w.heap.size → q ≠ b → ¬ Clear b tv ev xs ys q → w'.heap[q]? = w.heap[q]?) (hblk : w'.heap[b]? = some (.cells #[pv', tv, ev, mv] 32)) : Book2 b pv' mv tv ev xs ys w' := by
  have ent : ∀ (most : Nat) (mc : List Value) (v : Value), (v ∈ xs ∨ v ∈ ys) → EntG w b tv ev most mc v → EntG w' b tv ev most mc v := by
    intro most mc v hv he
    rcases he with he | ⟨g, no, cap, ho, h2, h3⟩
    · exact .inl he
    · refine .inr ⟨g, no, cap, ho.keep hs (hb g ho.lt (by have := ho.base; omega) (fun hc => ?_)), h2, h3⟩
      rcases hv with hv | hv
      · exact hc.2.2.2.1 v hv ho.blk
      · exact hc.2.2.2.2 v hv ho.blk
  refine ⟨hblk, ?_, ?_, h.te, fun i v hv => ent _ _ v (.inl (List.mem_of_getElem? hv)) (h.full i v hv), fun i v hv => ent _ _ v (.inr (List.mem_of_getElem? hv)) (h.fullE i v hv)⟩
  · exact own_of_block h.tags fun q hq => hb q (h.tags.lt _ hq).2 (by have := (h.tags.lt _ hq).1; omega) (fun hc => hc.2.1 hq)
  · exact own_of_block h.evts fun q hq => hb q (h.evts.lt _ hq).2 (by have := (h.evts.lt _ hq).1; omega) (fun hc => hc.2.2.1 hq)
theorem WorldOk.push {crash : Bool} {most : Int} {w0 w W1 wa : World} {b : Nat} {pv tv ev : Value} {xs ys : List Value} {ps : List PS} {p' : PS} {o : Obj} {g cap : Nat} (h : WorldOk crash most w0 b w pv tv ev xs ys ps) (hb : Below w.heap.size w W1) (hM : PairM w0 W1 w0.heap.size p'.r) (hL : PairL crash p'.r p'.C0 p'.D) (hnew : ∀ q, p'.r.foot q → w.heap.size ≤ q)
    (hg : (W1.alloc o).grownBy wa pv.ownBlock) (hown : wa.ownsRow (b + 1) 42 1 (.slice (some ⟨g, 0, none⟩) (ps.length + 1) cap) (ps.length + 1) ((ps.map fun p => Value.pointer (some ⟨p.r.P, 0, none⟩)) ++ [.pointer (some ⟨p'.r.P, 0, none⟩)])) (hat : pv.ownBlock = some g ∨ g = (W1.alloc o).heap.size) :
    WorldOk crash most w0 b (wa.setCell ⟨b, 0, none⟩ (.slice (some ⟨g, 0, none⟩) (ps.length + 1) cap)) (.slice (some ⟨g, 0, none⟩) (ps.length + 1) cap) tv ev xs ys (ps ++ [p']) := by
  have hbl := h.book.lt
  have hs := hb.size
  have hgs := hg.size
  rw [World.size_alloc] at hgs hat
  have hfs : (wa.setCell ⟨b, 0, none⟩ (.slice (some ⟨g, 0, none⟩) (ps.length + 1) cap)).heap.size = wa.heap.size := by simp [World.setCell]
  have hwa : ∀ q, q < W1.heap.size → pv.ownBlock ≠ some q → wa.heap[q]? = W1.heap[q]? := fun q hq hn => (hg.block q (by rw [World.size_alloc]; omega) (fun e => hn e.symm)).trans (Below.heap_alloc _ _ _ hq)
  have hpb : pv.ownBlock ≠ some b := fun e => by have := (h.prow.lt b e).1; omega
  have key : ∀ q, q < W1.heap.size → q ≠ b → pv.ownBlock ≠ some q → (wa.setCell ⟨b, 0, none⟩ (.slice (some ⟨g, 0, none⟩) (ps.length + 1) cap)).heap[q]? = W1.heap[q]? := fun q hq h1 h2 => (Below.heap_setCell _ _ _ _ h1).trans (hwa q hq h2)
  have hblk := book_set4 (i := 0) (u := (.slice (some ⟨g, 0, none⟩) (ps.length + 1) cap)) ((hwa b (by omega) hpb).trans ((hb.block b hbl).trans h.book.blk))
  have hgb : g ≠ b := fun e => by
    rcases hat with e2 | e2
    · exact hpb (by rw [e2, e])
    · omega
  have hgq : ∀ q, q < W1.heap.size → pv.ownBlock ≠ some q → g ≠ q := fun q hq hn e => by
    rcases hat with e2 | e2
    · exact hn (by rw [e2, e])
    · omega
  have hfold : ∀ (i : Nat) (p : PS) (q : Nat), ps[i]? = some p → p.r.foot q → q < w.heap.size ∧ q ≠ b ∧ pv.ownBlock ≠ some q := fun i p q hp hq => ⟨((h.mem i p hp).1.lt q hq).2, (h.sep i p q hp hq).1.1, (h.sep i p q hp hq).2⟩
  have hfnew : ∀ q, p'.r.foot q → q < W1.heap.size ∧ q ≠ b ∧ pv.ownBlock ≠ some q := fun q hq => ⟨(hM.lt q hq).2, by have := hnew q hq; omega, fun e => by have := (h.prow.lt q e).2; have := hnew q hq; omega⟩
  have hget : ∀ (i : Nat) (x : PS), (ps ++ [p'])[i]? = some x → (ps[i]? = some x) ∨ (i = ps.length ∧ x = p') := by
    intro i x hx
    rcases Nat.lt_or_ge i ps.length with hi | hi
    · rw [List.getElem?_append_left hi] at hx; exact .inl hx
    · rw [List.getElem?_append_right hi] at hx
      cases hj : i - ps.length with
      | zero => rw [hj] at hx; simp at hx; exact .inr ⟨by omega, hx.symm⟩
      | succ n => rw [hj] at hx; simp at hx
  refine ⟨h.book.keepP (by omega) (fun q hq h1 h2 => (key q (by omega) h1 (fun e => h2 (h.pclr q e))).trans (hb.block q hq)) hblk, ?_, ?_, ?_, ?_, ?_, ?_, h.w0b, fun q h1 h2 => ⟨(h.aclr q h1 h2).1, fun e => by simp only [Value.ownBlock, Option.some.injEq] at e; exact hgq q (by have := h.args.size; omega) (h.aclr q h1 h2).2 e⟩⟩
  · have hl : (ps ++ [p']).length = ps.length + 1 := by simp
    rw [hl, List.map_append]
    exact own_of_block hown (fun q hq => Below.heap_setCell _ _ _ _ (fun e => by simp only [Value.ownBlock, Option.some.injEq] at hq; exact hgb (hq.trans e)))
  · intro q hq
    simp only [Value.ownBlock, Option.some.injEq] at hq
    subst hq
    rcases hat with e2 | e2
    · exact h.pclr _ e2
    · exact h.book.clear_new (by omega)
  · intro i x hx
    rcases hget i x hx with hx | ⟨_, rfl⟩
    · obtain ⟨h1, h2⟩ := h.mem i x hx
      exact ⟨h1.keep (fun q hq => (key q (by have := (hfold i x q hx hq).1; omega) (hfold i x q hx hq).2.1 (hfold i x q hx hq).2.2).trans (hb.block q (hfold i x q hx hq).1)), h2⟩
    · exact ⟨hM.keep (fun q hq => key q (hfnew q hq).1 (hfnew q hq).2.1 (hfnew q hq).2.2), hL⟩
  · intro i x q hx hq
    have hng : ∀ {q}, q < W1.heap.size → pv.ownBlock ≠ some q → Value.ownBlock (.slice (some ⟨g, 0, none⟩) (ps.length + 1) cap) ≠ some q := fun h1 h2 e => by simp only [Value.ownBlock, Option.some.injEq] at e; exact hgq _ h1 h2 e
    rcases hget i x hx with hx | ⟨_, rfl⟩
    · exact ⟨(h.sep i x q hx hq).1, hng (by have := (hfold i x q hx hq).1; omega) (hfold i x q hx hq).2.2⟩
    · exact ⟨h.book.clear_new (hnew q hq), hng (hfnew q hq).1 (hfnew q hq).2.2⟩
  · intro i j x y q hij hx hy hq hq2
    rcases hget i x hx with hx1 | ⟨ei, ex⟩ <;> rcases hget j y hy with hy1 | ⟨ej, ey⟩
    · exact h.dis i j x y q hij hx1 hy1 hq hq2
    · rw [ey] at hq2; have := (hfold i x q hx1 hq).1; have := hnew q hq2; omega
    · rw [ex] at hq; have := (hfold j y q hy1 hq2).1; have := hnew q hq; omega
    · omega
  · exact (h.args.below hb h.args.size).step hg.os hg.tape hg.output (by omega) (fun q hq h2 => key q (by have := h.args.size; omega) h2 (h.aclr q hq h2).2)
theorem infoPairP : (Tryz.prog.info? 42).map (fun i => (i.zero, i.size, i.bytes)) = some (some (.pointer none), 1, 8) := by kernel_rfl
theorem own_one {w : World} {g base : Nat} {v : Value} {ty : TypeId} (h : w.heap[g]? = some (.cells #[v] ty)) (hb : base ≤ g) : w.ownsRow base ty 1 (.slice (some ⟨g, 0, none⟩) 1 1) 1 [v] :=
  ⟨rfl, .inr ⟨g, 1, #[v], rfl, hb, h, by omega, by decide, rfl, rfl⟩⟩
theorem one_new (w : World) (v : Value) (ty : TypeId) : ∀ j u, [v][j]? = some u → (w.alloc (.cells #[v] ty)).cell? ((⟨w.heap.size, 0, none⟩ : Addr).add j) = some u := by
  intro j u hu
  have hj : j = 0 := by have := (List.getElem?_eq_some_iff.1 hu).1; simp at this; omega
  subst hj
  simp only [List.getElem?_cons_zero, Option.some.injEq] at hu
  subst hu
  have hadd : (⟨w.heap.size, 0, none⟩ : Addr).add 0 = ⟨w.heap.size, 0, none⟩ := rfl
  rw [hadd]
  exact (one_cell (heap_alloc_new w (.cells #[v] ty))).1
/- a new pair -/
theorem PairM.new {w0 w : World} {B N p : Nat} {fv av : Value} (hw : w0.heap.size ≤ B) (hN : B ≤ N) (hNw : N ≤ w.heap.size) (hA : ArchO N p w fv av [] []) :
    PairM w0 (((w.alloc (.cells #[.int .i64 0] 3)).alloc (.cells #[.int .i64 0] 3)).alloc (.cells #[.pointer (some ⟨p, 0, none⟩), .slice none 0 0, .slice (some ⟨w.heap.size, 0, none⟩) 1 1, .slice (some ⟨w.heap.size + 1, 0, none⟩) 1 1, .string ⟨#[]⟩] 50)) B
      ⟨w.heap.size + 1 + 1, p, fv, av, [], .slice none 0 0, [], .slice (some ⟨w.heap.size, 0, none⟩) 1 1, .slice (some ⟨w.heap.size + 1, 0, none⟩) 1 1, [], [0], [0], []⟩ ∧ ∀ q, Pr.foot ⟨w.heap.size + 1 + 1, p, fv, av, [], .slice none 0 0, [], .slice (some ⟨w.heap.size, 0, none⟩) 1 1, .slice (some ⟨w.heap.size + 1, 0, none⟩) 1 1, [], [0], [0], []⟩ q → N ≤ q := by
  have h1 := heap_alloc_new w (.cells #[.int .i64 0] 3)
  have h2 := heap_alloc_new (w.alloc (.cells #[.int .i64 0] 3)) (.cells #[.int .i64 0] 3)
  have h3 := heap_alloc_new ((w.alloc (.cells #[.int .i64 0] 3)).alloc (.cells #[.int .i64 0] 3)) (.cells #[.pointer (some ⟨p, 0, none⟩), .slice none 0 0, .slice (some ⟨w.heap.size, 0, none⟩) 1 1, .slice (some ⟨w.heap.size + 1, 0, none⟩) 1 1, .string ⟨#[]⟩] 50)
  simp only [World.size_alloc] at h2 h3
  have hb : Below w.heap.size w (((w.alloc (.cells #[.int .i64 0] 3)).alloc (.cells #[.int .i64 0] 3)).alloc (.cells #[.pointer (some ⟨p, 0, none⟩), .slice none 0 0, .slice (some ⟨w.heap.size, 0, none⟩) 1 1, .slice (some ⟨w.heap.size + 1, 0, none⟩) 1 1, .string ⟨#[]⟩] 50)) := (((Below.refl _ w).alloc (Nat.le_refl _) _).alloc (by simp only [World.size_alloc]; omega) _).alloc (by simp only [World.size_alloc]; omega) _
  have k1 := (Below.heap_alloc _ (.cells #[.pointer (some ⟨p, 0, none⟩), .slice none 0 0, .slice (some ⟨w.heap.size, 0, none⟩) 1 1, .slice (some ⟨w.heap.size + 1, 0, none⟩) 1 1, .string ⟨#[]⟩] 50) w.heap.size (by simp only [World.size_alloc]; omega)).trans ((Below.heap_alloc _ (.cells #[.int .i64 0] 3) w.heap.size (by simp only [World.size_alloc]; omega)).trans h1)
  have k2 := (Below.heap_alloc _ (.cells #[.pointer (some ⟨p, 0, none⟩), .slice none 0 0, .slice (some ⟨w.heap.size, 0, none⟩) 1 1, .slice (some ⟨w.heap.size + 1, 0, none⟩) 1 1, .string ⟨#[]⟩] 50) (w.heap.size + 1) (by simp only [World.size_alloc]; omega)).trans h2
  have hlt := hA.lt
  have hold : ∀ q, Foot p fv av [] q → N ≤ q ∧ q < w.heap.size := hlt
  refine ⟨⟨h3, (hA.below hb).mono hN, World.ownsRow_nil _ _ _ _, fun it hi => (by cases hi), own_one k1 (by omega), own_one k2 (by omega), by show B ≤ w.heap.size + 1 + 1; omega, hw, ⟨fun h => by have := (hold (w.heap.size + 1 + 1) h).2; omega, by simp [Value.ownBlock], (fun e => by simp only [Value.ownBlock, Option.some.injEq] at e; omega), (fun e => by simp only [Value.ownBlock, Option.some.injEq] at e; omega)⟩, fun q hq => by simp [Value.ownBlock] at hq, fun q hq => ?_, fun q hq h => ?_⟩, ?_⟩
  · simp only [Value.ownBlock, Option.some.injEq] at hq ⊢
    subst hq
    exact ⟨fun h => by have := (hold w.heap.size h).2; omega, fun e => by simp only [Option.some.injEq] at e; omega⟩
  · simp only [Value.ownBlock, Option.some.injEq] at hq
    subst hq
    have := (hold (w.heap.size + 1) h).2; omega
  · rintro q (rfl | hq | hq | hq | hq)
    · show N ≤ w.heap.size + 1 + 1; omega
    · exact (hold q hq).1
    · simp [Value.ownBlock] at hq
    · simp only [Value.ownBlock, Option.some.injEq] at hq; omega
    · simp only [Value.ownBlock, Option.some.injEq] at hq; omega
set_option maxRecDepth 100000 in
set_option maxHeartbeats 1000000 in
theorem opened_any (crash : Bool) (most : Int) (w0 : World) (b : Nat) (w : World) (pv tv ev : Value) (xs ys : List Value) (ps : List PS) (HW : Hid (WorldOk crash most w0 b w pv tv ev xs ys ps)) (hn : ps.length ≤ 100000000) :
    Calls Tryz.prog 10 #[.pointer (some ⟨b, 0, none⟩)] w fun e w' => e = .returned (.bool true) ∧ ∃ pv' p', Hid (WorldOk crash most w0 b w' pv' tv ev xs ys (ps ++ [p'])) := by
  have hO := open_any [] w (by simp)
  rw [show readB [] = ([], 0, true) from rfl] at hO
  go_enter Tryz.func10, Tryz.ntmps10
  go_wp2_with fail
  refine hO.mono ?_
  rintro e w1 ⟨HB1, ⟨h, _⟩ | ⟨_, p, fv, av, its, rfl, HA1, hE1⟩⟩
  · cases h
  have hits : its = [] := List.map_eq_nil_iff.1 hE1.out
  subst hits
  have hF := file_any p fv av w.heap.size [] w1 HA1.out.blk HA1.out.fil HA1.out.pf
  have HW1 := hide0 (HW.out.below HB1.out)
  have hc0 : w1.cell? ⟨b, 0, none⟩ = some pv := by have h9 := HW1.out.book.blk; simp [World.cell?, h9]
  have hcz : ∀ o, w1.frozen? ⟨b, o, none⟩ = false := (book_cells4 HW1.out.book.blk).2.2
  obtain ⟨va, vc, rfl, hvc⟩ : ∃ a c, pv = .slice a ps.length c ∧ ps.length ≤ c := by
    rcases HW.out.prow.2 with ⟨e1, e2⟩ | ⟨g, cap, _, e1, _, _, e3, _⟩
    · exact ⟨none, 0, by rw [e1, e2], by omega⟩
    · exact ⟨_, cap, e1, e3⟩
  have hbl := HW1.out.book.lt
  go_wp2_with fail
  refine hF.mono ?_
  rintro e w2 ⟨rfl, rfl⟩
  obtain ⟨i0, hi, hz0, hz1, hz2⟩ := info_parts infoPairP
  have hprow := HW1.out.prow
  have e1 : ps.length + 1 ≤ maxLen := by unfold maxLen; omega
  have e2 : (ps.length + 1) * 8 ≤ 140737488355328 := by omega
  have hNew := one_new (((w2.alloc (.cells #[.int .i64 0] 3)).alloc (.cells #[.int .i64 0] 3)).alloc (.cells #[.pointer (some ⟨p, 0, none⟩), .slice none 0 0, .slice (some ⟨w2.heap.size, 0, none⟩) 1 1, .slice (some ⟨w2.heap.size + 1, 0, none⟩) 1 1, .string ⟨#[]⟩] 50)) (.pointer (some ⟨w2.heap.size + 1 + 1, 0, none⟩)) 42
  simp only [World.size_alloc] at hNew
  have hcw : ∀ (o1 o2 o3 o4 : Obj) (wa : World), ((((w2.alloc o1).alloc o2).alloc o3).alloc o4).grownBy wa (Value.ownBlock (.slice va ps.length vc)) → wa.cell? ⟨b, 0, none⟩ = some (.slice va ps.length vc) ∧ wa.frozen? ⟨b, 0, none⟩ = false := by
    intro o1 o2 o3 o4 wa hg
    have h8 : wa.heap[b]? = w2.heap[b]? := by
      rw [hg.block b (by simp only [World.size_alloc]; omega) (fun e => by have := (hprow.lt b e.symm).1; omega), Below.heap_alloc _ _ _ (by simp only [World.size_alloc]; omega), Below.heap_alloc _ _ _ (by simp only [World.size_alloc]; omega), Below.heap_alloc _ _ _ (by simp only [World.size_alloc]; omega), Below.heap_alloc _ _ _ hbl]
    exact ⟨(World.cell?_of_block h8).trans hc0, (World.frozen?_of_block h8).trans (hcz 0)⟩
  clear hF hO
  go_wp2_with (first
    | (at_builtin; go_must (refine wpList_append_lies _ rfl _ _ 26 rfl (b + 1) 42 i0 (.pointer none) 1 8 Tryz.underlying26 hi hz0 hz1 hz2 rfl (by decide) (.slice va ps.length vc) ps.length (ps.map fun p => Value.pointer (some ⟨p.r.P, 0, none⟩)) rfl ((((hprow.alloc _).alloc _).alloc _).alloc _) ⟨w2.heap.size + 1 + 1 + 1, 0, none⟩ 1 1 [.pointer (some ⟨w2.heap.size + 1 + 1, 0, none⟩)] rfl rfl hNew (by simp [Value.oneCell']) Nat.one_pos e1 e2 (by simp only [World.size_alloc]; omega) _ rfl ?_)
       intro gg gcap wa hown9 hgr9 hat9 hlt9
       obtain ⟨hca0, hca1⟩ := hcw _ _ _ _ _ hgr9
       have HN9 := hide0 hown9
       clear hown9))
  obtain ⟨hM9, hN9⟩ := PairM.new (w0 := w0) (w := w2) (N := w.heap.size) (B := w0.heap.size) (Nat.le_refl _) HW.out.args.size HB1.out.size HA1.out
  have HR := hide0 (WorldOk.push (p' := ⟨_, [], []⟩) HW.out (HB1.out.trans ((((Below.refl _ w2).alloc (Nat.le_refl _) _).alloc (by simp only [World.size_alloc]; omega) _).alloc (by simp only [World.size_alloc]; omega) _ |>.mono HB1.out.size)) hM9 ⟨rfl, rfl, rfl, trivial, fun _ => ⟨rfl, rfl, rfl⟩, fun _ => ⟨Nat.le_refl _, Nat.le_refl _⟩⟩ hN9 hgr9 HN9.out hat9)
  clear hgr9 hat9 HN9 hM9 hN9
  go_ret
  exact ⟨rfl, _, _, HR⟩
end Go.Proofs.YtdjllnhahhjgmaaGreat
namespace Go.Proofs.YtdjllnhahhjgmaaGreat
open Go.RowKit Go.Shelf Chron
def Sepa (b : Nat) (pv tv ev : Value) (xs ys : List Value) (ps : List PS) (q : Nat) : Prop := Clear b tv ev xs ys q ∧ pv.ownBlock ≠ some q ∧ ∀ (j : Nat) (x : PS), ps[j]? = some x → ¬ x.r.foot q
structure AgainW (crash : Bool) (most : Int) (w0 : World) (b : Nat) (pv : Value) (ps : List PS) (i : Nat) (p : PS) (r r2 : Nat) (w : World) (k : Nat) (Ds : List Nat) (W : World) (tv ev : Value) (xs ys : List Value) (p' : PS) : Prop where
  ok : WorldOk crash most w0 b W pv tv ev xs ys (ps.set i p')
  P : p'.r.P = p.r.P ∧ p'.r.p = p.r.p
  nx : ∃ rr, xs.length = 4 * rr ∧ rr ≤ r + 200 * k
  ny : ys.length = 4 * (r2 + k)
  b0 : W.heap[w.heap.size]? = some (.cells #[.pointer (some ⟨p.r.P, 0, none⟩)] 42)
  b1 : W.heap[w.heap.size + 1]? = some (.cells #[.pointer (some ⟨p.r.p, 0, none⟩)] 47)
  s0 : Sepa b pv tv ev xs ys (ps.set i p') w.heap.size
  s1 : Sepa b pv tv ev xs ys (ps.set i p') (w.heap.size + 1)
  len : Ds.length = k
  ds : ∀ D ∈ Ds, W.heap[D]? = some (.deferred (some [])) ∧ Clear b tv ev xs ys D ∧ w0.heap.size ≤ D
  nd : Ds.Nodup
def AgainI (crash : Bool) (most : Int) (w0 : World) (b : Nat) (pv : Value) (ps : List PS) (i : Nat) (p : PS) (r r2 : Nat) (w : World) (k : Nat) (Ds : List Nat) (W : World) : Prop := ∃ tv ev xs ys p', AgainW crash most w0 b pv ps i p r r2 w k Ds W tv ev xs ys p'
theorem AgainI.start {crash : Bool} {most : Int} {w0 : World} {b : Nat} {pv tv ev : Value} {xs ys : List Value} {ps : List PS} {i : Nat} {p : PS} {r r2 : Nat} {w W0 : World} (HW : WorldOk crash most w0 b w pv tv ev xs ys ps) (hp : ps[i]? = some p) (HX : xs.length = 4 * r ∧ r + 400 ≤ 500000000) (HY : ys.length = 4 * r2 ∧ r2 + 2 ≤ 500000000) (hB : Below w.heap.size w W0)
    (k0 : W0.heap[w.heap.size]? = some (.cells #[.pointer (some ⟨p.r.P, 0, none⟩)] 42)) (k1 : W0.heap[w.heap.size + 1]? = some (.cells #[.pointer (some ⟨p.r.p, 0, none⟩)] 47)) : AgainI crash most w0 b pv ps i p r r2 w 0 [] W0 := by
  have hs : ps.set i p = ps := by
    apply List.ext_getElem?
    intro j
    by_cases hj : j = i
    · subst hj; rw [List.getElem?_set_self (List.getElem?_eq_some_iff.1 hp).1, hp]
    · rw [List.getElem?_set_ne (fun e => hj e.symm)]
  have hsep : ∀ q, w.heap.size ≤ q → Sepa b pv tv ev xs ys ps q := fun q hq => ⟨HW.book.clear_new hq, fun e => by have := (HW.prow.lt q e).2; omega, fun j x hx hf => by have := ((HW.mem j x hx).1.lt q hf).2; omega⟩
  exact ⟨tv, ev, xs, ys, p, by rw [hs]; exact HW.below hB, ⟨rfl, rfl⟩, ⟨r, HX.1, by omega⟩, HY.1, k0, k1, by rw [hs]; exact hsep _ (Nat.le_refl _), by rw [hs]; exact hsep _ (by omega), rfl, fun D hD => (by cases hD), List.nodup_nil⟩
theorem AgainI.drew {crash : Bool} {most : Int} {w0 : World} {b : Nat} {pv : Value} {ps : List PS} {i : Nat} {p : PS} {r r2 : Nat} {w : World} {k : Nat} {Ds : List Nat} {W : World} (h : AgainI crash most w0 b pv ps i p r r2 w k Ds W) : AgainI crash most w0 b pv ps i p r r2 w k Ds W.drew := by
  obtain ⟨tv, ev, xs, ys, p', h⟩ := h
  exact ⟨tv, ev, xs, ys, p', h.ok.below ((Below.refl _ W).drew), h.P, h.nx, h.ny, h.b0, h.b1, h.s0, h.s1, h.len, h.ds, h.nd⟩
theorem Sepa.turn {b : Nat} {pv tv ev : Value} {xs ys : List Value} {ps : List PS} {i q : Nat} {p p' : PS} {W W' : World} (h : Sepa b pv tv ev xs ys ps q) (hp : ps[i]? = some p) (hm : Moved W W' p.r.foot p'.r.foot) (hq : q < W.heap.size) : Sepa b pv tv ev xs ys (ps.set i p') q := by
  refine ⟨h.1, h.2.1, fun j x hx hf => ?_⟩
  by_cases hj : j = i
  · subst hj
    rw [List.getElem?_set_self (List.getElem?_eq_some_iff.1 hp).1] at hx
    cases hx
    rcases hm.sub q hf with h1 | h1
    · exact h.2.2 j p hp h1
    · omega
  · rw [List.getElem?_set_ne (fun e => hj e.symm)] at hx
    exact h.2.2 j x hx hf
/- Append, as the world has it -/
theorem append_world (crash : Bool) (most : Int) (w0 : World) (b : Nat) (w : World) (pv tv ev : Value) (xs ys : List Value) (ps : List PS) (i : Nat) (p : PS) (v : Int) (a : Option Addr) (cap : Nat) (ls : List Item) (hmost : crash = decide (7 ≤ most)) (HW : WorldOk crash most w0 b w pv tv ev xs ys ps) (hp : ps[i]? = some p)
    (hE : EvsAt w a ls) (hl : ls.length ≤ 100000000) (hT : ∀ it ∈ ls, ItemOk w0 it ∧ ∀ q off, 0 < it.ev.tags.length → it.at' = some ⟨q, off, none⟩ → q < w0.heap.size) (hA : ∀ q off, 0 < ls.length → a = some ⟨q, off, none⟩ → ¬ p.r.foot q) :
    Calls Tryz.prog 12 #[.pointer (some ⟨b, 0, none⟩), .pointer (some ⟨p.r.P, 0, none⟩), .int .i64 v, .slice a ls.length cap] w fun e w' => e = .returned (.bool true) ∧ ∃ p' : PS, (p'.r.P = p.r.P ∧ p'.r.p = p.r.p) ∧ Hid (WorldOk crash most w0 b w' pv tv ev xs ys (ps.set i p')) ∧ Hid (Moved w w' p.r.foot p'.r.foot) ∧ Hid (Kept p.r.ev p.r.js w w') ∧ Hid (evs p'.r.its = appEvs v (evs p.r.its) (evs ls)) := by
  have hc3 : w.cell? ⟨b, 3, none⟩ = some (.int .i64 most) := by have h9 := HW.book.blk; simp [World.cell?, h9]
  refine (appended_any crash most b w0 w w0.heap.size p.r p.C0 p.D v a cap ls (hide0 (HW.mem i p hp).1) (hide0 (HW.mem i p hp).2) hmost hc3 (hide0 fun hf => (HW.sep i p b hp hf).1.1 rfl) (hide0 hE) hl (hide0 hT) (hide0 hA)).mono ?_
  rintro e w' ⟨rfl, r', D', HR, HM, HK⟩
  exact ⟨rfl, ⟨r', p.C0, D'⟩, HR.out.P, hide0 (HW.turn (p' := ⟨r', p.C0, D'⟩) hp HM.out HR.out.mem HR.out.log HR.out.P.1), HM, HK, hide0 HR.out.evs⟩
def moreB : ByteArray := ⟨#[109, 111, 114, 101]⟩
def moreIt : Item := ⟨⟨4, moreB, 0, ⟨#[]⟩, []⟩, none, 0⟩
theorem more_ok (w : World) : ItemOk w moreIt ∧ ∀ q off, 0 < moreIt.ev.tags.length → moreIt.at' = some ⟨q, off, none⟩ → q < w.heap.size :=
  ⟨⟨fun h => by simp [moreIt] at h, fun i hi => by simp [moreIt] at hi, by simp [moreIt], by show (4 : Nat) ≤ maxLen; decide, by show (0 : Nat) ≤ maxLen; decide⟩, fun q off h _ => by simp [moreIt] at h⟩
theorem more_at (w : World) : EvsAt (w.alloc (.cells #[.int .i64 4, .string ⟨#[109, 111, 114, 101]⟩, .int .i64 0, .string ⟨#[]⟩, .slice none 0 0] 38)) (some ⟨w.heap.size, 0, none⟩) [moreIt] := by
  intro _
  refine ⟨w.heap.size, 0, rfl, fun k i hk => ?_⟩
  have hk0 : k = 0 := by have := (List.getElem?_eq_some_iff.1 hk).1; simp at this; omega
  subst hk0
  simp only [List.getElem?_cons_zero, Option.some.injEq] at hk
  subst hk
  obtain ⟨c0, c1, c2, c3, c4, _⟩ := res_cells (heap_alloc_new w (.cells #[.int .i64 4, .string ⟨#[109, 111, 114, 101]⟩, .int .i64 0, .string ⟨#[]⟩, .slice none 0 0] 38))
  exact ⟨⟨c0, c1, c2, c3, c4⟩, (more_ok _).1⟩
theorem AgainW.more {crash : Bool} {most : Int} {w0 : World} {b : Nat} {pv : Value} {ps : List PS} {i : Nat} {p : PS} {r r2 : Nat} {w : World} {k : Nat} {Ds : List Nat} {W : World} {tv ev : Value} {xs ys : List Value} {p1 : PS} (h : AgainW crash most w0 b pv ps i p r r2 w k Ds W tv ev xs ys p1) (hil : i < ps.length) (hmost : crash = decide (7 ≤ most)) :
    Calls Tryz.prog 12 #[.pointer (some ⟨b, 0, none⟩), .pointer (some ⟨p.r.P, 0, none⟩), .int .i64 2, .slice (some ⟨W.heap.size, 0, none⟩) 1 1] (W.alloc (.cells #[.int .i64 4, .string ⟨#[109, 111, 114, 101]⟩, .int .i64 0, .string ⟨#[]⟩, .slice none 0 0] 38)) fun e w' => e = .returned (.bool true) ∧ ∃ p2, Hid (AgainW crash most w0 b pv ps i p r r2 w k Ds w' tv ev xs ys p2) := by
  have hb : Below W.heap.size W (W.alloc (.cells #[.int .i64 4, .string ⟨#[109, 111, 114, 101]⟩, .int .i64 0, .string ⟨#[]⟩, .slice none 0 0] 38)) := (Below.refl _ _).alloc (Nat.le_refl _) _
  have hp1 : (ps.set i p1)[i]? = some p1 := List.getElem?_set_self hil
  have hO := h.ok.below hb
  have hC := append_world crash most w0 b _ pv tv ev xs ys (ps.set i p1) i p1 2 (some ⟨W.heap.size, 0, none⟩) 1 [moreIt] hmost hO hp1 (more_at W) (by simp) (fun it hi => by simp only [List.mem_singleton] at hi; subst hi; exact more_ok w0) (fun q off _ e hf => by
    cases e
    have := ((h.ok.mem i p1 hp1).1.lt _ hf).2
    omega)
  rw [h.P.1] at hC
  refine hC.mono ?_
  rintro e w' ⟨rfl, p2, hP, HW2, HM, _, _⟩
  rw [List.set_set] at HW2
  have hs := HM.out.size
  rw [World.size_alloc] at hs
  have hsame : ∀ q, q < W.heap.size → ¬ p1.r.foot q → w'.heap[q]? = W.heap[q]? := fun q hq hn => (HM.out.block q (by rw [World.size_alloc]; omega) hn).trans (hb.block q hq)
  have hl0 := (Array.getElem?_eq_some_iff.1 h.b0).1
  have hl1 := (Array.getElem?_eq_some_iff.1 h.b1).1
  have t0 := h.s0.turn (i := i) (p := p1) (p' := p2) hp1 HM.out (by rw [World.size_alloc]; omega)
  have t1 := h.s1.turn (i := i) (p := p1) (p' := p2) hp1 HM.out (by rw [World.size_alloc]; omega)
  rw [List.set_set] at t0 t1
  refine ⟨rfl, p2, HW2.out, ⟨hP.1, hP.2.trans h.P.2⟩, h.nx, h.ny, (hsame _ hl0 (h.s0.2.2 i p1 hp1)).trans h.b0, (hsame _ hl1 (h.s1.2.2 i p1 hp1)).trans h.b1, t0, t1, h.len, fun D hD => ?_, h.nd⟩
  obtain ⟨d1, d2, d3⟩ := h.ds D hD
  exact ⟨(hsame D (Array.getElem?_eq_some_iff.1 d1).1 (fun hf => by have := (h.ok.mem i p1 hp1).1.cells hf d1; cases this)).trans d1, d2, d3⟩
theorem AgainW.kept {crash : Bool} {most : Int} {w0 : World} {b : Nat} {pv : Value} {ps : List PS} {i : Nat} {p : PS} {r r2 : Nat} {w : World} {k : Nat} {Ds : List Nat} {v W w' : World} {tv ev tv' ev' : Value} {xs ys xs' ys' : List Value} {p2 : PS} {lv : Value} {js : List Item} {N D rr : Nat} (h : AgainW crash most w0 b pv ps i p r r2 w k Ds v tv ev xs ys p2) (hb : Below v.heap.size v W) (ho : MadeO N W lv js) (hN : v.heap.size ≤ N) (h200 : js.length ≤ 200) (hrr : xs.length = 4 * rr ∧ rr ≤ r + 200 * k)
    (hD : v.heap.size ≤ D) (hdef : W.heap[D]? = some (.deferred (some []))) (h1 : WorldOk crash most w0 b w' pv tv' ev' xs' ys' (ps.set i p2)) (h2 : xs'.length = 4 * (rr + js.length) ∧ ys'.length = 4 * (r2 + k + 1)) (h3 : ∀ q, q < W.heap.size → Clear b tv ev xs ys q → lv.ownBlock ≠ some q → q ∉ tagBs js → w'.heap[q]? = W.heap[q]? ∧ Clear b tv' ev' xs' ys' q) :
    AgainW crash most w0 b pv ps i p r r2 w (k + 1) (D :: Ds) w' tv' ev' xs' ys' p2 := by
  have hs := hb.size
  have hlow : ∀ q, q < v.heap.size → lv.ownBlock ≠ some q ∧ q ∉ tagBs js := fun q hq => ⟨fun e => by have := (ho.row.lt q e).1; omega, fun e => by have := (ho.tag_lt e).1; omega⟩
  have hold : ∀ q o, v.heap[q]? = some o → Clear b tv ev xs ys q → w'.heap[q]? = some o ∧ Clear b tv' ev' xs' ys' q := fun q o hq hc => by
    have hl := (Array.getElem?_eq_some_iff.1 hq).1
    obtain ⟨e1, e2⟩ := h3 q (by omega) hc (hlow q hl).1 (hlow q hl).2
    exact ⟨e1.trans ((hb.block q hl).trans hq), e2⟩
  have hDs := h3 D (Array.getElem?_eq_some_iff.1 hdef).1 (h.ok.book.clear_new hD) (fun e => by have := own_isC ho.row e hdef; cases this) (fun e => by
    obtain ⟨it, hi2, e2⟩ := tagBs_mem.1 e
    have := own_isC (ho.tags it hi2) e2 hdef; cases this)
  refine ⟨h1, h.P, ⟨rr + js.length, h2.1, by omega⟩, by rw [h2.2]; omega, (hold _ _ h.b0 h.s0.1).1, (hold _ _ h.b1 h.s1.1).1, ⟨(hold _ _ h.b0 h.s0.1).2, h.s0.2⟩, ⟨(hold _ _ h.b1 h.s1.1).2, h.s1.2⟩, by simp [h.len], fun D' hD' => ?_, List.nodup_cons.2 ⟨fun hin => ?_, h.nd⟩⟩
  · rcases List.mem_cons.1 hD' with rfl | hD'
    · exact ⟨hDs.1.trans hdef, hDs.2, by have := h.ok.args.size; omega⟩
    · obtain ⟨d1, d2, d3⟩ := h.ds D' hD'
      obtain ⟨e1, e2⟩ := hold D' _ d1 d2
      exact ⟨e1, e2, d3⟩
  · have := (Array.getElem?_eq_some_iff.1 (h.ds D hin).1).1
    omega
end Go.Proofs.YtdjllnhahhjgmaaGreat
namespace Go.Proofs.YtdjllnhahhjgmaaGreat
open Go.RowKit Go.Shelf Chron
attribute [local go_sem] Oper.semAt_some
set_option maxRecDepth 100000 in
set_option maxHeartbeats 4000000 in
theorem again_any (crash : Bool) (most : Int) (w0 : World) (b : Nat) (w : World) (pv tv ev : Value) (xs0 ys : List Value) (ps : List PS) (i : Nat) (p : PS) (r r2 : Nat) (hmost : crash = decide (7 ≤ most)) (HW : Hid (WorldOk crash most w0 b w pv tv ev xs0 ys ps)) (hp : Hid (ps[i]? = some p)) (HX : Hid (xs0.length = 4 * r ∧ r + 400 ≤ 500000000)) (HY : Hid (ys.length = 4 * r2 ∧ r2 + 2 ≤ 500000000)) :
    Calls Tryz.prog 15 #[.pointer (some ⟨b, 0, none⟩), .pointer (some ⟨p.r.P, 0, none⟩)] w fun e w' => e = .returned (.bool true) ∧ ∃ tv' ev' xs' ys' p', p'.r.P = p.r.P ∧ Hid (WorldOk crash most w0 b w' pv tv' ev' xs' ys' (ps.set i p')) ∧ Hid (xs'.length ≤ 4 * (r + 400) ∧ ∃ r', xs'.length = 4 * r') ∧ Hid (ys'.length = 4 * (r2 + 2)) := by
  have HP := hide0 (HW.out.mem i p hp.out).1
  have HL := hide0 (HW.out.mem i p hp.out).2
  obtain ⟨i0, hi, hz0, hz1, hz2⟩ := info_parts infoEvent5
  have hnil : ∀ (q : Nat) (w' : World), Sem.run Tryz.prog (binOp BinOp.eql 58 (Value.func (Fn.func 34) #[] #[.pointer (some ⟨q, 0, none⟩)]) Value.nilFunc) w' = .ok (.bool false) w' := fun q w' => by kernel_rfl
  have hPlt := (HP.out.lt p.r.P (.inl rfl)).2
  refine (callsIn_wide (n := 0)).1 (callsIn_of_wp_marks Tryz.func15 rfl trivial ?_)
  simp only [Tryz.ntmps15, List.size_toArray, List.length_cons, List.length_nil, Nat.reduceAdd, Nat.reduceSub, Array.replicate_succ, Array.replicate_zero, List.push_toArray, List.append_toArray, List.nil_append, List.cons_append]
  have a0 : (w.alloc (.cells #[.pointer (some ⟨p.r.P, 0, none⟩)] 42)).cell? ⟨p.r.P, 0, none⟩ = some (.pointer (some ⟨p.r.p, 0, none⟩)) := (five_cells ((Below.heap_alloc _ _ _ hPlt).trans HP.out.blk)).1
  gi_wp2_with fail
  refine ⟨trivial, rfl, (callsIn_wide.2 (seq_any p.r.p _)).mono ?_⟩
  rintro e w' ⟨rfl, rfl⟩
  gi_wp2_with fail
  have hB0 : Below w.heap.size w ((w.alloc (.cells #[.pointer (some ⟨p.r.P, 0, none⟩)] 42)).alloc (.cells #[.pointer (some ⟨p.r.p, 0, none⟩)] 47)) := ((Below.refl _ w).alloc (Nat.le_refl _) _).alloc (by simp only [World.size_alloc]; omega) _
  have k0 := (Below.heap_alloc (w.alloc (.cells #[.pointer (some ⟨p.r.P, 0, none⟩)] 42)) (.cells #[.pointer (some ⟨p.r.p, 0, none⟩)] 47) w.heap.size (by simp)).trans (heap_alloc_new w _)
  have k1 := heap_alloc_new (w.alloc (.cells #[.pointer (some ⟨p.r.P, 0, none⟩)] 42)) (.cells #[.pointer (some ⟨p.r.p, 0, none⟩)] 47)
  rw [World.size_alloc] at k1
  generalize ((w.alloc (.cells #[.pointer (some ⟨p.r.P, 0, none⟩)] 42)).alloc (.cells #[.pointer (some ⟨p.r.p, 0, none⟩)] 47)) = W0 at *
  refine wpIn_loop (fun a' W => ∃ (k : Nat) (Ds : List Nat) (u7 u8 u9 u10 u11 u12 u20 u21 u22 u23 u24 u25 u26 u27 u28 u29 u30 u31 u32 u33 u34 u35 u36 u37 u38 u39 u40 u41 u42 u43 u44 u45 u46 u47 u48 u49 u50 u51 u52 u53 u54 u55 u56 u57 u58 u59 u60 u61 u62 u63 u64 u65 u66 u67 u68 u69 u70 u71 u72 u73 u74 u75 u76 u77 u78 u79 : Value), k ≤ 2 ∧ Hid (AgainI crash most w0 b pv ps i p r r2 w k Ds W) ∧ a' = { tmps := #[.pointer (some ⟨b, 0, none⟩), .pointer (some ⟨p.r.P, 0, none⟩), undef, .pointer (some ⟨w.heap.size, 0, none⟩), .bool false, (.func (.func 34) #[] #[.pointer (some ⟨w.heap.size + 1, 0, none⟩)]), .int .i64 (k : Int), u7, u8, u9, u10, u11, u12, .pointer (some ⟨p.r.P, 0, none⟩), .pointer (some ⟨p.r.P, 0, none⟩), .pointer (some ⟨p.r.P, 0, none⟩), .pointer (some ⟨p.r.p, 0, none⟩), (.func (.func 34) #[] #[.pointer (some ⟨w.heap.size + 1, 0, none⟩)]), (.func (.func 34) #[] #[.pointer (some ⟨w.heap.size + 1, 0, none⟩)]), .bool false, u20, u21, u22, u23, u24, u25, u26, u27, u28, u29, u30, u31, u32, u33, u34, u35, u36, u37, u38, u39, u40, u41, u42, u43, u44, u45, u46, u47, u48, u49, u50, u51, u52, u53, u54, u55, u56, u57, u58, u59, u60, u61, u62, u63, u64, u65, u66, u67, u68, u69, u70, u71, u72, u73, u74, u75, u76, u77, u78, u79], defers := Ds.map fun D => { target := .collected D, args := #[] } }) (fun a' _ => 2 - (intOf (a'.tmps.getD 6 undef)).toNat) ⟨0, [], _, _, _, _, _, _, _, _, _, _, _, _, _, _, _, _, _, _, _, _, _, _, _, _, _, _, _, _, _, _, _, _, _, _, _, _, _, _, _, _, _, _, _, _, _, _, _, _, _, _, _, _, _, _, _, _, _, _, _, _, _, _, _, _, _, _, by omega, AgainI.start HW.out hp.out HX.out HY.out hB0 k0 k1, rfl⟩ ?_
  rintro a' Wk ⟨k, Ds, u7, u8, u9, u10, u11, u12, u20, u21, u22, u23, u24, u25, u26, u27, u28, u29, u30, u31, u32, u33, u34, u35, u36, u37, u38, u39, u40, u41, u42, u43, u44, u45, u46, u47, u48, u49, u50, u51, u52, u53, u54, u55, u56, u57, u58, u59, u60, u61, u62, u63, u64, u65, u66, u67, u68, u69, u70, u71, u72, u73, u74, u75, u76, u77, u78, u79, hk, HI, rfl⟩
  by_cases hlt : k < 2
  · obtain ⟨tv1, ev1, xs1, ys1, p1, hA1⟩ := HI.out
    have cP := (one_cell hA1.b0).1
    have hlti : (k : Int) < 2 := by omega
    have hil : i < ps.length := (List.getElem?_eq_some_iff.1 hp.out).1
    have hMo := hA1.more hil hmost
    clear HI hA1 hmost
    gi_wp2_with fail
    refine ⟨trivial, rfl, (callsIn_wide.2 hMo).mono ?_⟩
    rintro e v ⟨rfl, p2, HA2⟩
    clear hMo cP
    gi_wp2_with fail
    have hB0 : Below v.heap.size v (((v.alloc (.cells #[.bool true] 4)).alloc (.cells #[.int .i64 0] 3)).alloc (.cells #[.slice none 0 0] 33)) := (((Below.refl _ v).alloc (Nat.le_refl _) _).alloc (by simp only [World.size_alloc]; omega) _).alloc (by simp only [World.size_alloc]; omega) _
    have k3 := (Below.heap_alloc ((v.alloc (.cells #[.bool true] 4)).alloc (.cells #[.int .i64 0] 3)) (.cells #[.slice none 0 0] 33) v.heap.size (by simp only [World.size_alloc]; omega)).trans ((Below.heap_alloc (v.alloc (.cells #[.bool true] 4)) (.cells #[.int .i64 0] 3) v.heap.size (by simp only [World.size_alloc]; omega)).trans (heap_alloc_new v (.cells #[.bool true] 4)))
    have k2 := heap_alloc_new (v.alloc (.cells #[.bool true] 4)) (.cells #[.int .i64 0] 3)
    have k4 := heap_alloc_new ((v.alloc (.cells #[.bool true] 4)).alloc (.cells #[.int .i64 0] 3)) (.cells #[.slice none 0 0] 33)
    simp only [World.size_alloc] at k2 k4
    replace k2 := (Below.heap_alloc ((v.alloc (.cells #[.bool true] 4)).alloc (.cells #[.int .i64 0] 3)) (.cells #[.slice none 0 0] 33) (v.heap.size + 1) (by simp only [World.size_alloc]; omega)).trans k2
    have hsz0 : (((v.alloc (.cells #[.bool true] 4)).alloc (.cells #[.int .i64 0] 3)).alloc (.cells #[.slice none 0 0] 33)).heap.size = v.heap.size + 3 := by simp
    generalize (((v.alloc (.cells #[.bool true] 4)).alloc (.cells #[.int .i64 0] 3)).alloc (.cells #[.slice none 0 0] 33)) = W1 at *
    have hp2 : (ps.set i p2)[i]? = some p2 := List.getElem?_set_self hil
    have HP0 := HP
    clear HP HL
    have HP := hide0 (HA2.out.ok.mem i p2 hp2).1
    have HL := hide0 (HA2.out.ok.mem i p2 hp2).2
    obtain ⟨eP, ep⟩ := HA2.out.P
    obtain ⟨ea, ec, hevv, hE, hcap, h0⟩ := HP.out.arc.evs.at HP.out.arc.good
    have hlt2 := hlt
    clear hlt
    have hlt := HP.out.arc.lt
    have hl1 := (Array.getElem?_eq_some_iff.1 HA2.out.b1).1
    have hbox : W1.cell? ⟨w.heap.size + 1, 0, none⟩ = some (.pointer (some ⟨p2.r.p, 0, none⟩)) := by
      have h9 := (hB0.block _ hl1).trans HA2.out.b1
      rw [ep]; simp only [World.cell?, h9]; rfl
    have hab := (HP.out.below hB0).arc.blk
    rw [hevv] at hab
    refine wp_tells (gf := 34) (lb := #[.pointer (some ⟨w.heap.size + 1, 0, none⟩)]) rfl (enters_of Tryz.func34 (by kernel_rfl) rfl)
      (tells_any p2.r.p (w.heap.size + 1) p2.r.fv ea ec p2.r.js W1 hbox hab (hE.below hB0 (Nat.le_refl _)) h0 HP.out.arc.good HP.out.arc.few) (Below.refl _ _) (fun _ => rfl) Kept.trans (fun W l o o' _ hl ho => Kept.put o' hl ho)
      (fun c xs m W => c = none ∧ OutAt (v.heap.size + 1 + 1) m v W (toldEvs xs) ∧ W.heap[v.heap.size + 1]? = some (.cells #[.int .i64 (xs.length : Int)] 3) ∧ W.heap[v.heap.size]? = some (.cells #[.bool true] 4))
      (fun xs x a' W => ∃ m E, OutAt (v.heap.size + 1 + 1) m v W (toldEvs xs) ∧ W.heap[v.heap.size + 1]? = some (.cells #[.int .i64 (xs.length : Int)] 3) ∧ W.heap[v.heap.size]? = some (.cells #[.bool true] 4) ∧ ownTold x m W ∧ someTold (evs p2.r.js) (xs ++ [x]) ∧ v.heap.size + 3 ≤ E ∧ W.heap[E]? = some (.cells #[.int .i64 x.it.ev.kind, .string x.it.ev.task, .int .i64 x.it.ev.time, .string x.it.ev.body, .slice x.it.at' x.it.ev.tags.length x.it.cap] 38) ∧
        a' = { tmps := #[.pointer (some ⟨b, 0, none⟩), .pointer (some ⟨p.r.P, 0, none⟩), undef, .pointer (some ⟨w.heap.size, 0, none⟩), .bool false, (.func (.func 34) #[] #[.pointer (some ⟨w.heap.size + 1, 0, none⟩)]), .int .i64 (k : Int), .bool true, .pointer (some ⟨v.heap.size, 0, none⟩), .pointer (some ⟨v.heap.size + 1, 0, none⟩), .pointer (some ⟨v.heap.size + 1 + 1, 0, none⟩), .int .i64 x.i, .pointer (some ⟨E, 0, none⟩), .pointer (some ⟨p.r.P, 0, none⟩), .pointer (some ⟨p.r.P, 0, none⟩), .pointer (some ⟨p.r.P, 0, none⟩), .pointer (some ⟨p.r.p, 0, none⟩), (.func (.func 34) #[] #[.pointer (some ⟨w.heap.size + 1, 0, none⟩)]), (.func (.func 34) #[] #[.pointer (some ⟨w.heap.size + 1, 0, none⟩)]), .bool false, .int .i64 (k : Int), .bool true, u22, u23, .pointer (some ⟨b, 0, none⟩), .pointer (some ⟨p.r.P, 0, none⟩), .agg #[.int .i64 4, .string ⟨#[109, 111, 114, 101]⟩, .int .i64 0, .string ⟨#[]⟩, .slice none 0 0], .slice (some ⟨Wk.heap.size, 0, none⟩) 1 1, .bool true, .bool true, (.func (.func 34) #[] #[.pointer (some ⟨w.heap.size + 1, 0, none⟩)]), .int .i64 x.i, x.it.val, u33, u34, u35, u36, u37, u38, u39, u40, u41, u42, u43, u44, u45, u46, u47, u48, u49, u50, u51, u52, u53, u54, u55, u56, u57, u58, u59, u60, u61, u62, u63, u64, u65, u66, u67, u68, u69, u70, u71, u72, u73, u74, u75, u76, u77, u78, u79], defers := [] })
      ?hI ?hAx ?start ?assign ?body ?done ?stop
    case hI =>
      rintro c xs m W W' row ⟨h1, h2, h4, h5⟩ hg hr
      have hr' : ∀ r, row = some r → ∃ o : Obj, W.heap[r]? = some o ∧ o.isCells = false := fun r e => (hr r e).2
      exact ⟨h1, OutAt.abide (L := W1.heap.size) (by omega) W W' row h2 hg hr, (abide_block hg hr' h4).trans h4, (abide_block hg hr' h5).trans h5⟩
    case hAx =>
      rintro xs x a' W W' row ⟨m, E, h1, h3, h4, h5, h6, h7, h8, h9⟩ hg hr
      have hr' : ∀ r, row = some r → ∃ o : Obj, W.heap[r]? = some o ∧ o.isCells = false := fun r e => (hr r e).2
      exact ⟨m, E, OutAt.abide (L := W1.heap.size) (by omega) W W' row h1 hg hr, (abide_block hg hr' h3).trans h3, (abide_block hg hr' h4).trans h4, own_abide hg hr' h5, h6, h7, (abide_block hg hr' h8).trans h8, h9⟩
    case start =>
      exact ⟨rfl, ⟨none, 0, [], k4, ⟨World.ownsRow_nil _ _ _ _, (fun _ h => by cases h), (fun _ h => by simp [tagBs] at h), by simp [tagBs]⟩, rfl, fun q hq => by simp [Value.ownBlock, tagBs] at hq, hB0, by omega, by omega⟩, k2, k3⟩
    case assign =>
      rintro l xs x m h W K ⟨_, hO, j2, j3⟩ hwh hmh hhW hH hSp hK
      obtain ⟨xi, ⟨⟨k, t, mm, bd, ts⟩, ia, ic⟩⟩ := x
      simp only [encTold, Item.val] at hK ⊢
      gi_wp2
      have hga : W.grownBy (W.alloc (.cells #[.int .i64 k, .string t, .int .i64 mm, .string bd, .slice ia ts.length ic] 38)) none := ⟨rfl, rfl, rfl, by simp, fun q hq _ => Below.heap_alloc _ _ _ hq⟩
      have hbl : ∀ {q : Nat} {o : Obj}, W.heap[q]? = some o → (W.alloc (.cells #[.int .i64 k, .string t, .int .i64 mm, .string bd, .slice ia ts.length ic] 38)).heap[q]? = some o := fun hq => (Below.heap_alloc _ _ _ (Array.getElem?_eq_some_iff.1 hq).1).trans hq
      refine hK _ _ ⟨by simp, fun q ob _ hob _ => hbl hob⟩ (Kept.below ((Below.refl _ _).alloc (Nat.le_refl _) _)) ⟨m, W.heap.size, OutAt.abide (L := W1.heap.size) (by omega) W _ none hO hga (fun r e => by cases e), hbl j2, hbl j3, ?_, hSp, by omega, heap_alloc_new W _, rfl⟩
      have h9 : W.ownsRow m 9 1 (.slice ia ts.length ic) ts.length (ts.map Value.string) := own_mono hH hmh
      exact h9.alloc _
    case body =>
      --[[
      rintro l xs x a' W ⟨m, E, hO, j2, j3, hH, hSp, hE5, hEv, rfl⟩
      obtain ⟨xi, ⟨⟨k, t, mm, bd, ts⟩, ia, ic⟩⟩ := x
      simp only at hEv
      obtain ⟨e0, e1, e2, e3, e4, ez⟩ := res_cells hEv
      obtain ⟨va, vc, js, o1, o2, o3, o4, o5, o6, o7⟩ := hO
      have cO : W.cell? ⟨v.heap.size + 1 + 1, 0, none⟩ = some (.slice va js.length vc) := by simp only [World.cell?, o1]; rfl
      have j0 := (o5.block w.heap.size (Array.getElem?_eq_some_iff.1 HA2.out.b0).1).trans HA2.out.b0
      have cP : W.cell? ⟨w.heap.size, 0, none⟩ = some (.pointer (some ⟨p.r.P, 0, none⟩)) := by simp only [World.cell?, j0]; rfl
      have cN : W.cell? ⟨v.heap.size + 1, 0, none⟩ = some (.int .i64 (xs.length : Int)) := by simp only [World.cell?, j2]; rfl
      have cK : W.cell? ⟨v.heap.size, 0, none⟩ = some (.bool true) := by simp only [World.cell?, j3]; rfl
      have fK : W.frozen? ⟨v.heap.size, 0, none⟩ = false := by simp [World.frozen?, j3]
      have fN : W.frozen? ⟨v.heap.size + 1, 0, none⟩ = false := by simp [World.frozen?, j2]
      have hPW := HP.out.below o5
      obtain ⟨l0, l1, l2, l3, l4, lz⟩ := five_cells hPW.blk
      rw [eP] at l1
      have HXI : Hid (xi = xs.length) := hSp.2.2 xs.length ⟨xi, ⟨⟨k, t, mm, bd, ts⟩, ia, ic⟩⟩ (by simp)
      have hxi := HXI.out
      subst hxi
      obtain ⟨la, lc, hlv, hlcap, hLE⟩ := hPW.evsAt2 (HA2.out.ok.args.below o5 HA2.out.ok.args.size)
      rw [hlv] at l1
      have hjs : (evs p2.r.js).length = p2.r.its.length := by have := congrArg List.length HL.out.same; simpa [evs] using this.symm
      have hxl : xs.length < p2.r.its.length := by have := hSp.2.1; simp at this; omega
      have hxli : (xs.length : Int) < (p2.r.its.length : Int) := by omega
      clear l0 l2 l3 l4 lz hE h0
      have hmx : Tryz.prog.follows .mixedOrders = true := by kernel_rfl
      gi_wp2_with fail
      gi_cut [] from 33 (fun wx => Hid (Below W.heap.size W wx))
      case first =>
        --[
        clear hnil hi hz0 hz1 hz2 hab hbox k2 k3 k4 hH o1 o2 o3 o4 o5 o6 o7 cO fN j0 j2 j3 hEv ez hlt hB0 hsz0 hSp hLE hPW e0 e1 e2 e3 e4 HA2 HW HX HY HP HL HP0 hp hevv hcap hlv hlcap hjs hE5
        gi_region_o
        all_goals
          gi_wp2_with fail
          gi_meet
          case rel => first | exact hide0 (same_set cK) | exact hide0 (same_set cK).drew | exact hide0 ((Below.refl _ _).drew.trans (same_set cK))
        --]
      case rest =>
        obtain ⟨W2, hW2⟩ : ∃ W2, W2 = wc := ⟨_, rfl⟩
        subst hW2
        have hgc := grown_below hcut.out (Nat.le_refl _)
        have hkf : Hid (KeepsFrom (v.heap.size + 3) W W2 ∧ Below v.heap.size W W2) := ⟨KeepsFrom.of_grownBy hgc (fun j e => by cases e), hcut.out.mono o5.size⟩
        have hsW := hcut.out.size
        replace o1 := grown_at hgc o1
        replace j0 := grown_at hgc j0
        replace j2 := grown_at hgc j2
        replace j3 := grown_at hgc j3
        replace hEv := grown_at hgc hEv
        replace o2 := o2.abide hgc (fun r e => by cases e)
        replace o5 := o5.trans (hcut.out.mono o5.size)
        replace hH : W2.ownsRow m 9 1 (.slice ia ts.length ic) ts.length (ts.map Value.string) := own_abide hgc (fun r e => by cases e) hH
        replace hLE := hLE.below hcut.out (Nat.le_refl _)
        replace l1 := (hcut.out.cell (p := ⟨p.r.P, 1, none⟩) (World.block_lt_of_cell? W _ l1)).trans l1
        clear e0 e1 e2 e3 e4 ez cO cP cN cK fK fN hgc hcut hPW
        obtain ⟨e0, e1, e2, e3, e4, ez⟩ := res_cells hEv
        have cO : W2.cell? ⟨v.heap.size + 1 + 1, 0, none⟩ = some (.slice va js.length vc) := by simp only [World.cell?, o1]; rfl
        have cP : W2.cell? ⟨w.heap.size, 0, none⟩ = some (.pointer (some ⟨p.r.P, 0, none⟩)) := by simp only [World.cell?, j0]; rfl
        have cN : W2.cell? ⟨v.heap.size + 1, 0, none⟩ = some (.int .i64 (xs.length : Int)) := by simp only [World.cell?, j2]; rfl
        have cK : W2.cell? ⟨v.heap.size, 0, none⟩ = some (.bool true) := by simp only [World.cell?, j3]; rfl
        have fK : W2.frozen? ⟨v.heap.size, 0, none⟩ = false := by simp [World.frozen?, j3]
        have fN : W2.frozen? ⟨v.heap.size + 1, 0, none⟩ = false := by simp [World.frozen?, j2]
        have hev : (evs p2.r.its)[xs.length]? = some ⟨k, t, mm, bd, ts⟩ := by
          have h9 := congrArg (fun l => l[xs.length]?) hSp.1
          rw [HL.out.same]
          simp [toldEvs] at h9
          simpa using h9.symm
        obtain ⟨lb, lo, ta, tc, rfl, f0, f1, f2, f3, f4, hSame⟩ := round_same (K := v.heap.size) hLE hev hH cK fK
        clear hev
        gi_upto_if 48 with fail
        gi_cut [] from 33 (fun wx => Hid (Below W2.heap.size W2 wx))
        case first =>
          --[
          clear hnil hi hz0 hz1 hz2 hab hbox k2 k3 k4 hH o1 o2 o3 o4 o5 o6 o7 cO fN j0 j2 j3 hEv ez hlt hB0 hsz0 hSp hLE HA2 HW HX HY HP HL HP0 hp hevv hcap hlv hlcap hjs hE5 hkf hsW
          gi_wp2_with fail
          gi_region_with_o (refine ⟨trivial, rfl, ?_⟩; gi_at_call 19; refine (CallsIn.inRound l (callsIn_wide.2 hSame)).mono ?_; rintro e w1 ⟨rfl, HB1, cK1, fK1⟩)
          all_goals
            gi_wp2_with fail
            gi_meet
            case rel => exact hide0 (HB1.out.trans (same_set cK1))
          --]
        case rest =>
          have hgd := grown_below hcut.out (Nat.le_refl _)
          have hkf2 : Hid (KeepsFrom (v.heap.size + 3) W wc ∧ Below v.heap.size W wc) := ⟨hkf.out.1.trans (KeepsFrom.of_grownBy hgd (fun j e => by cases e)), hkf.out.2.trans (hcut.out.mono (by have := o5.size; omega))⟩
          have hsW2 := hcut.out.size
          replace o1 := grown_at hgd o1
          replace j0 := grown_at hgd j0
          replace j2 := grown_at hgd j2
          replace j3 := grown_at hgd j3
          replace hEv := grown_at hgd hEv
          replace o2 := o2.abide hgd (fun r e => by cases e)
          replace o5 := o5.trans (hcut.out.mono o5.size)
          replace hH : wc.ownsRow m 9 1 (.slice ia ts.length ic) ts.length (ts.map Value.string) := own_abide hgd (fun r e => by cases e) hH
          clear e0 e1 e2 e3 e4 ez cO cP cN cK fK fN hgd hcut l1 hLE f0 f1 f2 f3 f4 hSame hkf
          obtain ⟨e0, e1, e2, e3, e4, ez⟩ := res_cells hEv
          have cO := (one_cell o1).1
          have hNew := five_new wc ⟨⟨k, t, mm, bd, ts⟩, ia, ic⟩
          have hrow := o2.row
          have hfew := HP.out.arc.few
          have hjl : js.length = xs.length := by have := congrArg List.length o3; simpa [evs, toldEvs] using this
          have hjs2 : js.length < 200 := by simp [evs] at hjs; omega
          have hBs := (Array.getElem?_eq_some_iff.1 o1).1
          have hbase : v.heap.size + 1 + 1 + 1 ≤ (wc.alloc (.cells #[.int .i64 k, .string t, .int .i64 mm, .string bd, .slice ia ts.length ic] 38)).heap.size := by simp; omega
          clear hjl
          gi_wp2_with (gi_at_builtin; refine wpListIn_append_lies _ rfl _ _ 33 rfl (v.heap.size + 1 + 1 + 1) 38 i0 (.agg #[.int .i64 0, .string ⟨#[]⟩, .int .i64 0, .string ⟨#[]⟩, .slice none 0 0]) 5 72 Tryz.underlying33 hi hz0 hz1 hz2 rfl (by decide) (.slice va js.length vc) js.length (fives js) rfl (hrow.alloc _) ⟨wc.heap.size, 0, none⟩ 1 1 (Item.five ⟨⟨k, t, mm, bd, ts⟩, ia, ic⟩) rfl rfl hNew (five_one _) Nat.one_pos (by unfold maxLen; omega) (by omega) hbase _ rfl ?_; intro g gcap wa hown hgr hat hlt2; obtain ⟨cB, czB⟩ := out_box o1 hrow hgr; obtain ⟨cN, fN⟩ := one_cell (low_box (q := v.heap.size + 1) (by omega) hrow hgr (by omega) j2))
          obtain ⟨F, hF, q1, q2, q3, q4, q5⟩ := OutAt.push2 (L := v.heap.size + 3) (Nb := v.heap.size + 1) (u := .int .i64 (xs.length : Int)) (v := .int .i64 (wrap64 ((xs.length : Int) + 1))) (i := ⟨⟨k, t, mm, bd, ts⟩, ia, ic⟩) o1 o2 o4 o5 o6 o7 hH hgr hown hat (by omega) ⟨_, j2⟩
          rw [← hF]
          have he : toldEvs (xs ++ [⟨xs.length, ⟨⟨k, t, mm, bd, ts⟩, ia, ic⟩⟩]) = evs js ++ [⟨k, t, mm, bd, ts⟩] := by rw [o3]; simp [toldEvs]
          refine ⟨hkf2.out.1.trans q2, Kept.far (hkf2.out.2.trans q3) (fun q hq => (hlt q (.inr (.inr (.inl (by rw [hevv]; exact hq))))).2) (fun q hq => (hlt q (.inr (.inr (.inr hq)))).2), rfl, ?_, ?_, (q4 _ (by omega) (by omega)).trans j3⟩
          · rw [he]; exact q1
          · rw [show (((xs ++ [(⟨xs.length, ⟨⟨k, t, mm, bd, ts⟩, ia, ic⟩⟩ : Told)]).length : Nat) : Int) = (xs.length : Int) + 1 by simp]
            have h9 : wrap64 ((xs.length : Int) + 1) = (xs.length : Int) + 1 := by have := HP.out.arc.few; have h8 := hjs; simp [evs] at h8; unfold wrap64; omega
            rw [← h9]
            exact q5 _ j2
      --]]
    case done =>
      --[[
      rintro D xs m W hD hS hm ⟨_, hO, j2, j3⟩ hdef
      obtain ⟨va, vc, js, o1, o2, o3, o4, o5, o6, o7⟩ := hO
      have cO := (one_cell o1).1
      have HW1 := hide0 (HA2.out.ok.below o5)
      have hjl : js.length = p2.r.its.length := by
        have h1 := congrArg List.length o3
        have h2 := congrArg List.length hS.1
        have h3 := congrArg List.length HL.out.same
        simp [evs, toldEvs] at h1 h2 h3; omega
      have hfew := HP.out.arc.few
      have hxl : xs.length = p2.r.its.length := by
        have h1 := congrArg List.length o3
        simp [evs, toldEvs] at h1; omega
      have h4 : Hid (∀ it ∈ js, it.ev.tags.length ≤ 4) := by
        intro it hit
        have h1 : it.ev ∈ evs js := List.mem_map_of_mem hit
        rw [o3, hS.1] at h1
        obtain ⟨it2, hi2, e2⟩ := List.mem_map.1 h1
        rw [← e2]
        exact (is_known (HP.out.arc.good it2 hi2)).few
      have hjs3 : js.length ≤ 200 := by
        have h3 := congrArg List.length HL.out.same
        simp [evs] at h3; omega
      have hlow : ∀ q, Value.ownBlock (.slice va js.length vc) = some q ∨ q ∈ tagBs js → v.heap.size + 3 ≤ q := fun q hq => by
        rcases hq with hq | hq
        · exact (o2.row.lt q hq).1
        · exact (o2.tag_lt hq).1
      obtain ⟨rr, hx1, hx2⟩ := HA2.out.nx
      have hK := book_keep (N := v.heap.size + 1 + 1 + 1) (r := rr) (r2 := r2 + k) HW1.out o2 (by have := HA2.out.ok.args.size; omega) (fun q hq => ⟨HA2.out.ok.book.clear_new (by have := hlow q hq; omega), fun e => by have := (HA2.out.ok.prow.lt q e).2; have := hlow q hq; omega, fun j x hx hf => by have := ((HA2.out.ok.mem j x hx).1.lt q hf).2; have := hlow q hq; omega⟩) hjs3 h4.out (by have := HX.out; omega) (by have := HY.out; have := HA2.out.ny; omega)
      have hKP : Calls Tryz.prog 22 #[.pointer (some ⟨b, 1, none⟩), .slice va js.length vc] W.drew fun e w' => e = .returned (.tuple #[]) ∧ Hid (AgainI crash most w0 b pv ps i p r r2 w (k + 1) (D :: Ds) w') ∧ w'.cell? ⟨w.heap.size, 0, none⟩ = some (.pointer (some ⟨p.r.P, 0, none⟩)) ∧ w'.cell? ⟨v.heap.size + 1, 0, none⟩ = some (.int .i64 (xs.length : Int)) ∧ w'.cell? ⟨v.heap.size, 0, none⟩ = some (.bool true) ∧ w'.cell? ⟨p.r.P, 1, none⟩ = some p2.r.lv := by
        refine hK.mono ?_
        rintro e w' ⟨rfl, tv', ev', xs', ys', h1, h2, h3⟩
        have hsame : ∀ q, v.heap.size ≤ q → q < v.heap.size + 3 → w'.heap[q]? = W.heap[q]? := fun q ha hb => (h3.out.2 q (by have := (Array.getElem?_eq_some_iff.1 o1).1; omega) (HA2.out.ok.book.clear_new ha) (fun e => by have := hlow q (.inl e); omega) (fun e => by have := hlow q (.inr e); omega)).1
        have hI := HA2.out.kept (D := D) o5 o2 (by omega) hjs3 ⟨hx1, hx2⟩ (by omega) hdef h1.out h2.out h3.out.2
        have hl1 := (five_cells (h1.out.mem i p2 hp2).1.blk).2.1
        rw [eP] at hl1
        exact ⟨rfl, ⟨tv', ev', xs', ys', p2, hI⟩, (one_cell hI.b0).1, (one_cell ((hsame _ (by omega) (by omega)).trans j2)).1, (one_cell ((hsame _ (by omega) (by omega)).trans j3)).1, hl1⟩
      have hxli : (xs.length : Int) = (p2.r.its.length : Int) := by omega
      obtain ⟨la, lc, hlv, hlcap⟩ : ∃ a c, p2.r.lv = .slice a p2.r.its.length c ∧ p2.r.its.length ≤ c := by
        rcases HP.out.row.2 with ⟨e1, e2⟩ | ⟨g, cap, _, e1, _, _, e3, _⟩
        · exact ⟨none, 0, by rw [e1, e2], by omega⟩
        · exact ⟨_, cap, e1, e3⟩
      rw [hlv] at hKP
      have hmx : Tryz.prog.follows .mixedOrders = true := by kernel_rfl
      clear hK hlow h4 HW1 o1 o2 o4 o5 o3 hjs3 hjl j2 j3 k2 k3 k4 hbox hab hE h0 hlt hB0 hnil hi hz0 hz1 hz2 hS hD hdef hm o6 o7 hx1 hx2
      gi_wp2_with fail
      first | gi_region_with_o (refine ⟨trivial, rfl, ?_⟩; gi_at_call 22; refine (callsIn_wide.2 hKP).mono ?_; rintro e w1 ⟨rfl, HZ, g0, g1, g2, g3⟩) | fail
      all_goals gi_wp2_with fail
      all_goals gi_region_o
      all_goals gi_wp2_with fail
      all_goals
        refine ⟨⟨k + 1, D :: Ds, _, _, _, _, _, _, _, _, _, _, _, _, _, _, _, _, _, _, _, _, _, _, _, _, _, _, _, _, _, _, _, _, _, _, _, _, _, _, _, _, _, _, _, _, _, _, _, _, _, _, _, _, _, _, _, _, _, _, _, _, _, _, _, _, _, _, by omega, ?_, rfl⟩, ?_⟩
        · first | exact HZ | exact hide0 HZ.out.drew
        · show 2 - (intOf (Value.int .i64 ((k : Int) + 1))).toNat < 2 - (intOf (Value.int .i64 (k : Int))).toNat
          simp only [intOf]
          omega
      --]]
    case stop =>
      rintro D c xs m W hD hS hm ⟨h, _⟩ _
      cases h
  · have hlti : ¬ (k : Int) < 2 := by omega
    obtain ⟨tv1, ev1, xs1, ys1, p1, hA1⟩ := HI.out
    have hk2 : k = 2 := by omega
    have hDl : Ds.length = 2 := by have := hA1.len; omega
    have HA1 := hide0 hA1
    clear hA1 HI hmost
    match Ds, hDl with
    | [D2, D1], _ =>
      have g2 := (HA1.out.ds D2 (by simp)).1
      have g1 := (HA1.out.ds D1 (by simp)).1
      have hne : D1 ≠ D2 := fun e => by have h9 := HA1.out.nd; rw [e] at h9; simp at h9
      have g3 : (Wk.putObj D2 (.deferred none)).heap[D1]? = some (.deferred (some [])) := (World.putObj_heap_other hne).trans g1
      gi_wp2_with fail
      refine ⟨by simp, .inl ⟨_, _, rfl, run_takeDeferred (by exact g2), ?_⟩⟩
      refine ⟨by simp, .inl ⟨_, _, rfl, run_takeDeferred (by exact g3), ?_⟩⟩
      refine ⟨_, results_tmp rfl _ _ _, rfl, tv1, ev1, xs1, ys1, p1, HA1.out.P.1, ?_, ?_, ?_⟩
      · have z1 := HA1.out.ok.other (grownBy_putObj' _ D2 (.deferred none)) g2 rfl (HA1.out.ds D2 (by simp)).2.1 (HA1.out.ds D2 (by simp)).2.2
        exact hide0 (z1.other (grownBy_putObj' _ D1 (.deferred none)) g3 rfl (HA1.out.ds D1 (by simp)).2.1 (HA1.out.ds D1 (by simp)).2.2)
      · obtain ⟨rr, q1, q2⟩ := HA1.out.nx
        exact hide0 ⟨by omega, rr, q1⟩
      · have q3 := HA1.out.ny
        exact hide0 (by rw [q3, hk2])
end Go.Proofs.YtdjllnhahhjgmaaGreat
