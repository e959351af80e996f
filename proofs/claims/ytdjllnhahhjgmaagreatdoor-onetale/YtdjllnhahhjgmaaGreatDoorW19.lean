/- Walks and plain facts, in the order in which they lean on one another. -/
import Derived.Test.YtdjllnhahhjgmaaGreatDoorW18
import Derived.RangeFuncBox
import Derived.Test.YtdjllnhahhjgmaaGreatDoorW03
namespace Go.Proofs.YtdjllnhahhjgmaaGreatDoor
open Go.RowKit Go.Shelf Chron
theorem wpListIn_append_lies {F : Fence} {nF : Nat} {P : Program} (w : World) {ops : Array Oper} {rest : List Oper} {o : Oper} {a : Act} {Q : Exit → Act → World → Prop} (hgd : o.guard = none) (s x : Operand) (t : TypeId)
    (ho : o.op = .call { callee := .builtin .append, args := #[s, x], argTypes := #[t, t] })
    (base : Nat) (e : TypeId) (i : TypeInfo) (z : Value) (size bytes : Nat) (ht : P.underlying t = some (.slice e)) (hi : P.info? e = some i) (hz : i.zero = some z)
    (hsize : i.size = size) (hby : i.bytes = bytes) (hzs : z.cells.size = size) (hsz : 0 < size)
    (v : Value) (n : Nat) (xs : List Value) (hs : a.eval s = v) (hown : w.ownsRow base e size v n xs)
    (ad : Addr) (m c : Nat) (news : List Value) (hx : a.eval x = .slice (some ad) m c) (hl : news.length = m * size) (hnews : ∀ j u, news[j]? = some u → w.cell? (ad.add j) = some u) (h1 : ∀ u ∈ news, u.oneCell' = true)
    (hm : 0 < m) (h63 : n + m ≤ maxLen) (hbytes : (n + m) * bytes ≤ 140737488355328) (hbase : base ≤ w.heap.size) (H : Nat) (hH : w.heap.size = H)
    (h : ∀ g cap w', w'.ownsRow base e size (.slice (some ⟨g, 0, none⟩) (n + m) cap) (n + m) (xs ++ news) → w.grownBy w' v.ownBlock → (v.ownBlock = some g ∨ g = H) → g < w'.heap.size → wpListIn F nF P ops Q rest (a.put o.dst (.slice (some ⟨g, 0, none⟩) (n + m) cap)) w') : wpListIn F nF P ops Q (o :: rest) a w := by
  refine wpListIn_plain hgd fun K hK => ?_
  obtain ⟨g, cap, w', hr, h2, h3, h4, h5⟩ := run_append_lies (P := P) w t o.type base e i z size bytes ht hi hz hsize hby hzs hsz v n xs hown ad m c news hl hnews h1 hm h63 hbytes hbase H hH
  unfold Oper.wpIn
  refine ⟨by simp [Oper.about, ho, resolve, Target.leads, Sem.run_pure], ?_⟩
  rw [Oper.semAt_plain F _ _ (by rw [ho]; intro c hc'; cases hc')]
  simp [execOp, ho, resolve, invoke, builtin, hs, hx, hr, Result.andThen]
  exact hK _ _ (h g cap w' h2 h3 h4 h5)
theorem abide_block {W W' : World} {row : Option Nat} (hg : W.grownBy W' row) (hr : ∀ r, row = some r → ∃ o : Obj, W.heap[r]? = some o ∧ o.isCells = false) {q : Nat} {cur : Array Value} {e : TypeId} {fz : Nat × Nat} (hq : W.heap[q]? = some (.cells cur e fz)) : W'.heap[q]? = W.heap[q]? :=
  hg.block q (Array.getElem?_eq_some_iff.1 hq).1 (fun er => by
    obtain ⟨o, h1, h2⟩ := hr q er.symm
    rw [hq] at h1
    cases h1
    simp [Obj.isCells] at h2)
theorem own_blk {w : World} {N e s n q : Nat} {v : Value} {xs : List Value} (h : w.ownsRow N e s v n xs) (hq : v.ownBlock = some q) : ∃ cur, w.heap[q]? = some (.cells cur e (0, 0)) := by
  rcases h.2 with ⟨rfl, _⟩ | ⟨g, cap, cur, rfl, _, hg, _⟩
  · simp [Value.ownBlock] at hq
  · simp only [Value.ownBlock, Option.some.injEq] at hq
    subst hq
    exact ⟨cur, hg⟩
theorem own_abide {W W' : World} {row : Option Nat} (hg : W.grownBy W' row) (hr : ∀ r, row = some r → ∃ o : Obj, W.heap[r]? = some o ∧ o.isCells = false) {N e s n : Nat} {v : Value} {xs : List Value} (h : W.ownsRow N e s v n xs) : W'.ownsRow N e s v n xs :=
  own_of_block h fun q hq => by
    obtain ⟨cur, hc⟩ := own_blk h hq
    exact abide_block hg hr hc
theorem MadeO.abide {W W' : World} {row : Option Nat} (hg : W.grownBy W' row) (hr : ∀ r, row = some r → ∃ o : Obj, W.heap[r]? = some o ∧ o.isCells = false) {N : Nat} {v : Value} {its : List Item} (h : MadeO N W v its) : MadeO N W' v its :=
  ⟨own_abide hg hr h.row, fun it hi => own_abide hg hr (h.tags it hi), h.apart, h.dist⟩
/- a list that is put together in a box: what lies in it lies ahead of m -/
def OutAt (B m : Nat) (w0 W : World) (l : List Ev) : Prop :=
  ∃ va vc its, W.heap[B]? = some (.cells #[.slice va its.length vc] 23) ∧ MadeO (B + 1) W (.slice va its.length vc) its ∧ evs its = l ∧ (∀ q, Value.ownBlock (.slice va its.length vc) = some q ∨ q ∈ tagBs its → q < m) ∧ Below w0.heap.size w0 W ∧ w0.heap.size ≤ B ∧ B < m
theorem OutAt.abide {B m L : Nat} {w0 : World} {l : List Ev} (hL : w0.heap.size ≤ L) : Abide L (fun W => OutAt B m w0 W l) := by
  rintro W W' row ⟨va, vc, its, h1, h2, h3, h4, h5, h6, h7⟩ hg hr
  have hr' : ∀ r, row = some r → ∃ o : Obj, W.heap[r]? = some o ∧ o.isCells = false := fun r e => (hr r e).2
  exact ⟨va, vc, its, (abide_block hg hr' h1).trans h1, h2.abide hg hr', h3, h4, ⟨hg.os.trans h5.os, hg.tape.trans h5.tape, hg.output.trans h5.output, Nat.le_trans h5.size hg.size, fun q hq => (hg.block q (Nat.lt_of_lt_of_le hq h5.size) (fun er => by have := (hr q er.symm).1; omega)).trans (h5.block q hq)⟩, h6, h7⟩
theorem Kept.far {ev : Value} {its : List Item} {W W' : World} {n : Nat} (h : Below n W W') (h1 : ∀ q, ev.ownBlock = some q → q < n) (h2 : ∀ q ∈ tagBs its, q < n) : Kept ev its W W' := by
  intro b o v hq hv
  have hb : b < n := by
    rcases hq with ⟨h, _⟩ | h
    · exact h1 b h
    · exact h2 b h
  exact (World.cell?_of_block (h.block b hb)).trans hv
theorem OutAt.push {B m L : Nat} {w0 W wa : World} {o : Obj} {g cap : Nat} {i : Item} {va : Option Addr} {vc : Nat} {its : List Item} (h1 : W.heap[B]? = some (.cells #[.slice va its.length vc] 23)) (h2 : MadeO (B + 1) W (.slice va its.length vc) its) (h4 : ∀ q, Value.ownBlock (.slice va its.length vc) = some q ∨ q ∈ tagBs its → q < m)
    (h5 : Below w0.heap.size w0 W) (h6 : w0.heap.size ≤ B) (h7 : B < m) (hi : W.ownsRow m 9 1 i.tv i.ev.tags.length (i.ev.tags.map Value.string)) (hgr : (W.alloc o).grownBy wa (Value.ownBlock (.slice va its.length vc)))
    (hown : wa.ownsRow (B + 1) 29 5 (.slice (some ⟨g, 0, none⟩) (its.length + 1) cap) (its.length + 1) (fives its ++ i.five)) (hat : Value.ownBlock (.slice va its.length vc) = some g ∨ g = (W.alloc o).heap.size) :
    OutAt B (wa.setCell ⟨B, 0, none⟩ (.slice (some ⟨g, 0, none⟩) (its.length + 1) cap)).heap.size w0 (wa.setCell ⟨B, 0, none⟩ (.slice (some ⟨g, 0, none⟩) (its.length + 1) cap)) (evs its ++ [i.ev]) ∧ KeepsFrom L W (wa.setCell ⟨B, 0, none⟩ (.slice (some ⟨g, 0, none⟩) (its.length + 1) cap)) ∧ Below w0.heap.size W (wa.setCell ⟨B, 0, none⟩ (.slice (some ⟨g, 0, none⟩) (its.length + 1) cap)) := by
  have hl : (its ++ [i]).length = its.length + 1 := by simp
  have hP := h2.push hi (by omega) (fun q hq => h4 q (.inl hq)) (fun q hq => h4 q (.inr hq)) hgr hown hat
  have hBs := (Array.getElem?_eq_some_iff.1 h1).1
  have hgs := hgr.size
  rw [World.size_alloc] at hgs
  have hws := h5.size
  have hrow := fun q (hq : Value.ownBlock (.slice va its.length vc) = some q) => h2.row.lt q hq
  have hwB : wa.heap[B]? = some (.cells #[.slice va its.length vc] 23) := (hgr.block B (by rw [World.size_alloc]; omega) (fun e => by have := (hrow B e.symm).1; omega)).trans ((Below.heap_alloc _ _ _ hBs).trans h1)
  have hfs : (wa.setCell ⟨B, 0, none⟩ (.slice (some ⟨g, 0, none⟩) (its.length + 1) cap)).heap.size = wa.heap.size := by simp [World.setCell]
  have hset : (wa.setCell ⟨B, 0, none⟩ (.slice (some ⟨g, 0, none⟩) (its.length + 1) cap)).heap[B]? = some (.cells #[.slice (some ⟨g, 0, none⟩) (its.length + 1) cap] 23) := by
    simp only [World.setCell, Array.getElem?_modify, if_true, hwB, Option.map_some]
    rfl
  have hoth : ∀ q, q ≠ B → (wa.setCell ⟨B, 0, none⟩ (.slice (some ⟨g, 0, none⟩) (its.length + 1) cap)).heap[q]? = wa.heap[q]? := fun q hq => Below.heap_setCell _ _ _ _ hq
  have hPF := hP.keep (w' := wa.setCell ⟨B, 0, none⟩ (.slice (some ⟨g, 0, none⟩) (its.length + 1) cap)) (fun q h1 _ => hoth q (by omega))
  have hbel : Below w0.heap.size W (wa.setCell ⟨B, 0, none⟩ (.slice (some ⟨g, 0, none⟩) (its.length + 1) cap)) := by
    refine ⟨hgr.os, hgr.tape, hgr.output, by omega, fun q hq => ?_⟩
    rw [hoth q (by omega), hgr.block q (by rw [World.size_alloc]; omega) (fun e => by have := (hrow q e.symm).1; omega), Below.heap_alloc _ _ _ (by omega)]
  refine ⟨⟨some ⟨g, 0, none⟩, cap, its ++ [i], by rw [hl]; exact hset, by rw [hl]; exact hPF, by simp [evs], fun q hq => ?_, h5.trans hbel, h6, by omega⟩, ⟨by omega, fun k ob hk hob hc => ?_⟩, hbel⟩
  · rw [hl] at hq
    rcases hq with hq | hq
    · exact (hPF.row.lt q hq).2
    · exact (hPF.tag_lt hq).2
  · have hkW := (Array.getElem?_eq_some_iff.1 hob).1
    have n1 : k ≠ B := fun e => by rw [e, h1] at hob; cases hob; simp [Obj.isCells] at hc
    have n2 : Value.ownBlock (.slice va its.length vc) ≠ some k := fun e => by
      obtain ⟨cur, hcur⟩ := own_blk h2.row e
      rw [hcur] at hob; cases hob; simp [Obj.isCells] at hc
    rw [hoth k n1, hgr.block k (by rw [World.size_alloc]; omega) (fun e => n2 e.symm), Below.heap_alloc _ _ _ hkW]
    exact hob
theorem out_box {B : Nat} {W wa : World} {o : Obj} {lv : Value} {n : Nat} {xs : List Value} (h1 : W.heap[B]? = some (.cells #[lv] 23)) (h2 : W.ownsRow (B + 1) 29 5 lv n xs) (hgr : (W.alloc o).grownBy wa lv.ownBlock) : wa.cell? ⟨B, 0, none⟩ = some lv ∧ wa.frozen? ⟨B, 0, none⟩ = false := by
  have hBs := (Array.getElem?_eq_some_iff.1 h1).1
  have h : wa.heap[B]? = some (.cells #[lv] 23) := (hgr.block B (by rw [World.size_alloc]; omega) (fun e => by have := (h2.lt B e.symm).1; omega)).trans ((Below.heap_alloc _ _ _ hBs).trans h1)
  simp [World.cell?, World.frozen?, h]
attribute [local go_sem] Oper.semAt_some
set_option maxRecDepth 100000 in
set_option maxHeartbeats 1000000 in
theorem told_any (N p : Nat) (fv ev : Value) (file : List UInt8) (its : List Item) (w : World) (hA : Hid (ArchO N p w fv ev file its)) :
    Calls Tryz.prog 17 #[.pointer (some ⟨p, 0, none⟩)] w fun e w' => ∃ (va : Option Addr) (vc : Nat) (js : List Item), e = .returned (.slice va js.length vc) ∧ Hid (MadeO w.heap.size w' (.slice va js.length vc) js) ∧ Hid (evs js = evs its) ∧ Hid (Below w.heap.size w w') := by
  obtain ⟨ea, ec, rfl, hE, hcap, h0⟩ := hA.out.evs.at hA.out.good
  obtain ⟨i0, hi, hz0, hz1, hz2⟩ := info_parts infoEvent5
  have hnil : ∀ w' : World, Sem.run Tryz.prog (binOp BinOp.eql 68 (Value.func (Fn.func 57) #[] #[.pointer (some ⟨w.heap.size, 0, none⟩)]) Value.nilFunc) w' = .ok (.bool false) w' := fun w' => by kernel_rfl
  have hlt := hA.out.lt
  refine (callsIn_wide (n := 0)).1 (callsIn_of_wp_marks Tryz.func17 rfl trivial ?_)
  simp only [Tryz.ntmps17, List.size_toArray, List.length_cons, List.length_nil, Nat.reduceAdd, Nat.reduceSub, Array.replicate_succ, Array.replicate_zero, List.push_toArray, List.append_toArray, List.nil_append, List.cons_append]
  gi_wp2_with fail
  refine ⟨trivial, rfl, (callsIn_wide.2 (seq_any p _)).mono ?_⟩
  rintro e w' ⟨rfl, rfl⟩
  gi_wp2_with fail
  have hB0 : Below w.heap.size w ((w.alloc (.cells #[.pointer (some ⟨p, 0, none⟩)] 46)).alloc (.cells #[.slice none 0 0] 23)) := ((Below.refl _ w).alloc (Nat.le_refl _) _).alloc (by simp) _
  have hbox : ((w.alloc (.cells #[.pointer (some ⟨p, 0, none⟩)] 46)).alloc (.cells #[.slice none 0 0] 23)).cell? ⟨w.heap.size, 0, none⟩ = some (.pointer (some ⟨p, 0, none⟩)) := by
    have h := (Below.heap_alloc (w.alloc (.cells #[.pointer (some ⟨p, 0, none⟩)] 46)) (.cells #[.slice none 0 0] 23) w.heap.size (by simp)).trans (heap_alloc_new w _)
    simp only [World.cell?, h]; rfl
  have hout : ((w.alloc (.cells #[.pointer (some ⟨p, 0, none⟩)] 46)).alloc (.cells #[.slice none 0 0] 23)).heap[w.heap.size + 1]? = some (.cells #[.slice none 0 0] 23) := by
    have := heap_alloc_new (w.alloc (.cells #[.pointer (some ⟨p, 0, none⟩)] 46)) (.cells #[.slice none 0 0] 23)
    rw [World.size_alloc] at this; exact this
  have hsz0 : ((w.alloc (.cells #[.pointer (some ⟨p, 0, none⟩)] 46)).alloc (.cells #[.slice none 0 0] 23)).heap.size = w.heap.size + 2 := by simp
  generalize ((w.alloc (.cells #[.pointer (some ⟨p, 0, none⟩)] 46)).alloc (.cells #[.slice none 0 0] 23)) = W0 at *
  have hA0 := hA.out.below hB0
  refine wp_tells (gf := 57) (lb := #[.pointer (some ⟨w.heap.size, 0, none⟩)]) rfl (enters_of Tryz.func57 (by kernel_rfl) rfl)
    (tells_any p w.heap.size fv ea ec its W0 hbox hA0.blk (hE.below hB0 (Nat.le_refl _)) h0 hA.out.good hA.out.few) (Below.refl _ _) (fun _ => rfl) Kept.trans (fun W l o o' _ hl ho => Kept.put o' hl ho)
    (fun c xs m W => c = none ∧ OutAt (w.heap.size + 1) m w W (toldEvs xs))
    (fun xs x a' W => ∃ m E, OutAt (w.heap.size + 1) m w W (toldEvs xs) ∧ ownTold x m W ∧ xs.length < its.length ∧ W.heap[E]? = some (.cells #[.int .i64 x.it.ev.kind, .string x.it.ev.task, .int .i64 x.it.ev.time, .string x.it.ev.body, .slice x.it.at' x.it.ev.tags.length x.it.cap] 29) ∧
      a' = { tmps := #[.pointer (some ⟨p, 0, none⟩), undef, .slice none 0 0, .func (.func 57) #[] #[.pointer (some ⟨w.heap.size, 0, none⟩)], .pointer (some ⟨w.heap.size + 1, 0, none⟩), undef, .pointer (some ⟨E, 0, none⟩), .pointer (some ⟨p, 0, none⟩), .func (.func 57) #[] #[.pointer (some ⟨w.heap.size, 0, none⟩)], .func (.func 57) #[] #[.pointer (some ⟨w.heap.size, 0, none⟩)], .bool false, undef, undef, .func (.func 57) #[] #[.pointer (some ⟨w.heap.size, 0, none⟩)], .int .i64 x.i, x.it.val, undef, undef, undef, undef, undef], defers := [] })
    ?hI ?hAx ?start ?assign ?body ?done ?stop
  case hI =>
    rintro c xs m W W' row ⟨h1, h2⟩ hg hr
    exact ⟨h1, OutAt.abide (L := W0.heap.size) (by omega) W W' row h2 hg hr⟩
  case hAx =>
    rintro xs x a' W W' row ⟨m, E, h1, h2, h3, h4, h5⟩ hg hr
    have hr' : ∀ r, row = some r → ∃ o : Obj, W.heap[r]? = some o ∧ o.isCells = false := fun r e => (hr r e).2
    exact ⟨m, E, OutAt.abide (L := W0.heap.size) (by omega) W W' row h1 hg hr, own_abide hg hr' h2, h3, (abide_block hg hr' h4).trans h4, h5⟩
  case start =>
    exact ⟨rfl, none, 0, [], hout, ⟨World.ownsRow_nil _ _ _ _, (fun _ h => by cases h), (fun _ h => by simp [tagBs] at h), by simp [tagBs]⟩, rfl, fun q hq => by simp [Value.ownBlock, tagBs] at hq, hB0, by omega, by omega⟩
  case assign =>
    rintro l xs x m h W K ⟨_, hO⟩ hwh hmh hhW hH hSp hK
    obtain ⟨xi, ⟨⟨k, t, mm, b, ts⟩, ia, ic⟩⟩ := x
    simp only [encTold, Item.val] at hK ⊢
    gi_wp2
    have hga : W.grownBy (W.alloc (.cells #[.int .i64 k, .string t, .int .i64 mm, .string b, .slice ia ts.length ic] 29)) none := ⟨rfl, rfl, rfl, by simp, fun q hq _ => Below.heap_alloc _ _ _ hq⟩
    refine hK _ _ ⟨by simp, fun q ob _ hob _ => (Below.heap_alloc _ _ _ (Array.getElem?_eq_some_iff.1 hob).1).trans hob⟩ (Kept.below ((Below.refl _ _).alloc (Nat.le_refl _) _)) ⟨m, W.heap.size, OutAt.abide (L := W0.heap.size) (by omega) W _ none hO hga (fun r e => by cases e), ?_, ?_, heap_alloc_new W _, rfl⟩
    · have h9 : W.ownsRow m 9 1 (.slice ia ts.length ic) ts.length (ts.map Value.string) := own_mono hH hmh
      exact h9.alloc _
    · have h9 := hSp.2.1
      simp [evs] at h9
      omega
  case body =>
    rintro l xs x a' W ⟨m, E, hO, hH, hlen, hEv, rfl⟩
    obtain ⟨xi, ⟨⟨k, t, mm, b, ts⟩, ia, ic⟩⟩ := x
    simp only at hEv
    obtain ⟨e0, e1, e2, e3, e4, ez⟩ := res_cells hEv
    obtain ⟨va, vc, js, o1, o2, o3, o4, o5, o6, o7⟩ := hO
    have hc : W.cell? ⟨w.heap.size + 1, 0, none⟩ = some (.slice va js.length vc) := by simp only [World.cell?, o1]; rfl
    have hcz : W.frozen? ⟨w.heap.size + 1, 0, none⟩ = false := by simp [World.frozen?, o1]
    have hjl : js.length = xs.length := by have := congrArg List.length o3; simpa [evs, toldEvs] using this
    have hNew := five_new W ⟨⟨k, t, mm, b, ts⟩, ia, ic⟩
    have hrow := o2.row
    have hfew := hA.out.few
    have hbase : w.heap.size + 1 + 1 ≤ (W.alloc (.cells #[.int .i64 k, .string t, .int .i64 mm, .string b, .slice ia ts.length ic] 29)).heap.size := by have := (Array.getElem?_eq_some_iff.1 o1).1; simp; omega
    have hlW := hlt
    clear hlt
    have hjs : js.length < 200 := by omega
    clear hjl hE h0
    gi_wp2_with (gi_at_builtin; refine wpListIn_append_lies _ rfl _ _ 23 rfl (w.heap.size + 1 + 1) 29 i0 (.agg #[.int .i64 0, .string ⟨#[]⟩, .int .i64 0, .string ⟨#[]⟩, .slice none 0 0]) 5 72 Tryz.underlying23 hi hz0 hz1 hz2 rfl (by decide) (.slice va js.length vc) js.length (fives js) rfl (hrow.alloc _) ⟨W.heap.size, 0, none⟩ 1 1 (Item.five ⟨⟨k, t, mm, b, ts⟩, ia, ic⟩) rfl rfl hNew (five_one _) Nat.one_pos (by unfold maxLen; omega) (by omega) hbase _ rfl ?_; intro g gcap wa hown hgr hat hlt2; obtain ⟨cB, czB⟩ := out_box o1 hrow hgr)
    obtain ⟨q1, q2, q3⟩ := OutAt.push (L := w.heap.size + 2) (i := ⟨⟨k, t, mm, b, ts⟩, ia, ic⟩) o1 o2 o4 o5 o6 o7 hH hgr hown hat
    have he : toldEvs (xs ++ [⟨xi, ⟨⟨k, t, mm, b, ts⟩, ia, ic⟩⟩]) = evs js ++ [⟨k, t, mm, b, ts⟩] := by rw [o3]; simp [toldEvs]
    refine ⟨q2, Kept.far q3 (fun q hq => (hlW q (.inr (.inr (.inl hq)))).2) (fun q hq => (hlW q (.inr (.inr (.inr hq)))).2), rfl, ?_⟩
    rw [he]
    exact q1
  case done =>
    rintro D xs m W hD hS hm ⟨_, hO⟩ hdef
    obtain ⟨va, vc, js, o1, o2, o3, o4, o5, o6, o7⟩ := hO
    have hc : W.cell? ⟨w.heap.size + 1, 0, none⟩ = some (.slice va js.length vc) := by simp only [World.cell?, o1]; rfl
    gi_wp2
    refine ⟨by simp, .inl ⟨_, _, rfl, run_takeDeferred hdef, ?_⟩⟩
    have hg := grownBy_putObj' W D (.deferred none)
    have hr : ∀ r, some D = some r → ∃ o : Obj, W.heap[r]? = some o ∧ o.isCells = false := fun r e => by cases e; exact ⟨_, hdef, rfl⟩
    refine ⟨_, results_tmp rfl _ _ _, va, vc, js, rfl, hide0 ((o2.abide hg hr).mono (by omega)), hide0 (o3.trans hS.1), ?_⟩
    exact hide0 (Below.trans o5 ⟨hg.os, hg.tape, hg.output, hg.size, fun q hq => hg.block q (by have := o5.size; omega) (fun e => by cases e; omega)⟩)
  case stop =>
    rintro D c xs m W hD hS hm ⟨h, _⟩ _
    cases h
end Go.Proofs.YtdjllnhahhjgmaaGreatDoor
namespace Chron
open Go Go.RowKit
def fillN (hn : Nat → Int) (i : Nat) (l : List Ev) : Nat := min (1 + hn i).toNat l.length
def fillV (hn hv : Nat → Int) (i : Nat) (l : List Ev) : Int := if (l.take (fillN hn i l)).all (goesB (1 + hv i)) = true then 1 + hv i else 3
/- in which version, and how many at a time, events are put in, as numbers say -/
def fillC (hn hv : Nat → Int) : Nat → Nat → List Ev → List Chunk
  | 0, _, _ => []
  | f + 1, i, l => if l = [] then [] else (fillV hn hv i l, l.take (fillN hn i l)) :: fillC hn hv f (i + 1) (l.drop (fillN hn i l))
theorem goes_new {e : Ev} (h : isB e = true) : goesB 3 e = true := by
  have h3 : isVer 3 = true := by decide
  have h4 : fitsB 3 e = true := by simp [fitsB]
  simp only [goesB, h3, h, h4, Bool.and_self]
theorem fillV_goes {hn hv : Nat → Int} {i : Nat} {l : List Ev} (h : ∀ e ∈ l, isB e = true) : ∀ e ∈ l.take (fillN hn i l), goesB (fillV hn hv i l) e = true := by
  intro e he
  unfold fillV
  split
  · rename_i hh; exact List.all_eq_true.1 hh e he
  · exact goes_new (h e (List.mem_of_mem_take he))
theorem fillN_pos {hn : Nat → Int} {i : Nat} {l : List Ev} (h0 : 0 ≤ hn i) (hl : l ≠ []) : 1 ≤ fillN hn i l ∧ fillN hn i l ≤ l.length := by
  have := List.length_pos_iff.2 hl
  unfold fillN; omega
theorem fillC_good {hn hv : Nat → Int} (h0 : ∀ i, 0 ≤ hn i) : ∀ (f i n : Nat) (l : List Ev), (∀ e ∈ l, isB e = true) → l.length ≤ f → n + l.length ≤ 200 → GoodC n (fillC hn hv f i l) ∧ evsOf (fillC hn hv f i l) = l
  | 0, i, n, l, _, hf, _ => by
    have : l = [] := List.eq_nil_of_length_eq_zero (by omega)
    subst this; exact ⟨trivial, rfl⟩
  | f + 1, i, n, l, h, hf, hn2 => by
    unfold fillC
    split
    · rename_i e; subst e; exact ⟨trivial, rfl⟩
    · rename_i e
      obtain ⟨k1, k2⟩ := fillN_pos (i := i) (h0 i) e
      have hl : (l.take (fillN hn i l)).length = fillN hn i l := by rw [List.length_take]; omega
      obtain ⟨r1, r2⟩ := fillC_good h0 f (i + 1) (n + fillN hn i l) (l.drop (fillN hn i l)) (fun e he => h e (List.mem_of_mem_drop he)) (by rw [List.length_drop]; omega) (by rw [List.length_drop]; omega)
      refine ⟨⟨⟨fillV_goes h, ?_, by show n + (l.take (fillN hn i l)).length ≤ 200; omega⟩, by rw [hl]; exact r1⟩, ?_⟩
      · intro e2
        have := congrArg List.length e2
        simp only [List.length_nil] at this
        omega
      · show l.take (fillN hn i l) ++ evsOf _ = l
        rw [r2, List.take_append_drop]
theorem fillC_step {hn hv : Nat → Int} {f i : Nat} {l : List Ev} (hl : l ≠ []) (hf : l.length ≤ f) : fillC hn hv f i l = (fillV hn hv i l, l.take (fillN hn i l)) :: fillC hn hv (f - 1) (i + 1) (l.drop (fillN hn i l)) := by
  obtain ⟨g, rfl⟩ : ∃ g, f = g + 1 := ⟨f - 1, by have := List.length_pos_iff.2 hl; omega⟩
  rw [fillC, if_neg hl]
  rfl
theorem fillC_end {hn hv : Nat → Int} {f i : Nat} : fillC hn hv f i [] = [] := by
  cases f with
  | zero => rfl
  | succ f => rw [fillC, if_pos rfl]
theorem fileB_snoc (cs : List Chunk) (c : Chunk) : fileB noB (cs ++ [c]) = fileB noB cs ++ entryB c.1 (lastB noB (evsOf cs)) c.2 := by
  rw [fileB_append]; simp [fileB]
theorem torn_nil (l : List Ev) : Torn l [] := .inl rfl
theorem readB_file {cs : List Chunk} (hg : GoodC 0 cs) : readB (fileB noB cs) = (evsOf cs, (fileB noB cs).length, true) := by
  have := readB_go (p := []) hg (torn_nil _)
  simpa using this
theorem fileB_short {cs : List Chunk} (hg : GoodC 0 cs) : (fileB noB cs).length ≤ 83800 := by
  have := (readB_any (fileB noB cs)).2.2.2
  rw [readB_file hg] at this
  exact this
theorem anew_good : ∀ (l : List Ev) (n : Nat), (∀ e ∈ l, isB e = true) → n + l.length ≤ 200 → GoodC n (anewC l)
  | [], _, _, _ => trivial
  | e :: r, n, h, hn => by
    simp only [List.length_cons] at hn
    refine ⟨⟨fun x hx => ?_, by simp, by simp; omega⟩, anew_good r (n + 1) (fun x hx => h x (List.mem_cons_of_mem _ hx)) (by omega)⟩
    simp at hx; subst hx
    exact goes_new (h _ List.mem_cons_self)
theorem anew_pos {l : List Ev} (h : l ≠ []) : fileB noB (anewC l) ≠ [] := by
  cases l with
  | nil => exact absurd rfl h
  | cons e r =>
    intro e2
    have h2 := congrArg List.length e2
    have h3 := entry_pos 3 noB [e]
    simp only [anewC, List.map_cons, fileB, List.length_append, List.length_nil] at h2
    omega
end Chron
namespace Go.Proofs.YtdjllnhahhjgmaaGreatDoor
open Go.RowKit Chron
theorem raw_int (a : Option Addr) (n cap : Nat) (i : Int) (w : World) (h : Hid (IntsAt w a n)) (hn : n ≤ maxLen) (h0 : 0 ≤ i) (hi : i ≤ 100) :
    Calls Tryz.prog 31 #[.slice a n cap, .int .i64 i] w fun e w' => (∃ z, e = .returned (.int .i64 z) ∧ Hid (-9223372036854775808 ≤ z)) ∧ w' = w := by
  obtain ⟨j, rfl⟩ := Int.eq_ofNat_of_zero_le h0
  exact raw_any a n cap j w h hn (by omega)
theorem line_40 (c : Int) (w : World) (h0 : Hid (-9223372036854775808 ≤ c)) : Calls Tryz.prog 49 #[.int .i64 c, .int .i64 40] w fun e w' => (∃ s, e = .returned (.string s) ∧ Hid (lineN s 40)) ∧ Below w.heap.size w w' := line_any c 40 w h0 (by omega)
theorem line_60 (c : Int) (w : World) (h0 : Hid (-9223372036854775808 ≤ c)) : Calls Tryz.prog 49 #[.int .i64 c, .int .i64 60] w fun e w' => (∃ s, e = .returned (.string s) ∧ Hid (lineN s 60)) ∧ Below w.heap.size w w' := line_any c 60 w h0 (by omega)
theorem line_20 (c : Int) (w : World) (h0 : Hid (-9223372036854775808 ≤ c)) : Calls Tryz.prog 49 #[.int .i64 c, .int .i64 20] w fun e w' => (∃ s, e = .returned (.string s) ∧ Hid (lineN s 20)) ∧ Below w.heap.size w w' := line_any c 20 w h0 (by omega)
set_option maxRecDepth 100000 in
set_option maxHeartbeats 400000 in
theorem raw_fix (a : Option Addr) (n cap i : Nat) (w : World) (h : IntsAt w a n) (_hn : n ≤ maxLen) (_hi : i ≤ 4) :
    ∃ z, Hid (-9223372036854775808 ≤ z) ∧ ∀ X, Below w.heap.size w X → Calls Tryz.prog 31 #[.slice a n cap, .int .i64 (5 + (i : Int))] X fun e w' => e = .returned (.int .i64 z) ∧ w' = X := by
  unfold maxLen at _hn
  by_cases hlt : 5 + i < n
  · obtain ⟨b, off, z, rfl, hc, hz⟩ := h (5 + i) hlt
    refine ⟨z, hz, fun X hb => ?_⟩
    have hlb := World.block_lt_of_cell? w _ hc
    have hc' : X.cell? ⟨b, off + (5 + i), none⟩ = some (.int .i64 z) := (hb.cell (p := ⟨b, off + (5 + i), none⟩) hlb).trans hc
    have hi5 : (5 + (i : Int)) < (n : Int) := by omega
    have ht5 : (5 + (i : Int)).toNat = 5 + i := by omega
    clear hc hlb hb
    go_enter Tryz.func31, Tryz.ntmps31
    go_wp2
    go_ret
    exact ⟨rfl, rfl⟩
  · refine ⟨0, by show (-9223372036854775808 : Int) ≤ 0; decide, fun X _ => ?_⟩
    go_enter Tryz.func31, Tryz.ntmps31
    go_wp2
    go_ret
    exact ⟨rfl, rfl⟩
theorem conv_at (x : Int) (h0 : 0 ≤ x) (h1 : x < 256) (X : World) (b : Nat) (hX : X.heap[b]? = some (.cells #[.int .u8 x] 5)) :
    (convert 63 9 (.slice (some ⟨b, 0, none⟩) 1 1)).run Tryz.prog X = .ok (.string ⟨#[UInt8.ofNat x.toNat]⟩) X := by
  refine run_convert_bytes_back X _ _ 5 ⟨b, 0, none⟩ 1 [UInt8.ofNat x.toNat] Tryz.underlying63 Tryz.underlying5 Tryz.underlying9 ?_
  intro j hj
  have hj0 : j = 0 := by simpa using hj
  subst hj0
  simp [World.cell?, Addr.add, hX]
  omega
theorem cell_one_new2 (w : World) (o : Obj) (v : Value) (t : TypeId) : ∀ j u, [v][j]? = some u → ((w.alloc o).alloc (.cells #[v] t)).cell? ((⟨w.heap.size + 1, 0, none⟩ : Addr).add j) = some u := by
  have := cell_one_new (w.alloc o) v t
  rw [World.size_alloc] at this
  exact this
theorem own_two {w : World} {base : Nat} {e : TypeId} {size : Nat} {v : Value} {n : Nat} {xs : List Value} (h : w.ownsRow base e size v n xs) (o o' : Obj) : ((w.alloc o).alloc o').ownsRow base e size v n xs := (h.alloc o).alloc o'
theorem tag_made {s : ByteArray} {L : Nat} (h : lineN s 20) (hL : L ≤ 4) : ∃ r : List UInt8, (⟨#[UInt8.ofNat (97 + (L : Int)).toNat]⟩ ++ s : ByteArray).data.toList = UInt8.ofNat (97 + L) :: r ∧ r.length ≤ 20 ∧ r.all byteOk = true := by
  refine ⟨s.data.toList, ?_, by have := h.1; simpa using this, h.2⟩
  have e : (97 + (L : Int)).toNat = 97 + L := by omega
  rw [e]
  obtain ⟨⟨s⟩⟩ := s; simp
structure EvAt (N P : Nat) (w wx : World) (k : Int) (t : ByteArray) (m : Int) (b : ByteArray) (v : Value) : Prop where
  box : wx.heap[P]? = some (.cells #[.int .i64 k, .string t, .int .i64 m, .string b, v] 29)
  res : wx.heap[N]? = some (.cells #[.int .i64 0, .string ⟨#[]⟩, .int .i64 0, .string ⟨#[]⟩, .slice none 0 0] 29)
  bel : Below N w wx
  lt : N < P
  big : P + 1 ≤ wx.heap.size
theorem EvAt.grown {N P : Nat} {w wx wy : World} {k : Int} {t : ByteArray} {m : Int} {b : ByteArray} {v : Value} {row : Option Nat} (h : EvAt N P w wx k t m b v) (hg : wx.grownBy wy row) (hr : ∀ q, row = some q → P + 1 ≤ q) : EvAt N P w wy k t m b v := by
  have hbig := h.big
  have hlt := h.lt
  have hblk : ∀ q, q ≤ P → wy.heap[q]? = wx.heap[q]? := fun q hq => hg.block q (by omega) (fun e => by have := hr q e.symm; omega)
  exact ⟨(hblk P (Nat.le_refl _)).trans h.box, (hblk N (by omega)).trans h.res, h.bel.trans ⟨hg.os, hg.tape, hg.output, hg.size, fun q hq => hblk q (by omega)⟩, hlt, Nat.le_trans hbig hg.size⟩
theorem EvAt.below {N P : Nat} {w wx wy : World} {k : Int} {t : ByteArray} {m : Int} {b : ByteArray} {v : Value} (h : EvAt N P w wx k t m b v) (hb : Below wx.heap.size wx wy) : EvAt N P w wy k t m b v :=
  h.grown (row := none) ⟨hb.os, hb.tape, hb.output, hb.size, fun k hk _ => hb.block k hk⟩ (fun q hq => by cases hq)
theorem EvAt.alloc {N P : Nat} {w wx : World} {k : Int} {t : ByteArray} {m : Int} {b : ByteArray} {v : Value} (h : EvAt N P w wx k t m b v) (o : Obj) : EvAt N P w (wx.alloc o) k t m b v :=
  h.below ((Below.refl _ _).alloc (Nat.le_refl _) _)
theorem EvAt.drew {N P : Nat} {w wx : World} {k : Int} {t : ByteArray} {m : Int} {b : ByteArray} {v : Value} (h : EvAt N P w wx k t m b v) : EvAt N P w wx.drew k t m b v :=
  ⟨h.box, h.res, h.bel.drew, h.lt, h.big⟩
theorem EvAt.put {N P : Nat} {w wx : World} {k : Int} {t : ByteArray} {m : Int} {b : ByteArray} {v : Value} (h : EvAt N P w wx k t m b v) :
    (∀ k', EvAt N P w (wx.setCell ⟨P, 0, none⟩ (.int .i64 k')) k' t m b v) ∧ (∀ m', EvAt N P w (wx.setCell ⟨P, 2, none⟩ (.int .i64 m')) k t m' b v) ∧ (∀ v', EvAt N P w (wx.setCell ⟨P, 4, none⟩ v') k t m b v') := by
  have hlt := h.lt
  refine ⟨fun x => ⟨?_, ?_, h.bel.setCell (by simp; omega) _, hlt, ?_⟩, fun x => ⟨?_, ?_, h.bel.setCell (by simp; omega) _, hlt, ?_⟩, fun x => ⟨?_, ?_, h.bel.setCell (by simp; omega) _, hlt, ?_⟩⟩
  all_goals first
    | (rw [Below.heap_setCell _ _ _ _ (by simp; omega)]; exact h.res)
    | (simp [World.setCell]; exact h.big)
    | (simp [World.setCell, Array.getElem?_modify, h.box])
set_option maxRecDepth 100000 in
set_option maxHeartbeats 8000000 in
theorem event_any (v : Int) (a : Option Addr) (n cap : Nat) (w : World) (hI : Hid (IntsAt w a n)) (hn : n ≤ maxLen) (hv1 : 1 ≤ v) (_hv3 : v ≤ 3) :
    Calls Tryz.prog 29 #[.slice a n cap, .int .i64 v] w fun e w' =>
      ∃ E x, e = .returned (evVal E x) ∧ Hid (∀ k, v ≤ k → k ≤ 3 → goesB k E = true) ∧ w'.ownsRow w.heap.size 9 1 x E.tags.length (E.tags.map Value.string) ∧ Below w.heap.size w w' := by
  have hI0 : Hid (IntsAt (w.alloc (.cells #[.int .i64 0, .string ⟨#[]⟩, .int .i64 0, .string ⟨#[]⟩, .slice none 0 0] 29)) a n) := hI.out.below ((Below.refl _ _).alloc (Nat.le_refl _) _) (Nat.le_refl _)
  go_enter Tryz.func29, Tryz.ntmps29
  go_wp2_with fail
  refine (raw_int a n cap 0 _ hI0 hn (by omega) (by omega)).mono ?_
  rintro e wq ⟨⟨z0, rfl, hz0⟩, hwq⟩
  have hwq' := hwq.symm; subst hwq'; clear hwq
  go_wp2_with fail
  refine (pick_any z0 4 _ hz0.out (by omega)).mono ?_
  rintro e wq ⟨⟨p0, rfl, hp0, hp1⟩, hwq⟩
  have hwq' := hwq.symm; subst hwq'; clear hwq
  go_wp2_with fail
  refine (raw_int a n cap 1 _ hI0 hn (by omega) (by omega)).mono ?_
  rintro e wq ⟨⟨z1, rfl, hz1⟩, hwq⟩
  have hwq' := hwq.symm; subst hwq'; clear hwq
  go_wp2_with fail
  refine (line_40 z1 _ hz1).mono ?_
  rintro e w1 ⟨⟨s1, rfl, hs1⟩, hb1⟩
  have hI1 : Hid (IntsAt w1 a n) := hI0.out.below hb1 (Nat.le_refl _)
  have hsz1 := hs1.out.1
  go_wp2_with fail
  refine (raw_int a n cap 2 _ hI1 hn (by omega) (by omega)).mono ?_
  rintro e wq ⟨⟨z2, rfl, hz2⟩, hwq⟩
  have hwq' := hwq.symm; subst hwq'; clear hwq
  go_wp2_with fail
  refine (line_60 z2 _ hz2).mono ?_
  rintro e w2 ⟨⟨s2, rfl, hs2⟩, hb2⟩
  have hI2 : Hid (IntsAt w2 a n) := hI1.out.below hb2 (Nat.le_refl _)
  have hsA := hb1.size
  rw [World.size_alloc] at hsA
  have hsB := hb2.size
  have hZ1 := (hb1.block w.heap.size (by rw [World.size_alloc]; omega)).trans (heap_alloc_new w _)
  have hZ2 := (hb2.block w.heap.size (by omega)).trans hZ1
  have HE0 : Hid (EvAt w.heap.size w2.heap.size w (w2.alloc (.cells #[.int .i64 (1 + p0), .string (⟨#[116]⟩ ++ s1), .int .i64 0, .string s2, .slice none 0 0] 29)) (1 + p0) (⟨#[116]⟩ ++ s1) 0 s2 (.slice none 0 0)) :=
    ⟨heap_alloc_new w2 _, (Below.heap_alloc _ _ _ (by omega)).trans hZ2, ((((Below.refl w.heap.size w).alloc (Nat.le_refl _) _).trans (hb1.mono (by rw [World.size_alloc]; omega))).trans (hb2.mono (by omega))).alloc (by omega) _, by omega, by rw [World.size_alloc]; omega⟩
  have hI3 : Hid (IntsAt (w2.alloc (.cells #[.int .i64 (1 + p0), .string (⟨#[116]⟩ ++ s1), .int .i64 0, .string s2, .slice none 0 0] 29)) a n) := hI2.out.below ((Below.refl _ _).alloc (Nat.le_refl _) _) (Nat.le_refl _)
  have hIold : Hid (∀ wx, Below w.heap.size w wx → IntsAt wx a n) := fun wx hb => hI.out.below hb (Nat.le_refl _)
  clear hb1 hb2 hZ1 hZ2 hI0 hI1 hI2 hsB hsA
  obtain ⟨P, hP⟩ : ∃ P, P = w2.heap.size := ⟨_, rfl⟩
  by_cases hv : v = 1
  · have hvb : (v == 1) = true := by simp [hv]
    have HV := hide0 hv
    clear hv
    go_wp2_with fail
    generalize w2.alloc (.cells #[.int .i64 (1 + p0), .string (⟨#[116]⟩ ++ s1), .int .i64 0, .string s2, .slice none 0 0] 29) = W3 at HE0 hI3 ⊢
    refine (raw_int a n cap 0 _ hI3 hn (by omega) (by omega)).mono ?_
    rintro e wq ⟨⟨z3, rfl, hz3⟩, hwq⟩
    have hwq' := hwq.symm; subst hwq'; clear hwq
    go_wp2_with fail
    refine (pick_any z3 3 _ hz3.out (by omega)).mono ?_
    rintro e wq ⟨⟨p3, rfl, hp2, hp3⟩, hwq⟩
    have hwq' := hwq.symm; subst hwq'; clear hwq
    obtain ⟨c0, c1, c2, c3, c4, cz⟩ := res_cells HE0.out.box
    obtain ⟨r0, r1, r2, r3, r4, rz⟩ := res_cells HE0.out.res
    have hne : ¬ w2.heap.size = w.heap.size := by have := HE0.out.lt; omega
    go_wp2
    refine bodyPost_ret (v := evVal ⟨1 + p3, ⟨#[116]⟩ ++ s1, 0, s2, []⟩ (.slice none 0 0)) (by simp [results, Tryz.results29, go_sem, evVal, r0, r1, r2, r3, r4]) rfl ⟨⟨1 + p3, ⟨#[116]⟩ ++ s1, 0, s2, []⟩, .slice none 0 0, rfl, ?_, World.ownsRow_nil _ _ _ _, ?_⟩
    · intro k hk1 hk3
      exact event_goes (v := v) hs1.out hs2.out rfl rfl (by simp; omega) (by simp; omega) (by simp) (by simp) (tagsI_ok (fun i hi => by simp at hi) (by simp)) hv1 hk1 hk3 (fun _ => ⟨by simp; omega, rfl⟩) (fun _ => rfl)
    · exact below_set5 (HE0.out.bel.setCell (Nat.le_of_lt HE0.out.lt) _) (Nat.le_refl _)
  · have hvb : (v == 1) = false := by simp [hv]
    have HV := hide0 hv
    clear hv
    go_wp2_with fail
    generalize w2.alloc (.cells #[.int .i64 (1 + p0), .string (⟨#[116]⟩ ++ s1), .int .i64 0, .string s2, .slice none 0 0] 29) = W3 at HE0 hI3 ⊢
    refine (raw_int a n cap 3 _ hI3 hn (by omega) (by omega)).mono ?_
    rintro e wq ⟨⟨z3, rfl, hz3⟩, hwq⟩
    have hwq' := hwq.symm; subst hwq'; clear hwq
    go_wp2_with fail
    refine (pick_any z3 1125899906842625 _ hz3.out (by omega)).mono ?_
    rintro e wq ⟨⟨p3, rfl, hp2, hp3⟩, hwq⟩
    have hwq' := hwq.symm; subst hwq'; clear hwq
    obtain ⟨c0, c1, c2, c3, c4, cz⟩ := res_cells HE0.out.box
    have HE1 : Hid _ := HE0.out.put.2.1 p3
    go_wp2_with fail
    have hlt0 := HE0.out.lt
    have HP : Hid (P = w2.heap.size) := hP
    clear c0 c1 c2 c3 c4 cz HE0 hI3 hP
    go_loopw [6] (fun i wx => ∃ (acc : List ByteArray) (a' : Option Addr) (cap' : Nat), acc.length ≤ 4 ∧ i = .int .i64 acc.length ∧ Hid (EvAt w.heap.size w2.heap.size w wx (1 + p0) (⟨#[116]⟩ ++ s1) p3 s2 (.slice a' acc.length cap')) ∧ Hid (wx.ownsRow (w2.heap.size + 1) 9 1 (.slice a' acc.length cap') acc.length (acc.map Value.string)) ∧ Hid (TagsI acc) ∧ Hid (v ≤ 2 → acc = [])) (fun i _ => 4 - (intOf i).toNat)
    case atStart => exact ⟨[], none, 0, by simp, rfl, HE1, World.ownsRow_nil _ _ _ _, fun i hi => by simp at hi, fun _ => rfl⟩
    case round =>
      obtain ⟨acc, a', cap', hacc, rfl, HE, HO, HT, H2⟩ := hrel
      clear HE1
      have hIr : Hid (IntsAt wr a n) := hIold.out wr HE.out.bel
      go_wp2_with fail
      refine (raw_int a n cap 4 _ hIr hn (by omega) (by omega)).mono ?_
      rintro e wq ⟨⟨z4, rfl, hz4⟩, hwq⟩
      have hwq' := hwq.symm; subst hwq'; clear hwq
      go_wp2_with fail
      refine (pick_any z4 5 _ hz4.out (by omega)).mono ?_
      rintro e wq ⟨⟨p5, rfl, hp5, hp6⟩, hwq⟩
      have hwq' := hwq.symm; subst hwq'; clear hwq
      obtain ⟨c0, c1, c2, c3, c4, cz⟩ := res_cells HE.out.box
      by_cases hgo : (acc.length : Int) < p5
      · by_cases hv3' : v = 3
        · have hv3b : (v == 3) = true := by simp [hv3']
          have HV3 : Hid (v = 3) := hv3'
          clear hv3'
          have w97 : IntKind.i64.wrap (97 + (acc.length : Int)) = 97 + (acc.length : Int) := wrapI_small (by omega) (by omega)
          have w5 : IntKind.i64.wrap (5 + (acc.length : Int)) = 5 + (acc.length : Int) := wrapI_small (by omega) (by omega)
          have w8 : IntKind.u8.wrap (97 + (acc.length : Int)) = 97 + (acc.length : Int) := by simp [IntKind.wrap, IntKind.bits, IntKind.signed]; omega
          have hL4 : acc.length ≤ 3 := by omega
          obtain ⟨i0, hi, hz0', hz1', hz2'⟩ := info_parts infoString
          obtain ⟨z5, hz5, hraw⟩ := raw_fix a n cap acc.length w hI.out hn (by omega)
          have hB0 : Below w.heap.size w wr.drew := HE.out.bel.drew
          have hB1 : ∀ o, Below w.heap.size w (wr.alloc o).drew := fun o => (HE.out.bel.alloc (by have := HE.out.big; omega) o).drew
          have e1 : acc.length + 1 ≤ maxLen := by unfold maxLen; omega
          have e2 : (acc.length + 1) * 16 ≤ 140737488355328 := by omega
          have d4 : ∀ o, (wr.alloc o).cell? ⟨w2.heap.size, 4, none⟩ = some (.slice a' acc.length cap') := fun o => (res_cells (HE.out.alloc o).box).2.2.2.2.1
          have hline : ∀ X, (X = wr.drew ∨ X = (wr.alloc (.cells #[.int .u8 (97 + (acc.length : Int))] 5)).drew) → Calls Tryz.prog 49 #[.int .i64 z5, .int .i64 20] X fun e wz => ∃ s, e = .returned (.string s) ∧ ¬ 9223372036854775807 < 1 + s.size ∧ Hid (lineN s 20) ∧ Hid (EvAt w.heap.size w2.heap.size w wz (1 + p0) (⟨#[116]⟩ ++ s1) p3 s2 (.slice a' acc.length cap')) ∧ Hid (wz.ownsRow (w2.heap.size + 1) 9 1 (.slice a' acc.length cap') acc.length (acc.map Value.string)) ∧
              wz.cell? ⟨w2.heap.size, 4, none⟩ = some (.slice a' acc.length cap') ∧ (∀ o, (wz.alloc o).cell? ⟨w2.heap.size, 4, none⟩ = some (.slice a' acc.length cap')) ∧ (∀ o o', ((wz.alloc o).alloc o').cell? ⟨w2.heap.size, 4, none⟩ = some (.slice a' acc.length cap')) ∧
              (X = (wr.alloc (.cells #[.int .u8 (97 + (acc.length : Int))] 5)).drew → (convert 63 9 (.slice (some ⟨wr.heap.size, 0, none⟩) 1 1)).run Tryz.prog wz = .ok (.string ⟨#[UInt8.ofNat (97 + (acc.length : Int)).toNat]⟩) wz) ∧ (∀ o, (convert 63 9 (.slice (some ⟨wz.heap.size, 0, none⟩) 1 1)).run Tryz.prog ((wz.alloc (.cells #[.int .u8 (97 + (acc.length : Int))] 5)).alloc o) = .ok (.string ⟨#[UInt8.ofNat (97 + (acc.length : Int)).toNat]⟩) ((wz.alloc (.cells #[.int .u8 (97 + (acc.length : Int))] 5)).alloc o)) := by
            intro X hX
            refine (line_20 z5 X hz5).mono ?_
            rintro e wz ⟨⟨s, rfl, hs⟩, hb⟩
            have HY : EvAt w.heap.size w2.heap.size w wz (1 + p0) (⟨#[116]⟩ ++ s1) p3 s2 (.slice a' acc.length cap') := by
              rcases hX with rfl | rfl
              · exact HE.out.drew.below hb
              · exact (HE.out.alloc _).drew.below hb
            refine ⟨s, rfl, by have := hs.out.1; omega, hs, HY, ?_, (res_cells HY.box).2.2.2.2.1, fun o => (res_cells (HY.alloc o).box).2.2.2.2.1, fun o o' => (res_cells ((HY.alloc o).alloc o').box).2.2.2.2.1, ?_, ?_⟩
            · rcases hX with rfl | rfl
              · exact own_below (World.ownsRow.drew HO.out) hb
              · exact own_below (World.ownsRow.drew (World.ownsRow.alloc HO.out _)) hb
            · intro hX2
              subst hX2
              exact conv_at _ (by omega) (by omega) wz _ ((hb.block wr.heap.size (by show wr.heap.size < (wr.alloc _).heap.size; rw [World.size_alloc]; omega)).trans (heap_alloc_new wr _))
            · intro o
              exact conv_at _ (by omega) (by omega) _ _ ((Below.heap_alloc _ _ _ (by rw [World.size_alloc]; omega)).trans (heap_alloc_new wz _))
          have hcvD : (convert 63 9 (.slice (some ⟨wr.heap.size, 0, none⟩) 1 1)).run Tryz.prog (wr.alloc (.cells #[.int .u8 (97 + (acc.length : Int))] 5)).drew = .ok (.string ⟨#[UInt8.ofNat (97 + (acc.length : Int)).toNat]⟩) (wr.alloc (.cells #[.int .u8 (97 + (acc.length : Int))] 5)).drew := conv_at _ (by omega) (by omega) _ _ (heap_alloc_new wr _)
          have hcv := conv_one (97 + (acc.length : Int)) (by omega) (by omega)
          have HKEEP : Hid (TagsI acc ∧ acc.length ≤ 4 ∧ (0 ≤ p5 ∧ p5 < 5 ∧ (acc.length : Int) < p5) ∧ (v ≤ 2 → acc = []) ∧ v = 3) := ⟨HT.out, hacc, ⟨hp5, hp6, hgo⟩, H2.out, HV3.out⟩
          go_upto_region 9 with fail
          clear c0 c1 c2 c3 HT H2 hIr hI hIold hz4 hz3 hz2 hz1 hz0 hs1 hs2 hp5 hp6 hacc hsz1 hp0 hp1 hp2 hp3 hn HP hv1 _hv3 hlt0 HV hvb hv3b hgo hL4
          go_region_law (first
            | (have hq9 := HQ.out
               have e3 : ∀ o, w2.heap.size + 1 ≤ (wz.alloc o).heap.size := fun o => by have := HY.out.big; simp; omega
               refine step_append_lies _ rfl _ _ 22 rfl (w2.heap.size + 1) 9 i0 (.string ⟨#[]⟩) 1 16 Tryz.underlying22 hi hz0' hz1' hz2' rfl Nat.one_pos _ _ _ rfl (World.ownsRow.alloc hq9 _) ⟨wz.heap.size, 0, none⟩ 1 1 [_] rfl rfl (cell_one_new _ _ _) (one_string _) Nat.one_pos e1 e2 (e3 _) _ rfl ?_
               clear hq9 e3
               intro g cap'' wa hown' hgrow hat hglt
               have HA : Hid (EvAt w.heap.size w2.heap.size w wa (1 + p0) (⟨#[116]⟩ ++ s1) p3 s2 (.slice a' acc.length cap')) := (HY.out.alloc _).grown hgrow (fun q hq => (World.ownsRow.lt HQ.out q hq).1)
               have HO' : Hid (wa.ownsRow (w2.heap.size + 1) 9 1 (.slice (some ⟨g, 0, none⟩) (acc.length + 1) cap'') (acc.length + 1) (acc.map Value.string ++ [.string (⟨#[UInt8.ofNat (97 + (acc.length : Int)).toNat]⟩ ++ s)])) := hown'
               have ca := (res_cells HA.out.box).2.2.2.2.1
               have za := (res_cells HA.out.box).2.2.2.2.2
               clear hgrow hown' hat)
            | (have hq9 := HQ.out
               have e3 : ∀ o o', w2.heap.size + 1 ≤ ((wz.alloc o).alloc o').heap.size := fun o o' => by have := HY.out.big; simp; omega
               refine step_append_lies _ rfl _ _ 22 rfl (w2.heap.size + 1) 9 i0 (.string ⟨#[]⟩) 1 16 Tryz.underlying22 hi hz0' hz1' hz2' rfl Nat.one_pos _ _ _ rfl (own_two hq9 _ _) ⟨wz.heap.size + 1, 0, none⟩ 1 1 [_] rfl rfl (cell_one_new2 _ _ _ _) (one_string _) Nat.one_pos e1 e2 (e3 _ _) _ rfl ?_
               clear hq9 e3
               intro g cap'' wa hown' hgrow hat hglt
               have HA : Hid (EvAt w.heap.size w2.heap.size w wa (1 + p0) (⟨#[116]⟩ ++ s1) p3 s2 (.slice a' acc.length cap')) := ((HY.out.alloc _).alloc _).grown hgrow (fun q hq => (World.ownsRow.lt HQ.out q hq).1)
               have HO' : Hid (wa.ownsRow (w2.heap.size + 1) 9 1 (.slice (some ⟨g, 0, none⟩) (acc.length + 1) cap'') (acc.length + 1) (acc.map Value.string ++ [.string (⟨#[UInt8.ofNat (97 + (acc.length : Int)).toNat]⟩ ++ s)])) := hown'
               have ca := (res_cells HA.out.box).2.2.2.2.1
               have za := (res_cells HA.out.box).2.2.2.2.2
               clear hgrow hown' hat)
            | (go_simp; go_at_call 31; refine (hraw _ ?_).mono ?_; first | exact hB0 | exact hB1 _
               rintro e wq ⟨rfl, hwq⟩; have hwq' := hwq.symm; subst hwq'; clear hwq)
            | (go_simp; go_at_call 49; refine (hline _ ?_).mono ?_; first | exact Or.inl rfl | exact Or.inr rfl
               rintro e wz ⟨s, rfl, hsz20, hsl, HY, HQ, cz0, cz1, cz2, cvz, cvy⟩))
          all_goals
            obtain ⟨k1, k2, ⟨k3, k4, k5⟩, k6, k7⟩ := HKEEP.out
            clear hline hraw hcv hcvD d4 cvz cvy cz0 cz1 cz2 hB0 hB1
            have HX1 : Hid ((acc ++ [(⟨#[UInt8.ofNat (97 + (acc.length : Int)).toNat]⟩ ++ s)]).length ≤ 4) := by show _ ≤ _; simp; omega
            have HX2 : Hid (Value.int .i64 ((acc.length : Int) + 1) = .int .i64 ((acc ++ [(⟨#[UInt8.ofNat (97 + (acc.length : Int)).toNat]⟩ ++ s)]).length : Nat)) := by show _ = _; simp
            have HX3 : Hid (EvAt w.heap.size w2.heap.size w (wa.setCell ⟨w2.heap.size, 4, none⟩ (.slice (some ⟨g, 0, none⟩) (acc.length + 1) cap'')) (1 + p0) (⟨#[116]⟩ ++ s1) p3 s2 (.slice (some ⟨g, 0, none⟩) (acc ++ [(⟨#[UInt8.ofNat (97 + (acc.length : Int)).toNat]⟩ ++ s)]).length cap'')) := by
              show EvAt _ _ _ _ _ _ _ _ _
              rw [List.length_append]; exact HA.out.put.2.2 _
            have HX4 : Hid ((wa.setCell ⟨w2.heap.size, 4, none⟩ (.slice (some ⟨g, 0, none⟩) (acc.length + 1) cap'')).ownsRow (w2.heap.size + 1) 9 1 (.slice (some ⟨g, 0, none⟩) (acc ++ [(⟨#[UInt8.ofNat (97 + (acc.length : Int)).toNat]⟩ ++ s)]).length cap'') (acc ++ [(⟨#[UInt8.ofNat (97 + (acc.length : Int)).toNat]⟩ ++ s)]).length ((acc ++ [(⟨#[UInt8.ofNat (97 + (acc.length : Int)).toNat]⟩ ++ s)]).map Value.string)) := by
              show World.ownsRow _ _ _ _ _ _ _
              rw [List.length_append, List.map_append]; exact ownsRow_setCell_below HO'.out (Nat.lt_succ_self _) _
            have HX5 : Hid (TagsI (acc ++ [(⟨#[UInt8.ofNat (97 + (acc.length : Int)).toNat]⟩ ++ s)])) := tagsI_push k1 (tag_made hsl.out k2)
            have HX6 : Hid (v ≤ 2 → acc ++ [(⟨#[UInt8.ofNat (97 + (acc.length : Int)).toNat]⟩ ++ s)] = []) := fun h => by omega
            clear k1 k2 k6 k7
            go_wp2
            go_roundw
            case rel =>
              first
                | exact ⟨acc ++ [(⟨#[UInt8.ofNat (97 + (acc.length : Int)).toNat]⟩ ++ s)], some ⟨g, 0, none⟩, cap'', HX1.out, HX2.out, HX3, HX4, HX5, HX6⟩
                | ((repeat apply Exists.intro); exact ⟨⟨acc ++ [(⟨#[UInt8.ofNat (97 + (acc.length : Int)).toNat]⟩ ++ s)], some ⟨g, 0, none⟩, cap'', HX1.out, HX2.out, HX3, HX4, HX5, HX6⟩, rfl⟩)
            case measure => simp [intOf]; omega
        · have hv3b : (v == 3) = false := by simp [hv3']
          have HV3 := hide0 hv3'
          clear hv3'
          obtain ⟨r0, r1, r2, r3, r4, rz⟩ := res_cells HE.out.res
          have hne : ¬ w2.heap.size = w.heap.size := by omega
          go_wp2
          refine bodyPost_ret (v := evVal ⟨1 + p0, ⟨#[116]⟩ ++ s1, p3, s2, acc⟩ (.slice a' acc.length cap')) (by simp [results, Tryz.results29, go_sem, evVal, r0, r1, r2, r3, r4]) rfl ⟨⟨1 + p0, ⟨#[116]⟩ ++ s1, p3, s2, acc⟩, .slice a' acc.length cap', rfl, ?_, own_set5 HO.out (by omega) (by omega), below_set5 HE.out.bel (Nat.le_refl _)⟩
          intro k hk1 hk3
          exact event_goes (v := v) hs1.out hs2.out rfl rfl (by simp; omega) (by simp; omega) hp2 hp3 (tagsI_ok HT.out hacc) hv1 hk1 hk3 (fun h => absurd h HV.out) H2.out
      · obtain ⟨r0, r1, r2, r3, r4, rz⟩ := res_cells HE.out.res
        have hne : ¬ w2.heap.size = w.heap.size := by omega
        go_wp2
        refine bodyPost_ret (v := evVal ⟨1 + p0, ⟨#[116]⟩ ++ s1, p3, s2, acc⟩ (.slice a' acc.length cap')) (by simp [results, Tryz.results29, go_sem, evVal, r0, r1, r2, r3, r4]) rfl ⟨⟨1 + p0, ⟨#[116]⟩ ++ s1, p3, s2, acc⟩, .slice a' acc.length cap', rfl, ?_, own_set5 HO.out (by omega) (by omega), below_set5 HE.out.bel (Nat.le_refl _)⟩
        intro k hk1 hk3
        exact event_goes (v := v) hs1.out hs2.out rfl rfl (by simp; omega) (by simp; omega) hp2 hp3 (tagsI_ok HT.out hacc) hv1 hk1 hk3 (fun h => absurd h HV.out) H2.out
end Go.Proofs.YtdjllnhahhjgmaaGreatDoor
