/- Walks and plain facts, in the order in which they lean on one another. -/
import Derived.Test.YtdjllnhahhjgmaaGreatDoorW05
import Derived.Test.YtdjllnhahhjgmaaGreatDoorW11
import Derived.Test.YtdjllnhahhjgmaaGreatDoorW10
namespace Go.Proofs.YtdjllnhahhjgmaaGreatDoor
open Go.RowKit Chron
theorem run_append_keptG {P : Program} (w : World) (t ty : TypeId) (base : Nat) (e : TypeId) (i : TypeInfo) (z : Value) (size bytes : Nat) (ht : P.underlying t = some (.slice e)) (hi : P.info? e = some i) (hz : i.zero = some z)
    (hsize : i.size = size) (hby : i.bytes = bytes) (hzs : z.cells.size = size) (hpos : 0 < size)
    (v : Value) (n : Nat) (xs : List Value) (hown : w.ownsRow base e size v n xs)
    (ad : Addr) (m c : Nat) (news : List Value) (hl : news.length = m * size) (hnews : ∀ j u, news[j]? = some u → w.cell? (ad.add j) = some u) (h1 : ∀ u ∈ news, u.oneCell' = true)
    (hm : 0 < m) (h63 : n + m ≤ maxLen) (hbytes : (n + m) * bytes ≤ 140737488355328) (hbase : base ≤ w.heap.size) :
    ∃ g cap w', (Builtin.append_ #[t, t] ty #[v, .slice (some ad) m c]).run P w = .ok (.slice (some ⟨g, 0, none⟩) (n + m) cap) w' ∧
      w'.ownsRow base e size (.slice (some ⟨g, 0, none⟩) (n + m) cap) (n + m) (xs ++ news) ∧ w'.ownsRow base e size v n xs ∧ Lay w w' v g w.heap.size := by
  rcases hown.2 with ⟨rfl, rfl⟩ | ⟨g0, cap0, cur, rfl, a2, a3, a4, a5, a6, a7⟩
  · obtain ⟨g, cap, w', hr, h2, h3, h4, h5⟩ := run_append_lies (P := P) w t ty base e i z size bytes ht hi hz hsize hby hzs hpos (.slice none 0 0) 0 xs hown ad m c news hl hnews h1 hm h63 hbytes hbase w.heap.size rfl
    refine ⟨g, cap, w', hr, h2, ?_, .inr ⟨?_, h3⟩⟩
    · obtain rfl : xs = [] := List.eq_nil_of_length_eq_zero (by simpa using hown.1)
      exact World.ownsRow_nil _ _ _ _
    · rcases h4 with h4 | h4
      · cases h4
      · omega
  · by_cases hr : n + m ≤ cap0
    · obtain ⟨w', hrun, h2, h3⟩ := run_append_own_spare (P := P) w base t ty e i size ht hi hsize g0 n cap0 xs hown ad m c news hl hnews h1 hr
      refine ⟨g0, cap0, w', hrun, h2, ?_, .inl ⟨rfl, h3⟩⟩
      obtain ⟨b1, ⟨b2, _⟩ | ⟨g', cap', cur', hv, c2, c3, c4, c5, c6, c7⟩⟩ := h2
      · cases b2
      · cases hv
        refine ⟨hown.1, .inr ⟨g0, cap0, cur', rfl, c2, c3, a4, c5, c6, ?_⟩⟩
        have hxl := hown.1
        have : (cur'.toList.take ((n + m) * size)).take (n * size) = (xs ++ news).take (n * size) := by rw [c7]
        rw [List.take_take, Nat.min_eq_left (Nat.mul_le_mul_right _ (by omega))] at this
        rw [this, ← hxl, List.take_left]
    · have hxl := hown.1
      obtain ⟨v', w', hrun, h2, h3⟩ := run_append_arg_grows (P := P) w t ty e i z size bytes ht hi hz hsize hby hzs hpos ⟨g0, 0, none⟩ n cap0 xs hxl (fun j u hu => by
        rw [Addr.add_lit, Nat.zero_add]
        rw [← a7] at hu
        have hj := (List.getElem?_eq_some_iff.1 hu).1
        rw [List.getElem?_take_of_lt (by simp at hj; omega)] at hu
        simpa [World.cell?, a3] using hu) ad m c news hl hnews (by omega) h63 hbytes
      obtain ⟨g, cap, rfl, hg1, hg2⟩ := h2.form (by omega)
      exact ⟨g, cap, w', hrun, own_mono h2 hbase, hown.kept (row := none) h3 (Classical.em _), .inr ⟨hg1, h3⟩⟩
theorem wpList_append_keptG {P : Program} (w : World) {ops : Array Oper} {rest : List Oper} {o : Oper} {a : Act} {Q : Exit → Act → World → Prop} (hgd : o.guard = none) (s x : Operand) (t : TypeId)
    (ho : o.op = .call { callee := .builtin .append, args := #[s, x], argTypes := #[t, t] })
    (base : Nat) (e : TypeId) (i : TypeInfo) (z : Value) (size bytes : Nat) (ht : P.underlying t = some (.slice e)) (hi : P.info? e = some i) (hz : i.zero = some z)
    (hsize : i.size = size) (hby : i.bytes = bytes) (hzs : z.cells.size = size) (hpos : 0 < size)
    (v : Value) (n : Nat) (xs : List Value) (hs : a.eval s = v) (hown : w.ownsRow base e size v n xs)
    (ad : Addr) (m c : Nat) (news : List Value) (hx : a.eval x = .slice (some ad) m c) (hl : news.length = m * size) (hnews : ∀ j u, news[j]? = some u → w.cell? (ad.add j) = some u) (h1 : ∀ u ∈ news, u.oneCell' = true)
    (hm : 0 < m) (h63 : n + m ≤ maxLen) (hbytes : (n + m) * bytes ≤ 140737488355328) (hbase : base ≤ w.heap.size)
    (h : ∀ g cap w', w'.ownsRow base e size (.slice (some ⟨g, 0, none⟩) (n + m) cap) (n + m) (xs ++ news) → w'.ownsRow base e size v n xs → Lay w w' v g w.heap.size → wpList P ops Q rest (a.put o.dst (.slice (some ⟨g, 0, none⟩) (n + m) cap)) w') : wpList P ops Q (o :: rest) a w := by
  refine wpList_plain hgd fun K hK => ?_
  obtain ⟨g, cap, w', hr, h2, h3, h4⟩ := run_append_keptG (P := P) w t o.type base e i z size bytes ht hi hz hsize hby hzs hpos v n xs hown ad m c news hl hnews h1 hm h63 hbytes hbase
  unfold Oper.wp execOp
  simp only [ho, resolve, invoke, builtin, Sem.run_bind, Sem.run_pure, Result.andThen_ok, List.map_toArray, List.map_cons, List.map_nil, hs, hx, hr]
  exact hK _ _ (h g cap w' h2 h3 h4)
def reps (n : Nat) (mc : List Value) : List Value := (List.replicate n mc).flatten
theorem reps_len (n : Nat) (mc : List Value) : (reps n mc).length = n * mc.length := by simp [reps]
theorem reps_add (n m : Nat) (mc : List Value) : reps n mc ++ reps m mc = reps (n + m) mc := by simp [reps, ← List.replicate_append_replicate]
theorem reps_pre {n m : Nat} {mc : List Value} (h : n ≤ m) {j : Nat} {u : Value} (hj : (reps n mc)[j]? = some u) : (reps m mc)[j]? = some u := by
  obtain ⟨k, rfl⟩ : ∃ k, m = n + k := ⟨m - n, by omega⟩
  rw [← reps_add, List.getElem?_append_left (List.getElem?_eq_some_iff.1 hj).1]; exact hj
theorem reps_one (n : Nat) (u : Value) : reps n [u] = List.replicate n u := by
  induction n with
  | zero => rfl
  | succ n ih => simp only [reps, List.replicate_succ, List.flatten_cons] at *; rw [ih]; rfl
structure OutG (w : World) (B most : Nat) (mc : List Value) (v : Value) (g no cap : Nat) : Prop where
  val : v = .slice (some ⟨g, 0, none⟩) no cap
  few : no ≤ most
  room : no ≤ cap
  base : B ≤ g
  lt : g < w.heap.size
  cells : ∀ j u, (reps no mc)[j]? = some u → w.cell? ⟨g, j, none⟩ = some u
theorem OutG.keep {w w' : World} {B most : Nat} {mc : List Value} {v : Value} {g no cap : Nat} (h : OutG w B most mc v g no cap) (hs : w.heap.size ≤ w'.heap.size) (hb : w'.heap[g]? = w.heap[g]?) : OutG w' B most mc v g no cap :=
  ⟨h.val, h.few, h.room, h.base, Nat.lt_of_lt_of_le h.lt hs, fun j u hu => by rw [World.cell?_of_block (a := ⟨g, j, none⟩) hb]; exact h.cells j u hu⟩
theorem OutG.blk {w : World} {B most : Nat} {mc : List Value} {v : Value} {g no cap : Nat} (h : OutG w B most mc v g no cap) : v.ownBlock = some g := by rw [h.val]; rfl
structure MarksG (w : World) (B : Nat) (T sz : Nat) (l : Value) (n : Nat) (mc : List Value) (outs : List Value) (k : Nat) : Prop where
  own : w.ownsRow B T sz l n (reps n mc)
  outs : ∀ o ∈ outs, ∃ g no cap, OutG w B (n + k) mc o g no cap
theorem own_cellsG {w : World} {B g n cap sz : Nat} {e : TypeId} {xs : List Value} (h : w.ownsRow B e sz (.slice (some ⟨g, 0, none⟩) n cap) n xs) : n ≤ cap ∧ ∀ j u, xs[j]? = some u → w.cell? ⟨g, j, none⟩ = some u := by
  obtain ⟨h1, ⟨h2, _⟩ | ⟨g', cap', cur, hv, a2, a3, a4, a5, a6, a7⟩⟩ := h
  · cases h2
  · cases hv
    refine ⟨a4, fun j u hu => ?_⟩
    rw [← a7] at hu
    have hj := (List.getElem?_eq_some_iff.1 hu).1
    rw [List.getElem?_take_of_lt (by simp at hj; omega)] at hu
    simpa [World.cell?, a3] using hu
theorem MarksG.push {w wa : World} {B T sz g cap n k j : Nat} {l : Value} {mc outs : List Value} {o : Obj} (h : MarksG w B T sz l n mc outs k) (hj : k ≤ j)
    (hnew : wa.ownsRow B T sz (.slice (some ⟨g, 0, none⟩) (n + j) cap) (n + j) (reps n mc ++ reps j mc)) (hold : wa.ownsRow B T sz l n (reps n mc))
    (hlay : Lay (w.alloc o) wa l g (w.alloc o).heap.size) : MarksG wa B T sz l n mc (outs ++ [.slice (some ⟨g, 0, none⟩) (n + j) cap]) j := by
  rw [reps_add] at hnew
  obtain ⟨hcap, hcells⟩ := own_cellsG hnew
  have hg := hnew.lt g rfl
  refine ⟨hold, fun x hx => ?_⟩
  rcases List.mem_append.1 hx with hx | hx
  · obtain ⟨g1, no, c1, ho⟩ := h.outs x hx
    have hlt := ho.lt
    have hfew := ho.few
    have same : wa.heap[g1]? = (w.alloc o).heap[g1]? → ∀ q u, (reps no mc)[q]? = some u → wa.cell? ⟨g1, q, none⟩ = some u := fun he q u hq => by
      rw [World.cell?_of_block (a := ⟨g1, q, none⟩) (he.trans (Below.heap_alloc _ _ _ hlt))]; exact ho.cells q u hq
    have hsz : w.heap.size ≤ wa.heap.size := by
      have h1 : (w.alloc o).heap.size = w.heap.size + 1 := World.size_alloc _ _
      rcases hlay with ⟨_, hgr⟩ | ⟨_, hgr⟩ <;> (have := hgr.size; omega)
    refine ⟨g1, no, c1, ho.val, by omega, ho.room, ho.base, by omega, ?_⟩
    rcases hlay with ⟨_, hgr⟩ | ⟨_, hgr⟩
    · by_cases he : g1 = g
      · subst he; exact fun q u hq => hcells q u (reps_pre (by omega) hq)
      · exact same (hgr.block g1 (by rw [World.size_alloc]; omega) (fun e => he (Option.some.inj e)))
    · exact same (hgr.block g1 (by rw [World.size_alloc]; omega) (fun e => by cases e))
  · simp only [List.mem_singleton] at hx
    subst hx
    exact ⟨g, n + j, cap, rfl, Nat.le_refl _, hcap, hg.1, hg.2, hcells⟩
end Go.Proofs.YtdjllnhahhjgmaaGreatDoor
namespace Go.Proofs.YtdjllnhahhjgmaaGreatDoor
open Go.RowKit Chron
def callerB : ByteArray := ⟨#[116, 104, 101, 32, 99, 97, 108, 108, 101, 114, 39, 115]⟩
def badV (r : Nat) : List Value := [.int .i64 (-1000 - (r : Int)), .string ⟨#[]⟩, .int .i64 0, .string callerB, .slice none 0 0]
def EntG (w : World) (b : Nat) (tv ev : Value) (most : Nat) (mc : List Value) (v : Value) : Prop :=
  v = .slice none 0 0 ∨ ∃ g no cap, OutG w (b + 1) most mc v g no cap ∧ tv.ownBlock ≠ some g ∧ ev.ownBlock ≠ some g
structure Book2 (b : Nat) (tv ev : Value) (xs ys : List Value) (w : World) : Prop where
  blk : w.heap[b]? = some (.cells #[tv, ev] 34)
  tags : w.ownsRow (b + 1) 22 1 tv xs.length xs
  evts : w.ownsRow (b + 1) 23 1 ev ys.length ys
  te : ∀ q, tv.ownBlock = some q → ev.ownBlock ≠ some q
  full : ∀ i v, xs[i]? = some v → EntG w b tv ev 7 [.string (badB (i / 4))] v
  fullE : ∀ i v, ys[i]? = some v → EntG w b tv ev 203 (badV (i / 4)) v
def Clear (b : Nat) (tv ev : Value) (xs ys : List Value) (q : Nat) : Prop := q ≠ b ∧ tv.ownBlock ≠ some q ∧ ev.ownBlock ≠ some q ∧ (∀ v ∈ xs, v.ownBlock ≠ some q) ∧ ∀ v ∈ ys, v.ownBlock ≠ some q
theorem Book2.lt {b : Nat} {tv ev : Value} {xs ys : List Value} {w : World} (h : Book2 b tv ev xs ys w) : b < w.heap.size := (Array.getElem?_eq_some_iff.1 h.blk).1
theorem Book2.keep {b : Nat} {tv ev : Value} {xs ys : List Value} {w w' : World} (h : Book2 b tv ev xs ys w) (hs : w.heap.size ≤ w'.heap.size) (hb : ∀ q, q < w.heap.size → ¬ Clear b tv ev xs ys q → w'.heap[q]? = w.heap[q]?) : Book2 b tv ev xs ys w' := by
  have ent : ∀ (most : Nat) (mc : List Value) (v : Value), (v ∈ xs ∨ v ∈ ys) → EntG w b tv ev most mc v → EntG w' b tv ev most mc v := by
    intro most mc v hv he
    rcases he with he | ⟨g, no, cap, ho, h2, h3⟩
    · exact .inl he
    · refine .inr ⟨g, no, cap, ho.keep hs (hb g ho.lt (fun hc => ?_)), h2, h3⟩
      rcases hv with hv | hv
      · exact hc.2.2.2.1 v hv ho.blk
      · exact hc.2.2.2.2 v hv ho.blk
  refine ⟨(hb b h.lt (fun hc => hc.1 rfl)).trans h.blk, ?_, ?_, h.te, fun i v hv => ent _ _ v (.inl (List.mem_of_getElem? hv)) (h.full i v hv), fun i v hv => ent _ _ v (.inr (List.mem_of_getElem? hv)) (h.fullE i v hv)⟩
  · exact own_of_block h.tags fun q hq => hb q (h.tags.lt _ hq).2 (fun hc => hc.2.1 hq)
  · exact own_of_block h.evts fun q hq => hb q (h.evts.lt _ hq).2 (fun hc => hc.2.2.1 hq)
theorem Book2.far {b : Nat} {tv ev : Value} {xs ys : List Value} {w w' : World} {R : List (Option Nat)} (h : Book2 b tv ev xs ys w) (hf : Far w w' R) (hR : ∀ q, some q ∈ R → q < w.heap.size → Clear b tv ev xs ys q) : Book2 b tv ev xs ys w' :=
  h.keep hf.size fun q hq hc => hf.block q hq fun _ hr e => hc (hR q (e ▸ hr) hq)
theorem Book2.below {b : Nat} {tv ev : Value} {xs ys : List Value} {w w' : World} (h : Book2 b tv ev xs ys w) (hb : Below w.heap.size w w') : Book2 b tv ev xs ys w' :=
  h.keep hb.size fun q hq _ => hb.block q hq
/- where the blocks of an append lie -/
theorem Lay.facts {w wa : World} {v : Value} {g : Nat} {o : Obj} (h : Lay (w.alloc o) wa v g (w.alloc o).heap.size) : w.heap.size ≤ wa.heap.size ∧ (v.ownBlock = some g ∨ w.heap.size < g) ∧ Far w wa [v.ownBlock] := by
  have hsa : (w.alloc o).heap.size = w.heap.size + 1 := World.size_alloc _ _
  rcases h with ⟨h1, hgr⟩ | ⟨h1, hgr⟩
  · have hs := hgr.size
    refine ⟨by omega, .inl h1, hgr.os, hgr.tape, hgr.output, by omega, fun q hq hR => ?_⟩
    exact (hgr.block q (by omega) (fun e => hR v.ownBlock (by simp) (h1.trans e.symm))).trans (Below.heap_alloc _ _ _ hq)
  · have hs := hgr.size
    refine ⟨by omega, .inr (by omega), hgr.os, hgr.tape, hgr.output, by omega, fun q hq _ => ?_⟩
    exact (hgr.block q (by omega) (fun e => by cases e)).trans (Below.heap_alloc _ _ _ hq)
theorem Far.set_out {a b : World} {R : List (Option Nat)} (h : Far a b R) (p : Nat) (i : Nat) (u : Value) : Far a (b.setCell ⟨p, i, none⟩ u) (some p :: R) :=
  (h.wide (fun r hr => List.mem_cons_of_mem _ hr)).setCell (p := ⟨p, i, none⟩) (.inl (by simp)) u
/- four more entries of texts -/
theorem Book2.pushT {b : Nat} {tv ev : Value} {xs ys zs : List Value} {g cap r : Nat} {w wa : World} {o : Obj} (h : Book2 b tv ev xs ys w) (hx : xs.length = 4 * r) (hz4 : zs.length = 4)
    (hzs : ∀ v ∈ zs, EntG w b tv ev 7 [.string (badB r)] v)
    (hnew : wa.ownsRow (b + 1) 22 1 (.slice (some ⟨g, 0, none⟩) (xs.length + 4) cap) (xs.length + 4) (xs ++ zs)) (hlay : Lay (w.alloc o) wa tv g (w.alloc o).heap.size) :
    wa.heap[b]? = some (.cells #[tv, ev] 34) ∧
    Book2 b (.slice (some ⟨g, 0, none⟩) (xs.length + 4) cap) ev (xs ++ zs) ys (wa.setCell ⟨b, 0, none⟩ (.slice (some ⟨g, 0, none⟩) (xs.length + 4) cap)) ∧
    Far w (wa.setCell ⟨b, 0, none⟩ (.slice (some ⟨g, 0, none⟩) (xs.length + 4) cap)) [some b, tv.ownBlock] ∧
    ∀ q, q < w.heap.size → Clear b tv ev xs ys q → (∀ v ∈ zs, v.ownBlock ≠ some q) → Clear b (.slice (some ⟨g, 0, none⟩) (xs.length + 4) cap) ev (xs ++ zs) ys q := by
  obtain ⟨hsz, hg, hfar⟩ := hlay.facts
  have hblt := h.lt
  have hbt : tv.ownBlock ≠ some b := fun e => by have := (h.tags.lt b e).1; omega
  have hbe : ev.ownBlock ≠ some b := fun e => by have := (h.evts.lt b e).1; omega
  have hgb := (hnew.lt g rfl).1
  have hblk : wa.heap[b]? = some (.cells #[tv, ev] 34) := (hfar.block b hblt (by simp; exact hbt)).trans h.blk
  have same : ∀ q, q < w.heap.size → q ≠ b → tv.ownBlock ≠ some q → (wa.setCell ⟨b, 0, none⟩ (.slice (some ⟨g, 0, none⟩) (xs.length + 4) cap)).heap[q]? = w.heap[q]? := fun q hq hne ht =>
    (set_other hne).trans (hfar.block q hq (by simp; exact ht))
  have hgne : ∀ q, q < w.heap.size → tv.ownBlock ≠ some q → g ≠ q := fun q hq ht e => by
    subst e
    rcases hg with hg | hg
    · exact ht hg
    · omega
  have ent : ∀ (most : Nat) (mc : List Value) (v : Value), EntG w b tv ev most mc v → EntG (wa.setCell ⟨b, 0, none⟩ (.slice (some ⟨g, 0, none⟩) (xs.length + 4) cap)) b (.slice (some ⟨g, 0, none⟩) (xs.length + 4) cap) ev most mc v := by
    intro most mc v he
    rcases he with he | ⟨g1, no, c1, ho, h2, h3⟩
    · exact .inl he
    · refine .inr ⟨g1, no, c1, ho.keep (by rw [size_set]; exact hsz) (same g1 ho.lt (by have := ho.base; omega) h2), ?_, h3⟩
      simp only [Value.ownBlock, ne_eq, Option.some.injEq]
      exact hgne g1 ho.lt h2
  refine ⟨hblk, ⟨book_set hblk, ?_, ?_, ?_, ?_, ?_⟩, ?_, ?_⟩
  · have hl2 : (xs ++ zs).length = xs.length + 4 := by rw [List.length_append, hz4]
    rw [hl2]; exact ownsRow_setCell_below hnew (Nat.lt_succ_self _) _
  · exact own_of_block h.evts fun q hq => same q (h.evts.lt _ hq).2 (fun e => hbe (e ▸ hq)) (fun e => h.te q e hq)
  · intro q hq he
    simp only [Value.ownBlock, Option.some.injEq] at hq
    exact hgne q (h.evts.lt _ he).2 (fun e => h.te q e he) hq
  · intro i v hv
    by_cases hi : i < xs.length
    · rw [List.getElem?_append_left hi] at hv
      exact ent _ _ _ (h.full i v hv)
    · rw [List.getElem?_append_right (by omega)] at hv
      have hi2 := (List.getElem?_eq_some_iff.1 hv).1
      have hm : i / 4 = r := by omega
      rw [hm]
      exact ent _ _ _ (hzs v (List.mem_of_getElem? hv))
  · intro i v hv
    exact ent _ _ _ (h.fullE i v hv)
  · exact hfar.set_out b 0 _
  · intro q hq hc hz
    refine ⟨hc.1, ?_, hc.2.2.1, fun v hv => ?_, hc.2.2.2.2⟩
    · simp only [Value.ownBlock, ne_eq, Option.some.injEq]
      exact hgne q hq hc.2.1
    · rcases List.mem_append.1 hv with hv | hv
      · exact hc.2.2.2.1 v hv
      · exact hz v hv
/- four more entries of events -/
theorem Book2.pushE {b : Nat} {tv ev : Value} {xs ys zs : List Value} {g cap r : Nat} {w wa : World} {o : Obj} (h : Book2 b tv ev xs ys w) (hx : ys.length = 4 * r) (hz4 : zs.length = 4)
    (hzs : ∀ v ∈ zs, EntG w b tv ev 203 (badV r) v)
    (hnew : wa.ownsRow (b + 1) 23 1 (.slice (some ⟨g, 0, none⟩) (ys.length + 4) cap) (ys.length + 4) (ys ++ zs)) (hlay : Lay (w.alloc o) wa ev g (w.alloc o).heap.size) :
    wa.heap[b]? = some (.cells #[tv, ev] 34) ∧
    Book2 b tv (.slice (some ⟨g, 0, none⟩) (ys.length + 4) cap) xs (ys ++ zs) (wa.setCell ⟨b, 1, none⟩ (.slice (some ⟨g, 0, none⟩) (ys.length + 4) cap)) ∧
    Far w (wa.setCell ⟨b, 1, none⟩ (.slice (some ⟨g, 0, none⟩) (ys.length + 4) cap)) [some b, ev.ownBlock] := by
  obtain ⟨hsz, hg, hfar⟩ := hlay.facts
  have hblt := h.lt
  have hbt : tv.ownBlock ≠ some b := fun e => by have := (h.tags.lt b e).1; omega
  have hbe : ev.ownBlock ≠ some b := fun e => by have := (h.evts.lt b e).1; omega
  have hgb := (hnew.lt g rfl).1
  have hblk : wa.heap[b]? = some (.cells #[tv, ev] 34) := (hfar.block b hblt (by simp; exact hbe)).trans h.blk
  have same : ∀ q, q < w.heap.size → q ≠ b → ev.ownBlock ≠ some q → (wa.setCell ⟨b, 1, none⟩ (.slice (some ⟨g, 0, none⟩) (ys.length + 4) cap)).heap[q]? = w.heap[q]? := fun q hq hne ht =>
    (set_other hne).trans (hfar.block q hq (by simp; exact ht))
  have hgne : ∀ q, q < w.heap.size → ev.ownBlock ≠ some q → g ≠ q := fun q hq ht e => by
    subst e
    rcases hg with hg | hg
    · exact ht hg
    · omega
  have ent : ∀ (most : Nat) (mc : List Value) (v : Value), EntG w b tv ev most mc v → EntG (wa.setCell ⟨b, 1, none⟩ (.slice (some ⟨g, 0, none⟩) (ys.length + 4) cap)) b tv (.slice (some ⟨g, 0, none⟩) (ys.length + 4) cap) most mc v := by
    intro most mc v he
    rcases he with he | ⟨g1, no, c1, ho, h2, h3⟩
    · exact .inl he
    · refine .inr ⟨g1, no, c1, ho.keep (by rw [size_set]; exact hsz) (same g1 ho.lt (by have := ho.base; omega) h3), h2, ?_⟩
      simp only [Value.ownBlock, ne_eq, Option.some.injEq]
      exact hgne g1 ho.lt h3
  refine ⟨hblk, ⟨book_set hblk, ?_, ?_, ?_, ?_, ?_⟩, ?_⟩
  · exact own_of_block h.tags fun q hq => same q (h.tags.lt _ hq).2 (fun e => hbt (e ▸ hq)) (fun e => h.te q hq e)
  · have hl2 : (ys ++ zs).length = ys.length + 4 := by rw [List.length_append, hz4]
    rw [hl2]; exact ownsRow_setCell_below hnew (Nat.lt_succ_self _) _
  · intro q hq he
    simp only [Value.ownBlock, Option.some.injEq] at he
    exact hgne q (h.tags.lt _ hq).2 (fun e => h.te q hq e) he
  · intro i v hv
    exact ent _ _ _ (h.full i v hv)
  · intro i v hv
    by_cases hi : i < ys.length
    · rw [List.getElem?_append_left hi] at hv
      exact ent _ _ _ (h.fullE i v hv)
    · rw [List.getElem?_append_right (by omega)] at hv
      have hi2 := (List.getElem?_eq_some_iff.1 hv).1
      have hm : i / 4 = r := by omega
      rw [hm]
      exact ent _ _ _ (hzs v (List.mem_of_getElem? hv))
  · exact hfar.set_out b 1 _
end Go.Proofs.YtdjllnhahhjgmaaGreatDoor
namespace Go.Proofs.YtdjllnhahhjgmaaGreatDoor
open Go.RowKit Chron
/- where a keeping stands between its appends -/
structure KT (b : Nat) (tv ev : Value) (xs ys : List Value) (w wx : World) (l : Value) (T sz n : Nat) (mc outs : List Value) (k : Nat) : Prop where
  mks : MarksG wx (b + 1) T sz l n mc outs k
  bk : Book2 b tv ev xs ys wx
  far : Far w wx [l.ownBlock]
  new : ∀ o ∈ outs, ∀ q, o.ownBlock = some q → l.ownBlock = some q ∨ w.heap.size ≤ q
  clr : ∀ q, l.ownBlock = some q → Clear b tv ev xs ys q
  low : (∀ q, tv.ownBlock = some q → q < w.heap.size) ∧ ∀ q, ev.ownBlock = some q → q < w.heap.size
theorem KT.push {b : Nat} {tv ev : Value} {xs ys : List Value} {w wx wa : World} {l : Value} {T sz n g cap k j : Nat} {mc outs : List Value} {o : Obj} (h : KT b tv ev xs ys w wx l T sz n mc outs k) (hj : k ≤ j)
    (hnew : wa.ownsRow (b + 1) T sz (.slice (some ⟨g, 0, none⟩) (n + j) cap) (n + j) (reps n mc ++ reps j mc)) (hold : wa.ownsRow (b + 1) T sz l n (reps n mc))
    (hlay : Lay (wx.alloc o) wa l g (wx.alloc o).heap.size) : KT b tv ev xs ys w wa l T sz n mc (outs ++ [.slice (some ⟨g, 0, none⟩) (n + j) cap]) j := by
  obtain ⟨hsz, hg, hfar⟩ := hlay.facts
  have hs := h.far.size
  refine ⟨h.mks.push hj hnew hold hlay, h.bk.far hfar (fun q hq _ => h.clr q (by simpa using (List.mem_singleton.1 hq).symm)), h.far.trans hfar, fun v hv q hq => ?_, h.clr, h.low⟩
  rcases List.mem_append.1 hv with hv | hv
  · exact h.new v hv q hq
  · simp only [List.mem_singleton] at hv
    subst hv
    simp only [Value.ownBlock, Option.some.injEq] at hq
    subst hq
    rcases hg with hg | hg
    · exact .inl hg
    · exact .inr (by omega)
theorem KT.entries {b : Nat} {tv ev : Value} {xs ys : List Value} {w wx : World} {l : Value} {T sz n most k : Nat} {mc outs : List Value} (h : KT b tv ev xs ys w wx l T sz n mc outs k) (h7 : n + k ≤ most) :
    ∀ v ∈ l :: outs, EntG wx b tv ev most mc v := by
  intro v hv
  rcases List.mem_cons.1 hv with rfl | hv
  · rcases h.mks.own.2 with ⟨h1, _⟩ | ⟨g, cap, cur, rfl, a2, a3, a4, a5, a6, a7⟩
    · exact .inl h1
    · have hc := h.clr g rfl
      exact .inr ⟨g, n, cap, ⟨rfl, by omega, a4, a2, (Array.getElem?_eq_some_iff.1 a3).1, (own_cellsG h.mks.own).2⟩, hc.2.1, hc.2.2.1⟩
  · obtain ⟨g, no, cap, ho⟩ := h.mks.outs v hv
    have hne : tv.ownBlock ≠ some g ∧ ev.ownBlock ≠ some g := by
      rcases h.new v hv g ho.blk with h1 | h1
      · have hc := h.clr g h1
        exact ⟨hc.2.1, hc.2.2.1⟩
      · exact ⟨fun e => by have := h.low.1 g e; omega, fun e => by have := h.low.2 g e; omega⟩
    exact .inr ⟨g, no, cap, ⟨ho.val, Nat.le_trans ho.few h7, ho.room, ho.base, ho.lt, ho.cells⟩, hne.1, hne.2⟩
theorem KT.apart {b : Nat} {tv ev : Value} {xs ys : List Value} {w wx : World} {l : Value} {T sz n k : Nat} {mc outs : List Value} (h : KT b tv ev xs ys w wx l T sz n mc outs k) {q : Nat} (hq : q < w.heap.size) (hl : l.ownBlock ≠ some q) : ∀ v ∈ l :: outs, v.ownBlock ≠ some q := by
  intro v hv e
  rcases List.mem_cons.1 hv with rfl | hv
  · exact hl e
  · rcases h.new v hv q e with h1 | h1
    · exact hl h1
    · omega
theorem far_cons {a b c : World} {x y z : Option Nat} (h : Far a b [z]) (k : Far b c [x, y]) : Far a c [x, y, z] :=
  (h.wide (by simp)).trans (k.wide (by simp))
theorem reps_str (n : Nat) (m : ByteArray) : reps n [.string m] = List.replicate n (.string m) := reps_one _ _
set_option maxRecDepth 100000 in
set_option maxHeartbeats 2000000 in
theorem keepTags2_any (b r : Nat) (tv ev : Value) (xs ys : List Value) (l : Value) (ts : List ByteArray) (w : World) (HB : Hid (Book2 b tv ev xs ys w)) (HO : Hid (w.ownsRow (b + 1) 9 1 l ts.length (ts.map Value.string)))
    (HC : Hid (∀ q, l.ownBlock = some q → Clear b tv ev xs ys q)) (h4 : ts.length ≤ 4) (HX : Hid (xs.length = 4 * r ∧ r ≤ 3000000)) :
    Calls Tryz.prog 26 #[.pointer (some ⟨b, 0, none⟩), l] w fun e w' => e = .returned (.tuple #[]) ∧ ∃ tv' xs', Hid (Book2 b tv' ev xs' ys w') ∧ Hid (xs'.length = 4 * (r + 1)) ∧ Hid (Far w w' [some b, tv.ownBlock, l.ownBlock]) ∧ Hid (∀ q, q < w.heap.size → Clear b tv ev xs ys q → l.ownBlock ≠ some q → Clear b tv' ev xs' ys q) := by
  obtain ⟨i0, hi, hz0, hz1, hz2⟩ := info_parts infoText
  obtain ⟨i1, hi1, hy0, hy1, hy2⟩ := info_parts infoTexts
  obtain ⟨ta, tc, htv, htc, _, hT⟩ := row_at HB.out.tags
  subst htv
  obtain ⟨la, lc, rfl, hla⟩ := own_tags HO.out
  obtain ⟨d0, d1, df⟩ := book_cells HB.out.blk
  have hxs : xs.length ≤ 12000000 := by have := HX.out; omega
  have HLOW : Hid ((∀ q, (Value.slice ta xs.length tc).ownBlock = some q → q < w.heap.size) ∧ ∀ q, ev.ownBlock = some q → q < w.heap.size) := ⟨fun q hq => (HB.out.tags.lt q hq).2, fun q hq => (HB.out.evts.lt q hq).2⟩
  clear hT hla
  go_enter Tryz.func26, Tryz.ntmps26
  go_wp2_with fail
  refine (badTag_any _ _ (by omega) (by show Int.toNat _ < _; have := HX.out; omega)).mono ?_
  rintro e w1 ⟨rfl, hb1⟩
  obtain ⟨m, hm, HM⟩ : ∃ m, badB ((xs.length : Int) / 4).toNat = m ∧ Hid (m = badB r) := ⟨_, rfl, by show badB _ = badB r; congr 1; have := HX.out; omega⟩
  have HB1 := hide0 (HB.out.below hb1)
  have HO1 := hide0 (own_below HO.out hb1)
  have HF1 : Hid (Far w w1 [(Value.slice la ts.length lc).ownBlock]) := Far.of_below hb1 (Nat.le_refl _)
  clear hb1 HB HO d0 d1 df
  go_wp2
  go_loopw [5] (fun i wx => ∃ k : Nat, k ≤ ts.length ∧ i = .int .i64 k ∧ Hid (wx.ownsRow (b + 1) 9 1 (.slice la ts.length lc) ts.length (mixed ts m k)) ∧ Hid (Far w1 wx [(Value.slice la ts.length lc).ownBlock])) (fun i _ => ts.length - (intOf i).toNat)
  case atStart => exact ⟨0, Nat.zero_le _, rfl, by rw [mixed_zero]; exact HO1, Far.refl _ _⟩
  case round =>
    obtain ⟨k, hk, rfl, HOk, HBk⟩ := hrel
    by_cases hlt : k < ts.length
    · obtain ⟨g, rfl, hgB, x, hcell, hfr⟩ : ∃ g, la = some ⟨g, 0, none⟩ ∧ b + 1 ≤ g ∧ ∃ x, wr.cell? ⟨g, k, none⟩ = some x ∧ wr.frozen? ⟨g, k, none⟩ = false := by
        obtain ⟨h1, ⟨h2, h3⟩ | ⟨g, cap, cur, he, a2, a3, a4, a5, a6, a7⟩⟩ := HOk.out
        · omega
        · cases he
          exact ⟨g, rfl, a2, cur[k]'(by omega), by simp [World.cell?, a3], by simp [World.frozen?, a3]⟩
      have HS := hide0 (own_set (i := k) (u := .string m) HOk.out)
      rw [mixed_set ts m k hlt] at HS
      have HSB := hide0 (HBk.out.setCell (p := ⟨g, k, none⟩) (.inl (by simp [Value.ownBlock])) (.string m))
      clear hgB
      go_wp2
      go_roundw
      case rel => exact ⟨k + 1, by omega, by go_num, HS, HSB⟩
      case measure => simp [intOf]; omega
    · have hkn : k = ts.length := by omega
      have HOn := hide0 HOk.out
      rw [mixed_end ts m k hkn, ← reps_str] at HOn
      have HK0 : Hid (KT b (.slice ta xs.length tc) ev xs ys w wr (.slice la ts.length lc) 9 1 ts.length [.string m] [] 0) := ⟨⟨HOn.out, fun o ho => by cases ho⟩, HB1.out.far HBk.out (fun q hq _ => HC.out q (by simpa using (List.mem_singleton.1 hq).symm)), HF1.out.trans HBk.out, (fun o ho => by cases ho), HC.out, HLOW.out⟩
      clear HOn HOk HBk HB1 HO1 HF1 hm hkn
      have hmx : ∀ j, j ≤ 3 → ts.length + j ≤ maxLen := fun j hj => by unfold maxLen; omega
      have hby : ∀ j, j ≤ 3 → (ts.length + j) * 16 ≤ 140737488355328 := fun j hj => by omega
      have hxm : xs.length + 4 ≤ maxLen := by unfold maxLen; omega
      have hxb : (xs.length + 4) * 24 ≤ 140737488355328 := by omega
      go_wp2_with (first
        | (have hz := HK3; clear hz; at_builtin; go_must (refine wpList_append_keptG _ rfl _ _ 31 rfl (b + 1) 22 i1 (.slice none 0 0) 1 24 Tryz.underlying31 hi1 hy0 hy1 hy2 rfl Nat.one_pos (.slice ta xs.length tc) xs.length xs rfl (HK3.out.bk.tags.alloc _) ⟨_, 0, none⟩ 4 4 [.slice la ts.length lc, .slice (some ⟨g1, 0, none⟩) (ts.length + 1) cg1, .slice (some ⟨g2, 0, none⟩) (ts.length + 2) cg2, .slice (some ⟨g3, 0, none⟩) (ts.length + 3) cg3] rfl rfl news_of slices_one (by omega) hxm hxb (le_alloc2 HK3.out.bk.lt) ?_)
           intro g4 cg4 w4 hn4 ho4 hl4
           obtain ⟨hblk, HBK, hfar4, hclr4⟩ := HK3.out.bk.pushT HX.out.1 rfl (by rw [← HM.out]; exact HK3.out.entries (by omega)) hn4 hl4
           have HFar := hide0 (far_cons HK3.out.far hfar4)
           have HClr : Hid (∀ q, q < w.heap.size → Clear b (.slice ta xs.length tc) ev xs ys q → (Value.slice la ts.length lc).ownBlock ≠ some q → _) := fun q hq hc hl => hclr4 q (Nat.lt_of_lt_of_le hq HK3.out.far.size) hc (HK3.out.apart hq hl)
           have HBook := hide0 HBK
           obtain ⟨e0, e1, ef⟩ := book_cells hblk
           clear hn4 ho4 hl4 HBK hfar4 hclr4 hblk HK3 d0 d1 df)
        | (have hz := HK2; clear hz; at_builtin; go_must (refine wpList_append_keptG _ rfl _ _ 22 rfl (b + 1) 9 i0 (.string ⟨#[]⟩) 1 16 Tryz.underlying22 hi hz0 hz1 hz2 rfl Nat.one_pos (.slice la ts.length lc) ts.length (reps ts.length [.string m]) rfl (HK2.out.mks.own.alloc _) ⟨_, 0, none⟩ 3 3 (reps 3 [.string m]) rfl rfl news_of (all_one 3 m) (by omega) (hmx 3 (by omega)) (hby 3 (by omega)) (le_alloc2 HK2.out.bk.lt) ?_)
           intro g3 cg3 wg3 hng3 hog3 hlg3
           have HK3 := hide0 (HK2.out.push (j := 3) (by omega) hng3 hog3 hlg3)
           obtain ⟨d0, d1, df⟩ := book_cells HK3.out.bk.blk
           clear hng3 hog3 hlg3 HK2)
        | (have hz := HK1; clear hz; at_builtin; go_must (refine wpList_append_keptG _ rfl _ _ 22 rfl (b + 1) 9 i0 (.string ⟨#[]⟩) 1 16 Tryz.underlying22 hi hz0 hz1 hz2 rfl Nat.one_pos (.slice la ts.length lc) ts.length (reps ts.length [.string m]) rfl (HK1.out.mks.own.alloc _) ⟨_, 0, none⟩ 2 2 (reps 2 [.string m]) rfl rfl news_of (all_one 2 m) (by omega) (hmx 2 (by omega)) (hby 2 (by omega)) (le_alloc2 HK1.out.bk.lt) ?_)
           intro g2 cg2 wg2 hng2 hog2 hlg2
           have HK2 := hide0 (HK1.out.push (j := 2) (by omega) hng2 hog2 hlg2)
           clear hng2 hog2 hlg2 HK1)
        | (have hz := HK0; clear hz; at_builtin; go_must (refine wpList_append_keptG _ rfl _ _ 22 rfl (b + 1) 9 i0 (.string ⟨#[]⟩) 1 16 Tryz.underlying22 hi hz0 hz1 hz2 rfl Nat.one_pos (.slice la ts.length lc) ts.length (reps ts.length [.string m]) rfl (HK0.out.mks.own.alloc _) ⟨_, 0, none⟩ 1 1 (reps 1 [.string m]) rfl rfl news_of (all_one 1 m) (by omega) (hmx 1 (by omega)) (hby 1 (by omega)) (le_alloc2 HK0.out.bk.lt) ?_)
           intro g1 cg1 wg1 hng1 hog1 hlg1
           have HK1 := hide0 (HK0.out.push (j := 1) (by omega) hng1 hog1 hlg1)
           clear hng1 hog1 hlg1 HK0))
      go_end0
      exact ⟨rfl, _, _, HBook, (by have := HX.out; show _ = _; simp; omega), HFar, HClr⟩
end Go.Proofs.YtdjllnhahhjgmaaGreatDoor
namespace Go.Proofs.YtdjllnhahhjgmaaGreatDoor
open Go.RowKit Chron
set_option maxRecDepth 100000 in
theorem badEvent_any (n : Int) (r : Nat) (w : World) (hn : n = (r : Int)) (hr : r ≤ 3000000) :
    Calls Tryz.prog 27 #[.int .i64 n] w fun e w' => e = .returned (.agg (badV r).toArray) ∧ Below w.heap.size w w' := by
  subst hn
  go_enter Tryz.func27, Tryz.ntmps27
  go_wp2
  obtain ⟨c0, c1, c2, c3, c4, _⟩ := res_cells (heap_alloc_new w (.cells #[.int .i64 (-1000 - (r : Int)), .string ⟨#[]⟩, .int .i64 0, .string ⟨#[116, 104, 101, 32, 99, 97, 108, 108, 101, 114, 39, 115]⟩, .slice none 0 0] 29))
  refine bodyPost_ret (v := .agg #[.int .i64 (-1000 - (r : Int)), .string ⟨#[]⟩, .int .i64 0, .string callerB, .slice none 0 0]) (by simp [results, Tryz.results27, go_sem, c0, c1, c2, c3, c4, callerB]) rfl ⟨rfl, (Below.refl _ _).alloc (Nat.le_refl _) _⟩
theorem own_setG {w : World} {base g n cap i sz : Nat} {e : TypeId} {xs : List Value} {u : Value} (h : w.ownsRow base e sz (.slice (some ⟨g, 0, none⟩) n cap) n xs) :
    (w.setCell ⟨g, i, none⟩ u).ownsRow base e sz (.slice (some ⟨g, 0, none⟩) n cap) n (xs.set i u) := by
  obtain ⟨h1, ⟨h2, _⟩ | ⟨g', cap', cur, hv, a2, a3, a4, a5, a6, a7⟩⟩ := h
  · cases h2
  · cases hv
    refine ⟨by rw [List.length_set]; exact h1, .inr ⟨g, cap, cur.setIfInBounds i u, rfl, a2, ?_, a4, a5, by simpa using a6, ?_⟩⟩
    · rw [setCell_eq_setRow w g i cur e (0, 0) u a3, setRow_heap w g _ _ e (0, 0) a3]
    · rw [Array.toList_setIfInBounds, List.take_set, a7]
theorem set_five (P S : List Value) (x0 x1 x2 x3 x4 a0 a1 a2 a3 a4 : Value) {k : Nat} (hk : P.length = k) :
    (((((P ++ x0 :: x1 :: x2 :: x3 :: x4 :: S).set k a0).set (k + 1) a1).set (k + 2) a2).set (k + 3) a3).set (k + 4) a4 = P ++ a0 :: a1 :: a2 :: a3 :: a4 :: S := by
  subst hk
  simp
def mixG (its : List Item) (mc : List Value) (k : Nat) : List Value := reps k mc ++ fives (its.drop k)
theorem mixG_zero (its : List Item) (mc : List Value) : mixG its mc 0 = fives its := by simp [mixG, reps]
theorem mixG_end (its : List Item) (mc : List Value) {k : Nat} (h : k = its.length) : mixG its mc k = reps its.length mc := by subst h; simp [mixG, fives]
theorem mixG_step {its : List Item} {k : Nat} (h : k < its.length) (a0 a1 a2 a3 a4 : Value) :
    ((((((mixG its [a0, a1, a2, a3, a4] k).set (k * 5) a0).set (k * 5 + 1) a1).set (k * 5 + 2) a2).set (k * 5 + 3) a3).set (k * 5 + 4) a4) = mixG its [a0, a1, a2, a3, a4] (k + 1) := by
  have hd : its.drop k = its[k] :: its.drop (k + 1) := List.drop_eq_getElem_cons h
  have e1 : fives (its.drop k) = .int .i64 its[k].ev.kind :: .string its[k].ev.task :: .int .i64 its[k].ev.time :: .string its[k].ev.body :: .slice its[k].at' its[k].ev.tags.length its[k].cap :: fives (its.drop (k + 1)) := by
    rw [hd]; rfl
  rw [mixG, e1, set_five _ _ _ _ _ _ _ _ _ _ _ _ (by rw [reps_len]; rfl), mixG, ← reps_add, List.append_assoc]
  rfl
/- what is still to be kept: the events, and the tags of the last ones -/
structure Pend (b : Nat) (tv ev : Value) (xs ys : List Value) (w : World) (lv : Value) (its : List Item) (k : Nat) : Prop where
  row : w.ownsRow (b + 1) 29 5 lv its.length (fives its)
  tags : ∀ it ∈ its.drop k, w.ownsRow (b + 1) 9 1 it.tv it.ev.tags.length (it.ev.tags.map Value.string)
  apart : ∀ q ∈ tagBs (its.drop k), lv.ownBlock ≠ some q
  dist : (tagBs (its.drop k)).Nodup
  clrE : ∀ q, lv.ownBlock = some q → Clear b tv ev xs ys q
  clrT : ∀ q ∈ tagBs (its.drop k), Clear b tv ev xs ys q
theorem MadeO.pend {b : Nat} {tv ev : Value} {xs ys : List Value} {w : World} {lv : Value} {its : List Item} {N : Nat} (h : MadeO N w lv its) (hN : b + 1 ≤ N) (hc : ∀ q, N ≤ q → Clear b tv ev xs ys q) : Pend b tv ev xs ys w lv its 0 :=
  ⟨own_mono h.row hN, fun it hi => own_mono (h.tags it (by simpa using hi)) hN, by simpa using h.apart, by simpa using h.dist, fun q hq => hc q (h.row.lt _ hq).1, fun q hq => hc q (h.tag_lt (by simpa using hq)).1⟩
theorem Pend.next {b : Nat} {tv tv' ev : Value} {xs xs' ys : List Value} {w w' : World} {lv : Value} {its : List Item} {k : Nat} {it : Item} (h : Pend b tv ev xs ys w lv its k) (hk : k < its.length) (hit : its[k] = it)
    (hf : Far w w' [some b, tv.ownBlock, it.tv.ownBlock]) (hcl : ∀ q, q < w.heap.size → Clear b tv ev xs ys q → it.tv.ownBlock ≠ some q → Clear b tv' ev xs' ys q) : Pend b tv' ev xs' ys w' lv its (k + 1) := by
  have hd : its.drop k = it :: its.drop (k + 1) := by rw [← hit]; exact List.drop_eq_getElem_cons hk
  have hsub : ∀ q, q ∈ tagBs (its.drop (k + 1)) → q ∈ tagBs (its.drop k) ∧ it.tv.ownBlock ≠ some q := by
    intro q hq
    have hq2 : q ∈ tagBs (its.drop k) := by
      rw [tagBs_mem] at hq ⊢
      obtain ⟨x, hx, hb⟩ := hq
      exact ⟨x, by rw [hd]; exact List.mem_cons_of_mem _ hx, hb⟩
    refine ⟨hq2, fun e => ?_⟩
    have hdist := h.dist
    rw [hd] at hdist
    simp only [tagBs, List.filterMap_cons, e] at hdist
    exact (List.nodup_cons.1 hdist).1 hq
  have same : ∀ q, q < w.heap.size → Clear b tv ev xs ys q → it.tv.ownBlock ≠ some q → w'.heap[q]? = w.heap[q]? := by
    intro q hq hc hne
    refine hf.block q hq ?_
    intro r hr
    simp only [List.mem_cons, List.mem_nil_iff, or_false] at hr
    rcases hr with rfl | rfl | rfl
    · simp only [ne_eq, Option.some.injEq]; exact fun e => hc.1 e.symm
    · exact hc.2.1
    · exact hne
  have hlvne : ∀ q, lv.ownBlock = some q → it.tv.ownBlock ≠ some q := fun q hq e => h.apart q (by rw [tagBs_mem]; exact ⟨it, by rw [hd]; simp, e⟩) hq
  refine ⟨own_of_block h.row fun q hq => same q (h.row.lt _ hq).2 (h.clrE q hq) (hlvne q hq), fun x hx => ?_, fun q hq => h.apart q (hsub q hq).1, ?_, fun q hq => hcl q (h.row.lt _ hq).2 (h.clrE q hq) (hlvne q hq), fun q hq => ?_⟩
  · have hx2 : x ∈ its.drop k := by rw [hd]; exact List.mem_cons_of_mem _ hx
    refine own_of_block (h.tags x hx2) fun q hq => ?_
    have hm := hsub q (tagBs_mem.2 ⟨x, hx, hq⟩)
    exact same q ((h.tags x hx2).lt _ hq).2 (h.clrT q hm.1) hm.2
  · have hdist := h.dist
    rw [hd] at hdist
    simp only [tagBs, List.filterMap_cons] at hdist
    split at hdist
    · exact hdist
    · exact (List.nodup_cons.1 hdist).2
  · have hm := hsub q hq
    obtain ⟨x, hx, hb⟩ := tagBs_mem.1 hm.1
    exact hcl q ((h.tags x hx).lt _ hb).2 (h.clrT q hm.1) hm.2
theorem Far.under {w w' : World} {R : List (Option Nat)} {b : Nat} (h : Far w w' R) (hb : b ≤ w.heap.size) (hR : ∀ q, some q ∈ R → b ≤ q) : Below b w w' := h.below hb hR
theorem ev_cell {b : Nat} {w : World} {g n cap : Nat} {its : List Item} (h : w.ownsRow b 29 5 (.slice (some ⟨g, 0, none⟩) n cap) n (fives its)) {k : Nat} {it : Item} (hk : its[k]? = some it) : w.cell? ⟨g, k * 5 + 4, none⟩ = some it.tv := by
  obtain ⟨_, hc⟩ := own_cellsG h
  refine hc (k * 5 + 4) _ ?_
  rw [fives_at hk (by decide)]
  rfl
end Go.Proofs.YtdjllnhahhjgmaaGreatDoor
namespace Go.Proofs.YtdjllnhahhjgmaaGreatDoor
open Go.RowKit Chron
theorem infoEvs : (Tryz.prog.info? 23).map (fun i => (i.zero, i.size, i.bytes)) = some (some (.slice none 0 0), 1, 24) := by kernel_rfl
/- the box of the mark, beside what stands between the appends -/
structure KE (b : Nat) (tv ev : Value) (xs ys : List Value) (w wx : World) (l : Value) (n r M : Nat) (outs : List Value) (k : Nat) : Prop where
  kt : KT b tv ev xs ys w wx l 29 5 n (badV r) outs k
  box : wx.heap[M]? = some (.cells (badV r).toArray 29)
  ne : l.ownBlock ≠ some M
theorem KE.push {b : Nat} {tv ev : Value} {xs ys : List Value} {w wx wa : World} {l : Value} {n r M g cap k j : Nat} {outs : List Value} {o : Obj} (h : KE b tv ev xs ys w wx l n r M outs k) (hj : k ≤ j)
    (hnew : wa.ownsRow (b + 1) 29 5 (.slice (some ⟨g, 0, none⟩) (n + j) cap) (n + j) (reps n (badV r) ++ reps j (badV r))) (hold : wa.ownsRow (b + 1) 29 5 l n (reps n (badV r)))
    (hlay : Lay (wx.alloc o) wa l g (wx.alloc o).heap.size) : KE b tv ev xs ys w wa l n r M (outs ++ [.slice (some ⟨g, 0, none⟩) (n + j) cap]) j :=
  ⟨h.kt.push hj hnew hold hlay, (hlay.facts.2.2.block M (Array.getElem?_eq_some_iff.1 h.box).1 (by simp; exact h.ne)).trans h.box, h.ne⟩
theorem box_cells {w : World} {M r : Nat} {t : TypeId} (h : w.heap[M]? = some (.cells (badV r).toArray t)) :
    w.cell? ⟨M, 0, none⟩ = some (.int .i64 (-1000 - (r : Int))) ∧ w.cell? ⟨M, 1, none⟩ = some (.string ⟨#[]⟩) ∧ w.cell? ⟨M, 2, none⟩ = some (.int .i64 0) ∧ w.cell? ⟨M, 3, none⟩ = some (.string callerB) ∧ w.cell? ⟨M, 4, none⟩ = some (.slice none 0 0) ∧ ∀ o, w.frozen? ⟨M, o, none⟩ = false := res_cells h
theorem badV_one (r : Nat) : ∀ u ∈ badV r, u.oneCell' = true := by
  intro u hu
  simp only [badV, List.mem_cons, List.mem_nil_iff, or_false] at hu
  rcases hu with rfl | rfl | rfl | rfl | rfl <;> rfl
theorem reps_all {n r : Nat} : ∀ u ∈ reps n (badV r), u.oneCell' = true := by
  intro u hu
  simp only [reps, List.mem_flatten, List.mem_replicate] at hu
  obtain ⟨l, ⟨_, rfl⟩, hu⟩ := hu
  exact badV_one r u hu
theorem row_cells {w : World} {B g n cap k : Nat} {e : TypeId} {xs : List Value} (h : w.ownsRow B e 5 (.slice (some ⟨g, 0, none⟩) n cap) n xs) (hk : k < n) :
    (∃ x0 x1 x2 x3 x4, w.cell? ⟨g, k * 5, none⟩ = some x0 ∧ w.cell? ⟨g, k * 5 + 1, none⟩ = some x1 ∧ w.cell? ⟨g, k * 5 + 2, none⟩ = some x2 ∧ w.cell? ⟨g, k * 5 + 3, none⟩ = some x3 ∧ w.cell? ⟨g, k * 5 + 4, none⟩ = some x4) ∧ ∀ o, w.frozen? ⟨g, o, none⟩ = false := by
  obtain ⟨h1, ⟨h2, _⟩ | ⟨g', cap', cur, hv, a2, a3, a4, a5, a6, a7⟩⟩ := h
  · cases h2
  · cases hv
    have hs : (k + 1) * 5 ≤ cap * 5 := Nat.mul_le_mul_right _ (by omega)
    refine ⟨⟨cur[k * 5]'(by omega), cur[k * 5 + 1]'(by omega), cur[k * 5 + 2]'(by omega), cur[k * 5 + 3]'(by omega), cur[k * 5 + 4]'(by omega), ?_⟩, fun o => by simp [World.frozen?, a3]⟩
    refine ⟨?_, ?_, ?_, ?_, ?_⟩ <;> (simp only [World.cell?, a3]; simp)
theorem badV_arr (r : Nat) : (badV r).toArray = #[.int .i64 (-1000 - (r : Int)), .string ⟨#[]⟩, .int .i64 0, .string callerB, .slice none 0 0] := rfl
set_option maxRecDepth 100000 in
set_option maxHeartbeats 4000000 in
theorem keep_any (b r r2 : Nat) (tv ev : Value) (xs ys : List Value) (lv : Value) (its : List Item) (w : World) (HB : Hid (Book2 b tv ev xs ys w)) (HP : Hid (Pend b tv ev xs ys w lv its 0))
    (h200 : its.length ≤ 200) (H4 : Hid (∀ it ∈ its, it.ev.tags.length ≤ 4)) (HX : Hid (xs.length = 4 * r ∧ r + its.length ≤ 3000000)) (HY : Hid (ys.length = 4 * r2 ∧ r2 ≤ 3000000)) :
    Calls Tryz.prog 9 #[.pointer (some ⟨b, 0, none⟩), lv] w fun e w' => e = .returned (.tuple #[]) ∧ ∃ tv' ev' xs' ys', Hid (Book2 b tv' ev' xs' ys' w') ∧ Hid (xs'.length = 4 * (r + its.length) ∧ ys'.length = 4 * (r2 + 1)) ∧ Below b w w' := by
  obtain ⟨i0, hi, hz0, hz1, hz2⟩ := info_parts infoEvent5
  obtain ⟨i1, hi1, hy0, hy1, hy2⟩ := info_parts infoEvs
  obtain ⟨la, lc, rfl, hla⟩ := own_shape HP.out.row
  have HLA := hide0 hla
  clear hla
  go_enter Tryz.func9, Tryz.ntmps9
  go_wp2_with fail
  go_loopw [4] (fun iv wx => ∃ (k : Nat) (tvk : Value) (xsk : List Value), k ≤ its.length ∧ iv = .int .i64 k ∧ Hid (xsk.length = 4 * (r + k)) ∧ Hid (Book2 b tvk ev xsk ys wx) ∧ Hid (Pend b tvk ev xsk ys wx (.slice la its.length lc) its k) ∧ Hid (Below b w wx)) (fun iv _ => its.length - (intOf iv).toNat)
  case atStart => exact ⟨0, tv, xs, Nat.zero_le _, rfl, HX.out.1, HB, HP, Below.refl _ _⟩
  case round =>
    obtain ⟨k, tvk, xsk, hk, rfl, HXk, HBk, HPk, HWk⟩ := hrel
    by_cases hlt : k < its.length
    · obtain ⟨g, rfl⟩ := HLA.out (by omega)
      have hget : its[k]? = some its[k] := List.getElem?_eq_getElem hlt
      have hmem : its[k] ∈ its.drop k := by rw [List.drop_eq_getElem_cons hlt]; exact List.mem_cons_self
      have HMEM := hide0 hmem
      have hc := ev_cell HPk.out.row hget
      have h4k := H4.out its[k] (List.getElem_mem hlt)
      have hto := HPk.out.tags its[k] HMEM.out
      have HCk : Hid (∀ q, its[k].tv.ownBlock = some q → Clear b tvk ev xsk ys q) := fun q hq => HPk.out.clrT q (tagBs_mem.2 ⟨its[k], HMEM.out, hq⟩)
      have HNX := fun (tv' : Value) (xs' : List Value) (w' : World) => HPk.out.next (tv' := tv') (xs' := xs') (w' := w') hlt rfl
      have HNEXT := hide0 HNX
      have HBND : Hid (∀ q, some q ∈ [some b, tvk.ownBlock, its[k].tv.ownBlock] → b ≤ q) := by
        intro q hq
        simp only [List.mem_cons, List.mem_nil_iff, or_false, Option.some.injEq] at hq
        rcases hq with rfl | hq | hq
        · omega
        · have := (HBk.out.tags.lt q hq.symm).1; omega
        · have := (hto.lt q hq.symm).1; omega
      have hblt := HBk.out.lt
      have HTO := hide0 hto
      have HKT := fun (X : World) => keepTags2_any b (r + k) tvk ev xsk ys its[k].tv its[k].ev.tags wr HBk HTO HCk h4k ⟨HXk.out, by have := HX.out; omega⟩
      have hK := HKT wr
      clear hget hto HNX HKT hmem HMEM
      generalize its[k].tv = itv at hc hK HNEXT HBND
      clear HCk HTO h4k
      go_wp2_with fail
      refine hK.mono ?_
      rintro e w2 ⟨rfl, tv', xs', HB2, HX2, HF2, HC2⟩
      have HP2 := hide0 (HNEXT.out tv' xs' w2 HF2.out HC2.out)
      have HW2 := hide0 (HWk.out.trans (HF2.out.under (by omega) HBND.out))
      clear hc hK
      go_wp2
      go_roundw
      case rel => exact ⟨k + 1, tv', xs', by omega, by go_num, HX2, HB2, HP2, HW2⟩
      case measure => simp [intOf]; omega
    · have hkn : k = its.length := by omega
      subst hkn
      obtain ⟨ea, ec, hev, hec, _, _⟩ := row_at HBk.out.evts
      subst hev
      obtain ⟨d0, d1, df⟩ := book_cells HBk.out.blk
      have hys : ys.length ≤ 12000000 := by have := HY.out; omega
      have hrr := HY.out.1
      have hr2 := HY.out.2
      have hdiv : ((ys.length : Int) / 4) = (r2 : Int) := by omega
      have hBE := badEvent_any ((ys.length : Int) / 4) r2 wr hdiv hr2
      clear hdiv hrr hr2
      go_wp2_with fail
      refine hBE.mono ?_
      rintro e w2 ⟨rfl, hb2⟩
      rw [badV_arr]
      have hs2 := hb2.size
      have HB3 : Hid (Book2 b tvk (.slice ea ys.length ec) xsk ys (w2.alloc (.cells #[.int .i64 (-1000 - (r2 : Int)), .string ⟨#[]⟩, .int .i64 0, .string callerB, .slice none 0 0] 29))) := (HBk.out.below hb2).below ((Below.refl _ _).alloc (Nat.le_refl _) _)
      have HO3 : Hid ((w2.alloc (.cells #[.int .i64 (-1000 - (r2 : Int)), .string ⟨#[]⟩, .int .i64 0, .string callerB, .slice none 0 0] 29)).ownsRow (b + 1) 29 5 (.slice la its.length lc) its.length (fives its)) := (own_below HPk.out.row hb2).alloc _
      have HCE := hide0 HPk.out.clrE
      have HBX : Hid ((w2.alloc (.cells #[.int .i64 (-1000 - (r2 : Int)), .string ⟨#[]⟩, .int .i64 0, .string callerB, .slice none 0 0] 29)).heap[w2.heap.size]? = some (.cells (badV r2).toArray 29)) := heap_alloc_new _ _
      have HNM : Hid ((Value.slice la its.length lc).ownBlock ≠ some w2.heap.size) := fun e => by have := (HPk.out.row.lt _ e).2; omega
      have HW3 : Hid (Below b w (w2.alloc (.cells #[.int .i64 (-1000 - (r2 : Int)), .string ⟨#[]⟩, .int .i64 0, .string callerB, .slice none 0 0] 29))) := (HWk.out.trans (hb2.mono (by have := HBk.out.lt; omega))).alloc (by have := HBk.out.lt; omega) _
      clear hb2 HBk HPk HB HP HWk d0 d1 df hBE
      obtain ⟨w3, hw3⟩ : ∃ w3, w3 = w2.alloc (.cells #[.int .i64 (-1000 - (r2 : Int)), .string ⟨#[]⟩, .int .i64 0, .string callerB, .slice none 0 0] 29) := ⟨_, rfl⟩
      go_wp2_with fail
      rw [← hw3] at HB3 HO3 HBX HW3 ⊢
      clear hw3
      go_loopw [6] (fun iv wx => ∃ k : Nat, k ≤ its.length ∧ iv = .int .i64 k ∧ Hid (wx.ownsRow (b + 1) 29 5 (.slice la its.length lc) its.length (mixG its (badV r2) k)) ∧ Hid (Far w3 wx [(Value.slice la its.length lc).ownBlock])) (fun iv _ => its.length - (intOf iv).toNat)
      case atStart => exact ⟨0, Nat.zero_le _, rfl, by rw [mixG_zero]; exact HO3, Far.refl _ _⟩
      case round =>
        obtain ⟨k, hk, rfl, HOk, HFk⟩ := hrel
        have HBXk : Hid (wr.heap[w2.heap.size]? = some (.cells (badV r2).toArray 29)) := (HFk.out.block _ (Array.getElem?_eq_some_iff.1 HBX.out).1 (by simp; exact HNM.out)).trans HBX.out
        obtain ⟨m0, m1, m2, m3, m4, mf⟩ := box_cells HBXk.out
        by_cases hlt : k < its.length
        · obtain ⟨g, rfl⟩ := HLA.out (by omega)
          obtain ⟨⟨x0, x1, x2, x3, x4, c0, c1, c2, c3, c4⟩, cf⟩ := row_cells HOk.out hlt
          have hne : ¬ g = w2.heap.size := fun e => HNM.out (by rw [← e]; rfl)
          have HS := hide0 (own_setG (i := k * 5 + 4) (u := .slice none 0 0) (own_setG (i := k * 5 + 3) (u := .string callerB) (own_setG (i := k * 5 + 2) (u := .int .i64 0) (own_setG (i := k * 5 + 1) (u := .string ⟨#[]⟩) (own_setG (i := k * 5) (u := .int .i64 (-1000 - (r2 : Int))) HOk.out)))))
          have hms := mixG_step hlt (.int .i64 (-1000 - (r2 : Int))) (.string ⟨#[]⟩) (.int .i64 0) (.string callerB) (.slice none 0 0)
          rw [show mixG its (badV r2) k = mixG its [.int .i64 (-1000 - (r2 : Int)), .string ⟨#[]⟩, .int .i64 0, .string callerB, .slice none 0 0] k from rfl, hms] at HS
          have HSF := hide0 (((((HFk.out.setCell (p := ⟨g, k * 5, none⟩) (.inl (by simp [Value.ownBlock])) (.int .i64 (-1000 - (r2 : Int)))).setCell (p := ⟨g, k * 5 + 1, none⟩) (.inl (by simp [Value.ownBlock])) (.string ⟨#[]⟩)).setCell (p := ⟨g, k * 5 + 2, none⟩) (.inl (by simp [Value.ownBlock])) (.int .i64 0)).setCell (p := ⟨g, k * 5 + 3, none⟩) (.inl (by simp [Value.ownBlock])) (.string callerB)).setCell (p := ⟨g, k * 5 + 4, none⟩) (.inl (by simp [Value.ownBlock])) (.slice none 0 0))
          clear hms
          go_wp2
          go_roundw
          case rel => exact ⟨k + 1, by omega, by go_num, HS, HSF⟩
          case measure => simp [intOf]; omega
        · have hkn : k = its.length := by omega
          have HOn := hide0 HOk.out
          rw [mixG_end its (badV r2) hkn] at HOn
          have HK0 : Hid (KE b tvk (.slice ea ys.length ec) xsk ys w3 wr (.slice la its.length lc) its.length r2 w2.heap.size [] 0) := ⟨⟨⟨HOn.out, fun o ho => by cases ho⟩, HB3.out.far HFk.out (fun q hq _ => HCE.out q (by simpa using (List.mem_singleton.1 hq).symm)), HFk.out, (fun o ho => by cases ho), HCE.out, ⟨fun q hq => (HB3.out.tags.lt q hq).2, fun q hq => (HB3.out.evts.lt q hq).2⟩⟩, HBXk.out, HNM.out⟩
          have HFB : Hid (∀ q, some q ∈ [some b, (Value.slice ea ys.length ec).ownBlock, (Value.slice la its.length lc).ownBlock] → b ≤ q) := by
            intro q hq
            simp only [List.mem_cons, List.mem_nil_iff, or_false, Option.some.injEq] at hq
            rcases hq with rfl | hq | hq
            · omega
            · have := (HB3.out.evts.lt q hq.symm).1; omega
            · have := (HO3.out.lt q hq.symm).1; omega
          have hblt := HB3.out.lt
          clear HOn HOk HFk HB3 HO3 HBX HBXk hkn HNM
          have hmx : ∀ j, j ≤ 3 → its.length + j ≤ maxLen := fun j hj => by unfold maxLen; omega
          have hby : ∀ j, j ≤ 3 → (its.length + j) * 72 ≤ 140737488355328 := fun j hj => by omega
          have hxm : ys.length + 4 ≤ maxLen := by unfold maxLen; omega
          have hxb : (ys.length + 4) * 24 ≤ 140737488355328 := by omega
          go_wp2_with (first
            | (have hz := HK3; clear hz; at_builtin; go_must (refine wpList_append_keptG _ rfl _ _ 32 rfl (b + 1) 23 i1 (.slice none 0 0) 1 24 Tryz.underlying32 hi1 hy0 hy1 hy2 rfl Nat.one_pos (.slice ea ys.length ec) ys.length ys rfl (HK3.out.kt.bk.evts.alloc _) ⟨_, 0, none⟩ 4 4 [.slice la its.length lc, .slice (some ⟨g1, 0, none⟩) (its.length + 1) cg1, .slice (some ⟨g2, 0, none⟩) (its.length + 2) cg2, .slice (some ⟨g3, 0, none⟩) (its.length + 3) cg3] rfl rfl news_of slices_one (by omega) hxm hxb (le_alloc2 HK3.out.kt.bk.lt) ?_)
               intro g4 cg4 w4 hn4 ho4 hl4
               obtain ⟨hblk, HBK, hfar4⟩ := HK3.out.kt.bk.pushE HY.out.1 rfl (HK3.out.kt.entries (by omega)) hn4 hl4
               have HFar := hide0 (far_cons HK3.out.kt.far hfar4)
               have HBook := hide0 HBK
               obtain ⟨e0, e1, ef⟩ := book_cells hblk
               clear hn4 ho4 hl4 HBK hfar4 hblk HK3 d0 d1 df)
            | (have hz := HK2; clear hz; at_builtin; go_must (refine wpList_append_keptG _ rfl _ _ 23 rfl (b + 1) 29 i0 (.agg #[.int .i64 0, .string ⟨#[]⟩, .int .i64 0, .string ⟨#[]⟩, .slice none 0 0]) 5 72 Tryz.underlying23 hi hz0 hz1 hz2 rfl (by decide) (.slice la its.length lc) its.length (reps its.length (badV r2)) rfl (HK2.out.kt.mks.own.alloc _) ⟨_, 0, none⟩ 3 3 (reps 3 (badV r2)) rfl rfl news_of reps_all (by omega) (hmx 3 (by omega)) (hby 3 (by omega)) (le_alloc2 HK2.out.kt.bk.lt) ?_)
               intro g3 cg3 wg3 hng3 hog3 hlg3
               have HK3 := hide0 (HK2.out.push (j := 3) (by omega) hng3 hog3 hlg3)
               clear m0 m1 m2 m3 m4 mf
               obtain ⟨d0, d1, df⟩ := book_cells HK3.out.kt.bk.blk
               clear hng3 hog3 hlg3 HK2)
            | (have hz := HK1; clear hz; at_builtin; go_must (refine wpList_append_keptG _ rfl _ _ 23 rfl (b + 1) 29 i0 (.agg #[.int .i64 0, .string ⟨#[]⟩, .int .i64 0, .string ⟨#[]⟩, .slice none 0 0]) 5 72 Tryz.underlying23 hi hz0 hz1 hz2 rfl (by decide) (.slice la its.length lc) its.length (reps its.length (badV r2)) rfl (HK1.out.kt.mks.own.alloc _) ⟨_, 0, none⟩ 2 2 (reps 2 (badV r2)) rfl rfl news_of reps_all (by omega) (hmx 2 (by omega)) (hby 2 (by omega)) (le_alloc2 HK1.out.kt.bk.lt) ?_)
               intro g2 cg2 wg2 hng2 hog2 hlg2
               have HK2 := hide0 (HK1.out.push (j := 2) (by omega) hng2 hog2 hlg2)
               clear m0 m1 m2 m3 m4 mf
               obtain ⟨m0, m1, m2, m3, m4, mf⟩ := box_cells HK2.out.box
               clear hng2 hog2 hlg2 HK1)
            | (have hz := HK0; clear hz; at_builtin; go_must (refine wpList_append_keptG _ rfl _ _ 23 rfl (b + 1) 29 i0 (.agg #[.int .i64 0, .string ⟨#[]⟩, .int .i64 0, .string ⟨#[]⟩, .slice none 0 0]) 5 72 Tryz.underlying23 hi hz0 hz1 hz2 rfl (by decide) (.slice la its.length lc) its.length (reps its.length (badV r2)) rfl (HK0.out.kt.mks.own.alloc _) ⟨_, 0, none⟩ 1 1 (reps 1 (badV r2)) rfl rfl news_of reps_all (by omega) (hmx 1 (by omega)) (hby 1 (by omega)) (le_alloc2 HK0.out.kt.bk.lt) ?_)
               intro g1 cg1 wg1 hng1 hog1 hlg1
               have HK1 := hide0 (HK0.out.push (j := 1) (by omega) hng1 hog1 hlg1)
               clear m0 m1 m2 m3 m4 mf
               obtain ⟨m0, m1, m2, m3, m4, mf⟩ := box_cells HK1.out.box
               clear hng1 hog1 hlg1 HK0))
          go_end0
          exact ⟨rfl, _, _, _, _, HBook, ⟨HXk.out, by have := HY.out; simp; omega⟩, HW3.out.trans (HFar.out.under (by omega) HFB.out)⟩
end Go.Proofs.YtdjllnhahhjgmaaGreatDoor
namespace Go.Proofs.YtdjllnhahhjgmaaGreatDoor
open Go.RowKit Chron
def badBd : ByteArray := ⟨#[116, 104, 101, 32, 99, 97, 108, 108, 101, 114, 39, 115]⟩
def badE : Ev := ⟨-1000, ⟨#[]⟩, 0, badBd, []⟩
def badI : Item := ⟨badE, none, 0⟩
set_option maxRecDepth 100000 in
set_option maxHeartbeats 400000 in
theorem badEvent_zero (w : World) : Calls Tryz.prog 27 #[.int .i64 0] w fun e w' => e = .returned (.agg #[.int .i64 (-1000), .string ⟨#[]⟩, .int .i64 0, .string badBd, .slice none 0 0]) ∧ Below w.heap.size w w' := by
  go_enter Tryz.func27, Tryz.ntmps27
  go_wp2
  obtain ⟨c0, c1, c2, c3, c4, _⟩ := res_cells (heap_alloc_new w (.cells #[.int .i64 (-1000), .string ⟨#[]⟩, .int .i64 0, .string ⟨#[116, 104, 101, 32, 99, 97, 108, 108, 101, 114, 39, 115]⟩, .slice none 0 0] 29))
  refine bodyPost_ret (v := .agg #[.int .i64 (-1000), .string ⟨#[]⟩, .int .i64 0, .string badBd, .slice none 0 0]) (by simp [results, Tryz.results27, go_sem, c0, c1, c2, c3, c4, badBd]) rfl ⟨rfl, (Below.refl _ _).alloc (Nat.le_refl _) _⟩
set_option maxRecDepth 100000 in
set_option maxHeartbeats 1000000 in
theorem sameAll_any (a1 a2 : Option Addr) (cap1 cap2 : Nat) (l1 l2 : List Item) (w : World) (h1 : Hid (EvsAt w a1 l1)) (h2 : Hid (EvsAt w a2 l2)) (he : Hid (evs l1 = evs l2)) (hn : l1.length * 72 ≤ 140737488355328) :
    Calls Tryz.prog 7 #[.slice a1 l1.length cap1, .slice a2 l2.length cap2] w fun e w' => e = .returned (.bool true) ∧ Below w.heap.size w w' := by
  have hlen : l1.length = l2.length := by have := congrArg List.length he.out; simpa [evs] using this
  rw [← hlen]
  have HLE := hide0 hlen
  clear hlen
  go_enter Tryz.func7, Tryz.ntmps7
  go_wp2
  go_loopw [5] (fun i wx => ∃ k : Nat, k ≤ l1.length ∧ i = .int .i64 k ∧ Hid (Below w.heap.size w wx)) (fun i _ => l1.length - (intOf i).toNat)
  case atStart => exact ⟨0, Nat.zero_le _, rfl, Below.refl _ _⟩
  case round =>
    obtain ⟨k, hk, rfl, HW⟩ := hrel
    by_cases hlt : k < l1.length
    · obtain ⟨b1, o1, rfl, hc1⟩ := h1.out.below HW.out (Nat.le_refl _) (by omega)
      obtain ⟨b2, o2, rfl, hc2⟩ := h2.out.below HW.out (Nat.le_refl _) (by have := HLE.out; omega)
      obtain ⟨⟨⟨kd, tk, tm, bd, ts⟩, ta, tc⟩, hx⟩ : ∃ x, l1[k]? = some x := ⟨_, List.getElem?_eq_getElem hlt⟩
      obtain ⟨⟨ev, ta2, tc2⟩, hy⟩ : ∃ x, l2[k]? = some x := ⟨_, List.getElem?_eq_getElem (by rw [← HLE.out]; exact hlt)⟩
      have hev : ev = ⟨kd, tk, tm, bd, ts⟩ := by
        have := congrArg (fun l => l[k]?) he.out
        simp only [evs, List.getElem?_map, hx, hy, Option.map_some, Option.some.injEq] at this
        exact this.symm
      subst hev
      obtain ⟨⟨c0, c1, c2, c3, c4⟩, hok⟩ := hc1 k _ hx
      obtain ⟨⟨d0, d1, d2, d3, d4⟩, hok2⟩ := hc2 k _ hy
      simp only at c0 c1 c2 c3 c4 d0 d1 d2 d3 d4
      have HOK := hide0 hok
      have HOK2 := hide0 hok2
      have hki : (k : Int) < (l1.length : Int) := by omega
      have hS := same_law ⟨kd, tk, tm, bd, ts⟩ ⟨kd, tk, tm, bd, ts⟩ ta ta2 tc tc2 wr.drew HOK.out.tags HOK2.out.tags (by have := HOK.out.few; unfold maxLen; simp only at this ⊢; omega) (by have := HOK.out.few; unfold maxLen; simp only at this ⊢; omega)
      simp only [evVal, (sameEv_iff (e := ⟨kd, tk, tm, bd, ts⟩) (f := ⟨kd, tk, tm, bd, ts⟩)).2 rfl] at hS
      have lt1 : b1 < wr.drew.heap.size := World.block_lt_of_cell? wr _ c0
      have lt2 : b2 < wr.drew.heap.size := World.block_lt_of_cell? wr _ d0
      have hsz := HW.out.size
      clear hc1 hc2 hok hok2 hx hy
      go_wp2_with fail
      go_region_held (fun w' => w'.cell? ⟨b1, o1 + k * 5, none⟩ = some (.int .i64 kd) ∧ w'.cell? ⟨b1, o1 + k * 5 + 1, none⟩ = some (.string tk) ∧ w'.cell? ⟨b1, o1 + k * 5 + 2, none⟩ = some (.int .i64 tm) ∧ w'.cell? ⟨b1, o1 + k * 5 + 3, none⟩ = some (.string bd) ∧ w'.cell? ⟨b1, o1 + k * 5 + 4, none⟩ = some (.slice ta ts.length tc) ∧ w'.cell? ⟨b2, o2 + k * 5, none⟩ = some (.int .i64 kd) ∧ w'.cell? ⟨b2, o2 + k * 5 + 1, none⟩ = some (.string tk) ∧ w'.cell? ⟨b2, o2 + k * 5 + 2, none⟩ = some (.int .i64 tm) ∧ w'.cell? ⟨b2, o2 + k * 5 + 3, none⟩ = some (.string bd) ∧ w'.cell? ⟨b2, o2 + k * 5 + 4, none⟩ = some (.slice ta2 ts.length tc2)) (go_keep)
        (first | (go_at_call 23; refine hS.mono ?_; rintro e w1 ⟨rfl, hb1⟩; have p0 := (hb1.cell (p := ⟨b1, o1 + k * 5, none⟩) lt1).trans c0; have p1 := (hb1.cell (p := ⟨b1, o1 + k * 5 + 1, none⟩) lt1).trans c1; have p2 := (hb1.cell (p := ⟨b1, o1 + k * 5 + 2, none⟩) lt1).trans c2; have p3 := (hb1.cell (p := ⟨b1, o1 + k * 5 + 3, none⟩) lt1).trans c3; have p4 := (hb1.cell (p := ⟨b1, o1 + k * 5 + 4, none⟩) lt1).trans c4; have q0 := (hb1.cell (p := ⟨b2, o2 + k * 5, none⟩) lt2).trans d0; have q1 := (hb1.cell (p := ⟨b2, o2 + k * 5 + 1, none⟩) lt2).trans d1; have q2 := (hb1.cell (p := ⟨b2, o2 + k * 5 + 2, none⟩) lt2).trans d2; have q3 := (hb1.cell (p := ⟨b2, o2 + k * 5 + 3, none⟩) lt2).trans d3; have q4 := (hb1.cell (p := ⟨b2, o2 + k * 5 + 4, none⟩) lt2).trans d4))
      all_goals
        have HW1 := hide0 (HW.out.drew.trans (hb1.mono (by show w.heap.size ≤ wr.heap.size; exact hsz)))
        clear hb1 p0 p1 p2 p3 p4 q0 q1 q2 q3 q4 c0 c1 c2 c3 c4 d0 d1 d2 d3 d4 hS
        go_wp2
        go_roundw
        case rel => exact ⟨k + 1, by omega, by go_num, HW1⟩
        case measure => simp [intOf]; omega
    · go_wp2
      go_ret
      exact ⟨rfl, HW.out⟩
end Go.Proofs.YtdjllnhahhjgmaaGreatDoor
