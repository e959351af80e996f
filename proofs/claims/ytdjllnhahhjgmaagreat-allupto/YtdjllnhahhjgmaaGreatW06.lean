/- Walks and plain facts, in the order in which they lean on one another. -/
import Derived.Test.YtdjllnhahhjgmaaGreatW05
import Derived.ArgAppend
import Derived.Test.YtdjllnhahhjgmaaGreatW03
import Derived.Test.YtdjllnhahhjgmaaGreatW04
import Derived.Test.YtdjllnhahhjgmaaGreatW01
import Derived.Lib.SlTrimSet
import Derived.Lib.ConvBytes
import Derived.Lib.AtoiErrMem
import Derived.Lib.IfaceEq
import Derived.Laws.Closers25
import Derived.Laws.Closers25b
import Derived.Shelf.Pu.SyntaxError
import Derived.Deep.RegionWith
namespace Go.Proofs.YtdjllnhahhjgmaaGreat
open Go.RowKit Chron
theorem own_set {w : World} {base g n cap i : Nat} {e : TypeId} {xs : List Value} {u : Value} (h : w.ownsRow base e 1 (.slice (some ⟨g, 0, none⟩) n cap) n xs) :
    (w.setCell ⟨g, i, none⟩ u).ownsRow base e 1 (.slice (some ⟨g, 0, none⟩) n cap) n (xs.set i u) := by
  obtain ⟨h1, ⟨h2, _⟩ | ⟨g', cap', cur, hv, a2, a3, a4, a5, a6, a7⟩⟩ := h
  · cases h2
  · cases hv
    refine ⟨by rw [List.length_set]; exact h1, .inr ⟨g, cap, cur.setIfInBounds i u, rfl, a2, ?_, a4, a5, by simpa using a6, ?_⟩⟩
    · rw [setCell_eq_setRow w g i cur e (0, 0) u a3, setRow_heap w g _ _ e (0, 0) a3]
    · rw [Array.toList_setIfInBounds, List.take_set, a7]
theorem set_other {w : World} {g i q : Nat} {u : Value} (h : q ≠ g) : (w.setCell ⟨g, i, none⟩ u).heap[q]? = w.heap[q]? := Below.heap_setCell _ _ _ _ h
/- where an append has put what it answers -/
def Lay (w w' : World) (v : Value) (g H : Nat) : Prop := (v.ownBlock = some g ∧ w.grownBy w' (some g)) ∨ (H ≤ g ∧ w.grownBy w' none)
theorem run_append_kept {P : Program} (w : World) (t ty : TypeId) (base : Nat) (e : TypeId) (i : TypeInfo) (z : Value) (bytes : Nat) (ht : P.underlying t = some (.slice e)) (hi : P.info? e = some i) (hz : i.zero = some z)
    (hsize : i.size = 1) (hby : i.bytes = bytes) (hzs : z.cells.size = 1)
    (v : Value) (n : Nat) (xs : List Value) (hown : w.ownsRow base e 1 v n xs)
    (ad : Addr) (m c : Nat) (news : List Value) (hl : news.length = m) (hnews : ∀ j u, news[j]? = some u → w.cell? (ad.add j) = some u) (h1 : ∀ u ∈ news, u.oneCell' = true)
    (hm : 0 < m) (h63 : n + m ≤ maxLen) (hbytes : (n + m) * bytes ≤ 140737488355328) (hbase : base ≤ w.heap.size) :
    ∃ g cap w', (Builtin.append_ #[t, t] ty #[v, .slice (some ad) m c]).run P w = .ok (.slice (some ⟨g, 0, none⟩) (n + m) cap) w' ∧
      w'.ownsRow base e 1 (.slice (some ⟨g, 0, none⟩) (n + m) cap) (n + m) (xs ++ news) ∧ w'.ownsRow base e 1 v n xs ∧ Lay w w' v g w.heap.size := by
  have hl' : news.length = m * 1 := by omega
  rcases hown.2 with ⟨rfl, rfl⟩ | ⟨g0, cap0, cur, rfl, a2, a3, a4, a5, a6, a7⟩
  · obtain ⟨g, cap, w', hr, h2, h3, h4, h5⟩ := run_append_lies (P := P) w t ty base e i z 1 bytes ht hi hz hsize hby hzs Nat.one_pos (.slice none 0 0) 0 xs hown ad m c news hl' hnews h1 hm h63 hbytes hbase w.heap.size rfl
    refine ⟨g, cap, w', hr, h2, ?_, .inr ⟨?_, h3⟩⟩
    · obtain rfl : xs = [] := List.eq_nil_of_length_eq_zero (by simpa using hown.1)
      exact World.ownsRow_nil _ _ _ _
    · rcases h4 with h4 | h4
      · cases h4
      · omega
  · by_cases hr : n + m ≤ cap0
    · obtain ⟨w', hrun, h2, h3⟩ := run_append_own_spare (P := P) w base t ty e i 1 ht hi hsize g0 n cap0 xs hown ad m c news hl' hnews h1 hr
      refine ⟨g0, cap0, w', hrun, h2, ?_, .inl ⟨rfl, h3⟩⟩
      obtain ⟨b1, ⟨b2, _⟩ | ⟨g', cap', cur', hv, c2, c3, c4, c5, c6, c7⟩⟩ := h2
      · cases b2
      · cases hv
        refine ⟨hown.1, .inr ⟨g0, cap0, cur', rfl, c2, c3, a4, c5, c6, ?_⟩⟩
        have hxl := hown.1
        have : (cur'.toList.take ((n + m) * 1)).take (n * 1) = (xs ++ news).take (n * 1) := by rw [c7]
        rw [List.take_take, Nat.min_eq_left (by omega)] at this
        rw [this, ← hxl, List.take_left]
    · have hxl := hown.1
      obtain ⟨v', w', hrun, h2, h3⟩ := run_append_arg_grows (P := P) w t ty e i z 1 bytes ht hi hz hsize hby hzs Nat.one_pos ⟨g0, 0, none⟩ n cap0 xs hxl (fun j u hu => by
        obtain ⟨a, cap, he, _, _, hc⟩ := row_at hown
        obtain ⟨g, rfl, hcell⟩ := hc j u hu
        cases he
        rw [Addr.add_lit, Nat.zero_add]; exact hcell) ad m c news hl' hnews (by omega) h63 hbytes
      obtain ⟨g, cap, rfl, hg1, hg2⟩ := h2.form (by omega)
      exact ⟨g, cap, w', hrun, own_mono h2 hbase, hown.kept (row := none) h3 (Classical.em _), .inr ⟨hg1, h3⟩⟩
theorem wpList_append_kept {P : Program} (w : World) {ops : Array Oper} {rest : List Oper} {o : Oper} {a : Act} {Q : Exit → Act → World → Prop} (hgd : o.guard = none) (s x : Operand) (t : TypeId)
    (ho : o.op = .call { callee := .builtin .append, args := #[s, x], argTypes := #[t, t] })
    (base : Nat) (e : TypeId) (i : TypeInfo) (z : Value) (bytes : Nat) (ht : P.underlying t = some (.slice e)) (hi : P.info? e = some i) (hz : i.zero = some z)
    (hsize : i.size = 1) (hby : i.bytes = bytes) (hzs : z.cells.size = 1)
    (v : Value) (n : Nat) (xs : List Value) (hs : a.eval s = v) (hown : w.ownsRow base e 1 v n xs)
    (ad : Addr) (m c : Nat) (news : List Value) (hx : a.eval x = .slice (some ad) m c) (hl : news.length = m) (hnews : ∀ j u, news[j]? = some u → w.cell? (ad.add j) = some u) (h1 : ∀ u ∈ news, u.oneCell' = true)
    (hm : 0 < m) (h63 : n + m ≤ maxLen) (hbytes : (n + m) * bytes ≤ 140737488355328) (hbase : base ≤ w.heap.size)
    (h : ∀ g cap w', w'.ownsRow base e 1 (.slice (some ⟨g, 0, none⟩) (n + m) cap) (n + m) (xs ++ news) → w'.ownsRow base e 1 v n xs → Lay w w' v g w.heap.size → wpList P ops Q rest (a.put o.dst (.slice (some ⟨g, 0, none⟩) (n + m) cap)) w') : wpList P ops Q (o :: rest) a w := by
  refine wpList_plain hgd fun K hK => ?_
  obtain ⟨g, cap, w', hr, h2, h3, h4⟩ := run_append_kept (P := P) w t o.type base e i z bytes ht hi hz hsize hby hzs v n xs hown ad m c news hl hnews h1 hm h63 hbytes hbase
  unfold Oper.wp execOp
  simp only [ho, resolve, invoke, builtin, Sem.run_bind, Sem.run_pure, Result.andThen_ok, List.map_toArray, List.map_cons, List.map_nil, hs, hx, hr]
  exact hK _ _ (h g cap w' h2 h3 h4)
/- a list that was written full, and lists that were made of it -/
structure Out (w : World) (B : Nat) (most : Nat) (m : ByteArray) (v : Value) (g : Nat) (no : Nat) (cap : Nat) : Prop where
  val : v = .slice (some ⟨g, 0, none⟩) no cap
  few : no ≤ most
  room : no ≤ cap
  base : B ≤ g
  lt : g < w.heap.size
  cells : ∀ j, j < no → w.cell? ⟨g, j, none⟩ = some (.string m)
structure Marks (w : World) (B : Nat) (l : Value) (n : Nat) (m : ByteArray) (outs : List Value) (k : Nat) : Prop where
  own : w.ownsRow B 9 1 l n (List.replicate n (.string m))
  outs : ∀ o ∈ outs, ∃ g no cap, Out w B (n + k) m o g no cap
theorem own_cells {w : World} {B g n cap : Nat} {e : TypeId} {u : Value} (h : w.ownsRow B e 1 (.slice (some ⟨g, 0, none⟩) n cap) n (List.replicate n u)) : n ≤ cap ∧ ∀ j, j < n → w.cell? ⟨g, j, none⟩ = some u := by
  obtain ⟨a, c, he, hc, _, hx⟩ := row_at h
  cases he
  refine ⟨hc, fun j hj => ?_⟩
  obtain ⟨g', he, hcell⟩ := hx j u (by simp [hj])
  cases he; exact hcell
theorem Marks.push {w wa : World} {B g cap n k j : Nat} {l : Value} {m : ByteArray} {outs : List Value} {o : Obj} (h : Marks w B l n m outs k) (hj : k ≤ j)
    (hnew : wa.ownsRow B 9 1 (.slice (some ⟨g, 0, none⟩) (n + j) cap) (n + j) (List.replicate n (.string m) ++ List.replicate j (.string m))) (hold : wa.ownsRow B 9 1 l n (List.replicate n (.string m)))
    (hlay : Lay (w.alloc o) wa l g (w.alloc o).heap.size) : Marks wa B l n m (outs ++ [.slice (some ⟨g, 0, none⟩) (n + j) cap]) j := by
  rw [List.replicate_append_replicate] at hnew
  obtain ⟨hcap, hcells⟩ := own_cells hnew
  have hg := hnew.lt g rfl
  refine ⟨hold, fun x hx => ?_⟩
  rcases List.mem_append.1 hx with hx | hx
  · obtain ⟨g1, no, c1, ho⟩ := h.outs x hx
    have hlt := ho.lt
    have hfew := ho.few
    have same : wa.heap[g1]? = (w.alloc o).heap[g1]? → ∀ q, q < no → wa.cell? ⟨g1, q, none⟩ = some (.string m) := fun he q hq => by
      rw [World.cell?_of_block (a := ⟨g1, q, none⟩) (he.trans (Below.heap_alloc _ _ _ hlt))]; exact ho.cells q hq
    have hsz : w.heap.size ≤ wa.heap.size := by
      have h1 : (w.alloc o).heap.size = w.heap.size + 1 := World.size_alloc _ _
      rcases hlay with ⟨_, hgr⟩ | ⟨_, hgr⟩ <;> (have := hgr.size; omega)
    refine ⟨g1, no, c1, ho.val, by omega, ho.room, ho.base, by omega, ?_⟩
    rcases hlay with ⟨_, hgr⟩ | ⟨_, hgr⟩
    · by_cases he : g1 = g
      · subst he; exact fun q hq => hcells q (by omega)
      · exact same (hgr.block g1 (by rw [World.size_alloc]; omega) (fun e => he (Option.some.inj e)))
    · exact same (hgr.block g1 (by rw [World.size_alloc]; omega) (fun e => by cases e))
  · simp only [List.mem_singleton] at hx
    subst hx
    exact ⟨g, n + j, cap, rfl, Nat.le_refl _, hcap, hg.1, hg.2, hcells⟩
end Go.Proofs.YtdjllnhahhjgmaaGreat
namespace Chron
open Go Go.RowKit
theorem enc_len {v : Int} {e : Ev} (h : goesB v e = true) : (encB v e).1.length ≤ 1000 := by
  have hv := goes_ver h
  obtain ⟨_, _, ht, _, _, _, hb, hf, hl⟩ := is_known (goes_is h)
  rw [encB, if_neg (by simp [hv]), if_neg (by simp [h])]
  have h1 := text_len e.task.data.toList
  have h2 : e.task.data.toList.length = e.task.size := by simp
  have h3 : e.body.data.toList.length = e.body.size := by simp
  have h4 := front_len (e.kind - shift v).toNat e.task ht
  have h5 := timePart_len e.time
  have h6 := bodyPart_len e.body hb
  have h7 := tagParts_len e.tags hl
  split
  · simp only [letterB, List.cons_append, List.length_cons, List.length_append]; omega
  · simp only [fieldsB, List.length_append]; omega
theorem dec_few (v : Int) (s : List UInt8) : (decB v s).1.tags.length ≤ 4 := by
  unfold decB
  split
  · simp [zeroEv]
  · split
    · simp [zeroEv]
    · rename_i h; exact (is_known (rd_is (by simpa using h))).few
end Chron
namespace Go.Proofs.YtdjllnhahhjgmaaGreat
open Go.RowKit Chron
/- an entry of the book -/
def Entry (w : World) (b : Nat) (tv : Value) (B : Nat) (m : ByteArray) (v : Value) : Prop :=
  v = .slice none 0 0 ∨ ∃ g no cap, Out w (b + 1) 7 m v g no cap ∧ tv.ownBlock ≠ some g ∧ g < B
structure BookAt (b : Nat) (tv : Value) (xs : List Value) (B : Nat) (w : World) : Prop where
  blk : w.heap[b]? = some (.cells #[tv, .slice none 0 0] 30)
  tags : w.ownsRow (b + 1) 36 1 tv xs.length xs
  full : ∀ i v, xs[i]? = some v → Entry w b tv B (badB (i / 4)) v
  lt : b < B
  own : ∀ q, tv.ownBlock = some q → q < B
  size : B ≤ w.heap.size
theorem Out.keep {w w' : World} {B C most : Nat} {m : ByteArray} {v : Value} {g no cap : Nat} (h : Out w B most m v g no cap) (hb : Below C w w') (hg : g < C) : Out w' B most m v g no cap := by
  obtain ⟨h1, h2, h3, h4, h5, h6⟩ := h
  exact ⟨h1, h2, h3, h4, Nat.lt_of_lt_of_le h5 hb.size, fun j hj => (hb.cell (p := ⟨g, j, none⟩) hg).trans (h6 j hj)⟩
theorem own_low {w w' : World} {base C : Nat} {e : TypeId} {v : Value} {n : Nat} {xs : List Value} (h : w.ownsRow base e 1 v n xs) (hb : Below C w w') (hv : ∀ q, v.ownBlock = some q → q < C) : w'.ownsRow base e 1 v n xs := by
  obtain ⟨h1, h2 | ⟨g, cap, cur, rfl, a2, a3, a4, a5, a6, a7⟩⟩ := h
  · exact ⟨h1, .inl h2⟩
  · exact ⟨h1, .inr ⟨g, cap, cur, rfl, a2, (hb.block g (hv g rfl)).trans a3, a4, a5, a6, a7⟩⟩
theorem BookAt.keep {b : Nat} {tv : Value} {xs : List Value} {B : Nat} {w w' : World} (h : BookAt b tv xs B w) (hb : Below B w w') : BookAt b tv xs B w' := by
  refine ⟨(hb.block b h.lt).trans h.blk, own_low h.tags hb h.own, fun i v hv => ?_, h.lt, h.own, Nat.le_trans h.size hb.size⟩
  rcases h.full i v hv with h1 | ⟨g, no, cap, h1, h2, h3⟩
  · exact .inl h1
  · exact .inr ⟨g, no, cap, h1.keep hb h3, h2, h3⟩
theorem BookAt.grow {b : Nat} {tv : Value} {xs : List Value} {B C : Nat} {w : World} (h : BookAt b tv xs B w) (h1 : B ≤ C) (h2 : C ≤ w.heap.size) : BookAt b tv xs C w := by
  refine ⟨h.blk, h.tags, fun i v hv => ?_, Nat.lt_of_lt_of_le h.lt h1, fun q hq => Nat.lt_of_lt_of_le (h.own q hq) h1, h2⟩
  rcases h.full i v hv with h3 | ⟨g, no, cap, h3, h4, h5⟩
  · exact .inl h3
  · exact .inr ⟨g, no, cap, h3, h4, Nat.lt_of_lt_of_le h5 h1⟩
theorem book_set {w : World} {b i : Nat} {x0 x1 u : Value} {t : TypeId} (h : w.heap[b]? = some (.cells #[x0, x1] t)) : (w.setCell ⟨b, i, none⟩ u).heap[b]? = some (.cells (#[x0, x1].setIfInBounds i u) t) := by
  rw [setCell_eq_setRow w b i _ t (0, 0) u h, setRow_heap w b _ _ t (0, 0) h]
/- four more entries -/
theorem BookAt.push {b : Nat} {tv : Value} {xs ys : List Value} {B g cap r : Nat} {w wa : World} {o : Obj} (h : BookAt b tv xs B w) (hx : xs.length = 4 * r) (hy : ys.length = 4)
    (hys : ∀ v ∈ ys, v = .slice none 0 0 ∨ ∃ g no cap, Out w B 7 (badB r) v g no cap)
    (hnew : wa.ownsRow (b + 1) 36 1 (.slice (some ⟨g, 0, none⟩) (xs.length + 4) cap) (xs.length + 4) (xs ++ ys)) (hlay : Lay (w.alloc o) wa tv g (w.alloc o).heap.size) :
    wa.heap[b]? = some (.cells #[tv, .slice none 0 0] 30) ∧
    BookAt b (.slice (some ⟨g, 0, none⟩) (xs.length + 4) cap) (xs ++ ys) wa.heap.size (wa.setCell ⟨b, 0, none⟩ (.slice (some ⟨g, 0, none⟩) (xs.length + 4) cap)) ∧ Below b w wa := by
  have hB := h.size
  have hbB := h.lt
  have hsa : (w.alloc o).heap.size = w.heap.size + 1 := World.size_alloc _ _
  have hsz : w.heap.size ≤ wa.heap.size := by
    rcases hlay with ⟨_, hgr⟩ | ⟨_, hgr⟩ <;> (have := hgr.size; omega)
  /- blocks other than tv's are as they were -/
  have hfar : ∀ q, q < w.heap.size → tv.ownBlock ≠ some q → wa.heap[q]? = w.heap[q]? ∧ q ≠ g := by
    intro q hq hne
    rcases hlay with ⟨h1, hgr⟩ | ⟨h1, hgr⟩
    · have hqg : q ≠ g := fun e => hne (by rw [e]; exact h1)
      exact ⟨(hgr.block q (by omega) (fun e => hqg (Option.some.inj e))).trans (Below.heap_alloc _ _ _ hq), hqg⟩
    · exact ⟨(hgr.block q (by omega) (fun e => by cases e)).trans (Below.heap_alloc _ _ _ hq), by omega⟩
  have hbt : tv.ownBlock ≠ some b := fun e => by have := (h.tags.lt b e).1; omega
  have hblk : wa.heap[b]? = some (.cells #[tv, .slice none 0 0] 30) := (hfar b (by omega) hbt).1.trans h.blk
  have hgl := hnew.lt g rfl
  have hent : ∀ (m : ByteArray) (v : Value) (B' : Nat), b + 1 ≤ B' → (∃ g no cap, Out w B' 7 m v g no cap ∧ tv.ownBlock ≠ some g) → Entry (wa.setCell ⟨b, 0, none⟩ (.slice (some ⟨g, 0, none⟩) (xs.length + 4) cap)) b (.slice (some ⟨g, 0, none⟩) (xs.length + 4) cap) wa.heap.size m v := by
    rintro m v B' hB' ⟨g1, no, c1, ⟨o1, o2, o3, o4, o5, o6⟩, hne⟩
    obtain ⟨hs, hg1⟩ := hfar g1 o5 hne
    have hne2 : g1 ≠ b := by omega
    refine .inr ⟨g1, no, c1, ⟨o1, o2, o3, by omega, by rw [size_set]; omega, fun j hj => ?_⟩, fun e => hg1 (Option.some.inj e).symm, by omega⟩
    rw [World.cell?_of_block (a := ⟨g1, j, none⟩) ((set_other hne2).trans hs)]; exact o6 j hj
  refine ⟨hblk, ⟨book_set hblk, ?_, ?_, by omega, ?_, by rw [size_set]; exact Nat.le_refl _⟩, ?_⟩
  · have hl2 : (xs ++ ys).length = xs.length + 4 := by rw [List.length_append, hy]
    rw [hl2]; exact ownsRow_setCell_below hnew (Nat.lt_succ_self _) _
  · intro i v hv
    by_cases hi : i < xs.length
    · rw [List.getElem?_append_left hi] at hv
      rcases h.full i v hv with h1 | ⟨g1, no, c1, h1, h2, _⟩
      · exact .inl h1
      · exact hent _ v (b + 1) (Nat.le_refl _) ⟨g1, no, c1, h1, h2⟩
    · rw [List.getElem?_append_right (by omega)] at hv
      have hi2 := (List.getElem?_eq_some_iff.1 hv).1
      have hm : i / 4 = r := by omega
      rw [hm]
      rcases hys v (List.mem_of_getElem? hv) with h1 | ⟨g1, no, c1, h1⟩
      · exact .inl h1
      · exact hent _ v B (by omega) ⟨g1, no, c1, h1, fun e => by have := h.own g1 e; have := h1.base; omega⟩
  · intro q hq
    simp only [Value.ownBlock, Option.some.injEq] at hq
    omega
  · have hos : wa.os = w.os ∧ wa.tape = w.tape ∧ wa.output = w.output := by
      rcases hlay with ⟨_, hgr⟩ | ⟨_, hgr⟩ <;> exact ⟨hgr.os, hgr.tape, hgr.output⟩
    exact ⟨hos.1, hos.2.1, hos.2.2, hsz, fun q hq => (hfar q (by omega) (fun e => by have := (h.tags.lt q e).1; omega)).1⟩
end Go.Proofs.YtdjllnhahhjgmaaGreat
namespace Go.Proofs.YtdjllnhahhjgmaaGreat
open Go.RowKit Chron
structure Law3 (N X M : Nat) (w wx : World) (e o x : Array Value) (L : List Value) : Prop where
  be : wx.heap[N]? = some (.cells e 38)
  bo : wx.heap[N + 1]? = some (.cells o 38)
  bx : wx.heap[X]? = some (.cells x 38)
  row : wx.heap[M]? = some (.cells L.toArray 9 (0, 0))
  bel : Below N w wx
  o1 : N + 1 < M
  o2 : M < X
  o3 : X < wx.heap.size
theorem Law3.below {N X M : Nat} {w wx wy : World} {e o x : Array Value} {L : List Value} (h : Law3 N X M w wx e o x L) (hb : Below wx.heap.size wx wy) : Law3 N X M w wy e o x L := by
  have h1 := h.o1
  have h2 := h.o2
  have h3 := h.o3
  exact ⟨(hb.block _ (by omega)).trans h.be, (hb.block _ (by omega)).trans h.bo, (hb.block _ (by omega)).trans h.bx, (hb.block _ (by omega)).trans h.row, h.bel.trans (hb.mono (by omega)), h1, h2, Nat.lt_of_lt_of_le h3 hb.size⟩
/- within the loop: y too, its tags a row of its own -/
structure Law5 (N X M Y : Nat) (w wx : World) (e o x : Array Value) (k : Int) (t : ByteArray) (m : Int) (b : ByteArray) (yv : Value) (L : List Value) (zs : List ByteArray) : Prop where
  l3 : Law3 N X M w wx e o x L
  bY : wx.heap[Y]? = some (.cells #[.int .i64 k, .string t, .int .i64 m, .string b, yv] 38)
  own : wx.ownsRow (Y + 1) 9 1 yv zs.length (zs.map Value.string)
  oY : X < Y
theorem Law5.lt {N X M Y : Nat} {w wx : World} {e o x : Array Value} {k : Int} {t : ByteArray} {m : Int} {b : ByteArray} {yv : Value} {L : List Value} {zs : List ByteArray} (h : Law5 N X M Y w wx e o x k t m b yv L zs) : Y < wx.heap.size := (Array.getElem?_eq_some_iff.1 h.bY).1
theorem Law5.store {N X M Y : Nat} {w wx : World} {e o x : Array Value} {k : Int} {t : ByteArray} {m : Int} {b : ByteArray} {yv : Value} {L : List Value} {zs : List ByteArray} (h : Law5 N X M Y w wx e o x k t m b yv L zs) (i : Nat) (u : Value) : Law5 N X M Y w (wx.setCell ⟨M, i, none⟩ u) e o x k t m b yv (L.set i u) zs := by
  obtain ⟨⟨h1, h2, h3, h4, h5, h6, h7, h8⟩, h9, h10, h11⟩ := h
  have hb : ∀ q, q ≠ M → (wx.setCell ⟨M, i, none⟩ u).heap[q]? = wx.heap[q]? := fun q hq => Below.heap_setCell _ _ _ _ hq
  exact ⟨⟨(hb _ (by omega)).trans h1, (hb _ (by omega)).trans h2, (hb _ (by omega)).trans h3, set_row h4, h5.setCell (by show N ≤ M; omega) _, h6, h7, by rw [size_set]; exact h8⟩, (hb _ (by omega)).trans h9, ownsRow_setCell_below h10 (by show M < Y + 1; omega) _, h11⟩
theorem Law5.drew {N X M Y : Nat} {w wx : World} {e o x : Array Value} {k : Int} {t : ByteArray} {m : Int} {b : ByteArray} {yv : Value} {L : List Value} {zs : List ByteArray} (h : Law5 N X M Y w wx e o x k t m b yv L zs) : Law5 N X M Y w wx.drew e o x k t m b yv L zs :=
  ⟨⟨h.l3.be, h.l3.bo, h.l3.bx, h.l3.row, h.l3.bel.drew, h.l3.o1, h.l3.o2, h.l3.o3⟩, h.bY, World.ownsRow.drew h.own, h.oY⟩
theorem Law5.push {N X M Y : Nat} {w wx wa : World} {e o x : Array Value} {k : Int} {t : ByteArray} {m : Int} {b : ByteArray} {yv : Value} {L : List Value} {zs : List ByteArray} {o' : Obj} {g cap n : Nat} {z : ByteArray} (h : Law5 N X M Y w wx e o x k t m b yv L zs) (hn : zs.length = n)
    (hg : (wx.alloc o').grownBy wa yv.ownBlock) (hown : wa.ownsRow (Y + 1) 9 1 (.slice (some ⟨g, 0, none⟩) (n + 1) cap) (n + 1) (zs.map Value.string ++ [.string z])) :
    wa.heap[Y]? = some (.cells #[.int .i64 k, .string t, .int .i64 m, .string b, yv] 38) ∧ Law5 N X M Y w (wa.setCell ⟨Y, 4, none⟩ (.slice (some ⟨g, 0, none⟩) (n + 1) cap)) e o x k t m b (.slice (some ⟨g, 0, none⟩) (n + 1) cap) L (zs ++ [z]) := by
  subst hn
  have hY := h.lt
  have hs := hg.size
  rw [World.size_alloc] at hs
  obtain ⟨⟨h1, h2, h3, h4, h5, h6, h7, h8⟩, h9, h10, h11⟩ := h
  have hblk : ∀ q, q ≤ Y → wa.heap[q]? = wx.heap[q]? := fun q hq => by
    rw [hg.block q (by rw [World.size_alloc]; omega) (fun e => by have := (h10.lt q e.symm).1; omega), Below.heap_alloc _ _ _ (by omega)]
  have hb : ∀ q, q < Y → (wa.setCell ⟨Y, 4, none⟩ (.slice (some ⟨g, 0, none⟩) (zs.length + 1) cap)).heap[q]? = wx.heap[q]? := fun q hq => (Below.heap_setCell _ _ _ _ (by show q ≠ Y; omega)).trans (hblk q (by omega))
  have hbY := (hblk Y (Nat.le_refl _)).trans h9
  refine ⟨hbY, ⟨(hb _ (by omega)).trans h1, (hb _ (by omega)).trans h2, (hb _ (by omega)).trans h3, (hb _ (by omega)).trans h4, ?_, h6, h7, by rw [size_set]; omega⟩, loan_set hbY, ?_, h11⟩
  · exact (Below.grown (h5.alloc (by omega) _) hg (by rw [World.size_alloc]; omega) (fun q hq => by have := (h10.lt q hq).1; omega)).setCell (by show N ≤ Y; omega) _
  · have := ownsRow_setCell_below hown (a := ⟨Y, 4, none⟩) (Nat.lt_succ_self _) (.slice (some ⟨g, 0, none⟩) (zs.length + 1) cap)
    simpa using this
theorem take_push {zs : List ByteArray} {i : Nat} {z : ByteArray} (hz : zs[i]? = some z) : zs.take i ++ [z] = zs.take (i + 1) := by
  have hi := (List.getElem?_eq_some_iff.1 hz).1
  rw [List.take_succ_eq_append_getElem hi]
  rw [List.getElem?_eq_getElem hi] at hz
  rw [Option.some.inj hz]
theorem first_call (W : World) (N : Nat) (hN : W.heap.size = N) : Calls Tryz.prog 59 #[.int .i64 3, .agg #[.int .i64 2, .string ⟨#[116]⟩, .int .i64 300, .string ⟨#[104, 105]⟩, .slice (some ⟨N, 0, none⟩) 1 1]] (W.alloc (.cells #[.string ⟨#[97]⟩] 9)) fun e w' =>
    e = .returned (.tuple #[.string firstB, .int .i64 0]) ∧ Below (W.alloc (.cells #[.string ⟨#[97]⟩] 9)).heap.size (W.alloc (.cells #[.string ⟨#[97]⟩] 9)) w' := by
  subst hN
  have hE := encode_any 3 2 ⟨#[116]⟩ 300 ⟨#[104, 105]⟩ (some ⟨W.heap.size, 0, none⟩) 1 [⟨#[97]⟩] (W.alloc (.cells #[.string ⟨#[97]⟩] 9)) one_tag
    (fun i hi => by
      have : i = 0 := by simpa using hi
      subst this; decide) (by decide) (by decide) (by decide)
  rw [first_enc] at hE
  exact hE
end Go.Proofs.YtdjllnhahhjgmaaGreat
namespace Go.Proofs.YtdjllnhahhjgmaaGreat
open Go.RowKit Chron
theorem book_cells {w : World} {b : Nat} {x0 x1 : Value} {t : TypeId} (h : w.heap[b]? = some (.cells #[x0, x1] t)) : w.cell? ⟨b, 0, none⟩ = some x0 ∧ w.cell? ⟨b, 1, none⟩ = some x1 ∧ ∀ o, w.frozen? ⟨b, o, none⟩ = false := by
  refine ⟨by simp [World.cell?, h], by simp [World.cell?, h], fun o => by simp [World.frozen?, h]⟩
def mixed (ts : List ByteArray) (m : ByteArray) (i : Nat) : List Value := List.replicate i (.string m) ++ (ts.drop i).map Value.string
theorem mixed_zero (ts : List ByteArray) (m : ByteArray) : mixed ts m 0 = ts.map Value.string := by simp [mixed]
theorem mixed_set (ts : List ByteArray) (m : ByteArray) (i : Nat) (h : i < ts.length) : (mixed ts m i).set i (.string m) = mixed ts m (i + 1) := by
  rw [mixed, mixed, List.set_append_right _ _ (by simp), List.drop_eq_getElem_cons h, List.replicate_succ', List.length_replicate, Nat.sub_self, List.map_cons, List.set_cons_zero, List.append_assoc]
  rfl
theorem mixed_end (ts : List ByteArray) (m : ByteArray) (i : Nat) (h : i = ts.length) : mixed ts m i = List.replicate ts.length (.string m) := by
  subst h; simp [mixed]
theorem lay_below {w wa : World} {l : Value} {g B : Nat} {o : Obj} (h : Lay (w.alloc o) wa l g (w.alloc o).heap.size) (hl : ∀ q, l.ownBlock = some q → B ≤ q) (hB : B ≤ w.heap.size) : Below B w wa := by
  have hsa : (w.alloc o).heap.size = w.heap.size + 1 := World.size_alloc _ _
  have hs : (w.alloc o).heap.size ≤ wa.heap.size := by rcases h with ⟨_, hgr⟩ | ⟨_, hgr⟩ <;> exact hgr.size
  have hos : wa.os = w.os ∧ wa.tape = w.tape ∧ wa.output = w.output := by rcases h with ⟨_, hgr⟩ | ⟨_, hgr⟩ <;> exact ⟨hgr.os, hgr.tape, hgr.output⟩
  refine ⟨hos.1, hos.2.1, hos.2.2, by omega, fun q hq => ?_⟩
  rcases h with ⟨h1, hgr⟩ | ⟨h1, hgr⟩
  · have := hl g h1
    exact (hgr.block q (by omega) (fun e => by have := Option.some.inj e; omega)).trans (Below.heap_alloc _ _ _ (by omega))
  · exact (hgr.block q (by omega) (fun e => by cases e)).trans (Below.heap_alloc _ _ _ (by omega))
/- where keepTags stands between its appends -/
structure KS (b : Nat) (tv : Value) (xs : List Value) (B : Nat) (w wx : World) (l : Value) (n : Nat) (m : ByteArray) (outs : List Value) (k : Nat) : Prop where
  mks : Marks wx B l n m outs k
  bk : BookAt b tv xs B wx
  bel : Below b w wx
theorem KS.push {b : Nat} {tv : Value} {xs : List Value} {B : Nat} {w wx wa : World} {l : Value} {n g cap k j : Nat} {m : ByteArray} {outs : List Value} {o : Obj} (h : KS b tv xs B w wx l n m outs k) (hj : k ≤ j)
    (hnew : wa.ownsRow B 9 1 (.slice (some ⟨g, 0, none⟩) (n + j) cap) (n + j) (List.replicate n (.string m) ++ List.replicate j (.string m))) (hold : wa.ownsRow B 9 1 l n (List.replicate n (.string m)))
    (hlay : Lay (wx.alloc o) wa l g (wx.alloc o).heap.size) : KS b tv xs B w wa l n m (outs ++ [.slice (some ⟨g, 0, none⟩) (n + j) cap]) j := by
  have hb := lay_below hlay (fun q hq => (h.mks.own.lt q hq).1) h.bk.size
  exact ⟨h.mks.push hj hnew hold hlay, h.bk.keep hb, h.bel.trans (hb.mono (Nat.le_of_lt h.bk.lt))⟩
theorem news_of {w : World} {cs : List Value} {t : TypeId} : ∀ j u, cs[j]? = some u → (w.alloc (.cells cs.toArray t)).cell? ((⟨w.heap.size, 0, none⟩ : Addr).add j) = some u := fun j u hu =>
  World.news_of_block (cs := cs.toArray) (heap_alloc_new w _) j u hu
theorem le_alloc2 {w : World} {b : Nat} {o : Obj} (h : b ≤ w.heap.size) : b ≤ (w.alloc o).heap.size := by rw [World.size_alloc]; omega
theorem KS.entries {b : Nat} {tv : Value} {xs : List Value} {B : Nat} {w wx : World} {l : Value} {n k : Nat} {m : ByteArray} {outs : List Value} (h : KS b tv xs B w wx l n m outs k) (h7 : n + k ≤ 7) :
    ∀ v ∈ l :: outs, v = .slice none 0 0 ∨ ∃ g no cap, Out wx B 7 m v g no cap := by
  intro v hv
  rcases List.mem_cons.1 hv with rfl | hv
  · rcases h.mks.own.2 with ⟨h1, _⟩ | ⟨g, cap, cur, rfl, a2, a3, a4, a5, a6, a7⟩
    · exact .inl h1
    · exact .inr ⟨g, n, cap, rfl, by omega, a4, a2, (Array.getElem?_eq_some_iff.1 a3).1, (own_cells h.mks.own).2⟩
  · obtain ⟨g, no, cap, ho⟩ := h.mks.outs v hv
    exact .inr ⟨g, no, cap, ho.val, Nat.le_trans ho.few h7, ho.room, ho.base, ho.lt, ho.cells⟩
theorem slices_one {a b c d : Option Addr} {n1 n2 n3 n4 c1 c2 c3 c4 : Nat} : ∀ u ∈ [Value.slice a n1 c1, .slice b n2 c2, .slice c n3 c3, .slice d n4 c4], u.oneCell' = true := by
  intro u hu
  simp only [List.mem_cons, List.not_mem_nil, or_false] at hu
  rcases hu with rfl | rfl | rfl | rfl <;> rfl
theorem all_one (n : Nat) (m : ByteArray) : ∀ u ∈ List.replicate n (Value.string m), u.oneCell' = true := by
  intro u hu; rw [List.eq_of_mem_replicate hu]; rfl
set_option maxRecDepth 100000 in
set_option maxHeartbeats 1000000 in
theorem keepTags_any (b r : Nat) (tv : Value) (xs : List Value) (B : Nat) (l : Value) (ts : List ByteArray) (w : World) (HB : Hid (BookAt b tv xs B w)) (HO : Hid (w.ownsRow B 9 1 l ts.length (ts.map Value.string)))
    (h4 : ts.length ≤ 4) (HX : Hid (xs.length = 4 * r ∧ r ≤ 3000000)) :
    Calls Tryz.prog 36 #[.pointer (some ⟨b, 0, none⟩), l] w fun e w' => e = .returned (.tuple #[]) ∧ ∃ tv' xs', BookAt b tv' xs' w'.heap.size w' ∧ xs'.length = 4 * (r + 1) ∧ Below b w w' := by
  obtain ⟨i0, hi, hz0, hz1, hz2⟩ := info_parts infoText
  obtain ⟨i1, hi1, hy0, hy1, hy2⟩ := info_parts infoTexts
  obtain ⟨ta, tc, htv, htc, _, hT⟩ := row_at HB.out.tags
  subst htv
  obtain ⟨la, lc, rfl, hla⟩ := own_tags HO.out
  obtain ⟨d0, d1, df⟩ := book_cells HB.out.blk
  have hxs : xs.length ≤ 12000000 := by have := HX.out; omega
  clear hT hla
  go_enter Tryz.func36, Tryz.ntmps36
  go_wp2_with fail
  refine (badTag_any _ _ (by omega) (by show Int.toNat _ < _; have := HX.out; omega)).mono ?_
  rintro e w1 ⟨rfl, hb1⟩
  obtain ⟨m, hm, HM⟩ : ∃ m, badB ((xs.length : Int) / 4).toNat = m ∧ Hid (m = badB r) := ⟨_, rfl, by show badB _ = badB r; congr 1; have := HX.out; omega⟩
  have HB1 := hide0 (HB.out.keep (hb1.mono HB.out.size))
  have HO1 := hide0 (own_below HO.out hb1)
  have HF1 := hide0 (hb1.mono (Nat.le_trans (Nat.le_of_lt HB.out.lt) HB.out.size))
  clear hb1 HB HO d0 d1 df
  go_wp2
  go_loopw [5] (fun i wx => ∃ k : Nat, k ≤ ts.length ∧ i = .int .i64 k ∧ Hid (wx.ownsRow B 9 1 (.slice la ts.length lc) ts.length (mixed ts m k)) ∧ Hid (Below B w1 wx)) (fun i _ => ts.length - (intOf i).toNat)
  case atStart => exact ⟨0, Nat.zero_le _, rfl, by rw [mixed_zero]; exact HO1, Below.refl _ _⟩
  case round =>
    obtain ⟨k, hk, rfl, HOk, HBk⟩ := hrel
    by_cases hlt : k < ts.length
    · obtain ⟨g, rfl, hgB, x, hcell, hfr⟩ : ∃ g, la = some ⟨g, 0, none⟩ ∧ B ≤ g ∧ ∃ x, wr.cell? ⟨g, k, none⟩ = some x ∧ wr.frozen? ⟨g, k, none⟩ = false := by
        obtain ⟨h1, ⟨h2, h3⟩ | ⟨g, cap, cur, he, a2, a3, a4, a5, a6, a7⟩⟩ := HOk.out
        · omega
        · cases he
          exact ⟨g, rfl, a2, cur[k]'(by omega), by simp [World.cell?, a3], by simp [World.frozen?, a3]⟩
      have HS := hide0 (own_set (i := k) (u := .string m) HOk.out)
      rw [mixed_set ts m k hlt] at HS
      have HSB := hide0 (HBk.out.setCell (p := ⟨g, k, none⟩) hgB (.string m))
      go_wp2
      go_roundw
      case rel => exact ⟨k + 1, by omega, by go_num, HS, HSB⟩
      case measure => simp [intOf]; omega
    · have hkn : k = ts.length := by omega
      have HOn := hide0 HOk.out
      rw [mixed_end ts m k hkn] at HOn
      have HK0 : Hid (KS b (.slice ta xs.length tc) xs B w wr (.slice la ts.length lc) ts.length m [] 0) := ⟨⟨HOn.out, fun o ho => by cases ho⟩, HB1.out.keep HBk.out, HF1.out.trans (HBk.out.mono (Nat.le_of_lt HB1.out.lt))⟩
      clear HOn HOk HBk HB1 HO1 HF1 hm hkn
      have hmx : ∀ j, j ≤ 3 → ts.length + j ≤ maxLen := fun j hj => by unfold maxLen; omega
      have hby : ∀ j, j ≤ 3 → (ts.length + j) * 16 ≤ 140737488355328 := fun j hj => by omega
      have hxm : xs.length + 4 ≤ maxLen := by unfold maxLen; omega
      have hxb : (xs.length + 4) * 24 ≤ 140737488355328 := by omega
      go_wp2_with (first
        | (have hz := HK3; clear hz; at_builtin; go_must (refine wpList_append_kept _ rfl _ _ 27 rfl (b + 1) 36 i1 (.slice none 0 0) 24 Tryz.underlying27 hi1 hy0 hy1 hy2 rfl (.slice ta xs.length tc) xs.length xs rfl (HK3.out.bk.tags.alloc _) ⟨_, 0, none⟩ 4 4 [.slice la ts.length lc, .slice (some ⟨g1, 0, none⟩) (ts.length + 1) cg1, .slice (some ⟨g2, 0, none⟩) (ts.length + 2) cg2, .slice (some ⟨g3, 0, none⟩) (ts.length + 3) cg3] rfl rfl news_of slices_one (by omega) hxm hxb (le_alloc2 (Nat.le_trans HK3.out.bk.lt HK3.out.bk.size)) ?_)
           intro g4 cg4 w4 hn4 ho4 hl4
           obtain ⟨hblk, HBK, hbel⟩ := HK3.out.bk.push HX.out.1 rfl (by rw [← HM.out]; exact HK3.out.entries (by omega)) hn4 hl4
           have HBel := hide0 (HK3.out.bel.trans hbel)
           have HBook := hide0 HBK
           obtain ⟨e0, e1, ef⟩ := book_cells hblk
           clear hn4 ho4 hl4 HBK hbel hblk HK3 d0 d1 df)
        | (have hz := HK2; clear hz; at_builtin; go_must (refine wpList_append_kept _ rfl _ _ 36 rfl B 9 i0 (.string ⟨#[]⟩) 16 Tryz.underlying36 hi hz0 hz1 hz2 rfl (.slice la ts.length lc) ts.length (List.replicate ts.length (.string m)) rfl (HK2.out.mks.own.alloc _) ⟨_, 0, none⟩ 3 3 (List.replicate 3 (.string m)) rfl rfl news_of (all_one 3 m) (by omega) (hmx 3 (by omega)) (hby 3 (by omega)) (le_alloc2 HK2.out.bk.size) ?_)
           intro g3 cg3 wg3 hng3 hog3 hlg3
           have HK3 := hide0 (HK2.out.push (j := 3) (by omega) hng3 hog3 hlg3)
           obtain ⟨d0, d1, df⟩ := book_cells HK3.out.bk.blk
           clear hng3 hog3 hlg3 HK2)
        | (have hz := HK1; clear hz; at_builtin; go_must (refine wpList_append_kept _ rfl _ _ 36 rfl B 9 i0 (.string ⟨#[]⟩) 16 Tryz.underlying36 hi hz0 hz1 hz2 rfl (.slice la ts.length lc) ts.length (List.replicate ts.length (.string m)) rfl (HK1.out.mks.own.alloc _) ⟨_, 0, none⟩ 2 2 (List.replicate 2 (.string m)) rfl rfl news_of (all_one 2 m) (by omega) (hmx 2 (by omega)) (hby 2 (by omega)) (le_alloc2 HK1.out.bk.size) ?_)
           intro g2 cg2 wg2 hng2 hog2 hlg2
           have HK2 := hide0 (HK1.out.push (j := 2) (by omega) hng2 hog2 hlg2)
           clear hng2 hog2 hlg2 HK1)
        | (have hz := HK0; clear hz; at_builtin; go_must (refine wpList_append_kept _ rfl _ _ 36 rfl B 9 i0 (.string ⟨#[]⟩) 16 Tryz.underlying36 hi hz0 hz1 hz2 rfl (.slice la ts.length lc) ts.length (List.replicate ts.length (.string m)) rfl (HK0.out.mks.own.alloc _) ⟨_, 0, none⟩ 1 1 (List.replicate 1 (.string m)) rfl rfl news_of (all_one 1 m) (by omega) (hmx 1 (by omega)) (hby 1 (by omega)) (le_alloc2 HK0.out.bk.size) ?_)
           intro g1 cg1 wg1 hng1 hog1 hlg1
           have HK1 := hide0 (HK0.out.push (j := 1) (by omega) hng1 hog1 hlg1)
           clear hng1 hog1 hlg1 HK0))
      go_end0
      exact ⟨rfl, _, _, by rw [size_set]; exact HBook.out, by have := HX.out; simp; omega, HBel.out.setCell (Nat.le_refl _) _⟩
end Go.Proofs.YtdjllnhahhjgmaaGreat
namespace Chron
open Go Go.RowKit
def isBlank (c : UInt8) : Bool := c == 32 || c == 10 || c == 13 || c == 9
def skipL (l : List UInt8) : List UInt8 := l.dropWhile isBlank
theorem skip_suf (l : List UInt8) : skipL l <:+ l := List.dropWhile_suffix _
theorem skip_skip (l : List UInt8) : skipL (skipL l) = skipL l := by
  unfold skipL
  induction l with
  | nil => rfl
  | cons x l ih =>
    by_cases h : isBlank x = true
    · rw [List.dropWhile_cons_of_pos h]; exact ih
    · rw [List.dropWhile_cons_of_neg h, List.dropWhile_cons_of_neg h]
def signL (c : UInt8) (l : List UInt8) : Option (List UInt8) :=
  match skipL l with
  | x :: r => if x = c then some r else none
  | [] => none
theorem sign_some {c : UInt8} {l r : List UInt8} (h : signL c l = some r) : skipL l = c :: r := by
  unfold signL at h
  split at h
  · rename_i x r' e
    split at h
    · rename_i hx
      simp only [Option.some.injEq] at h
      rw [e, hx, h]
    · cases h
  · cases h
theorem sign_none {c : UInt8} {l : List UInt8} (h : signL c l = none) : skipL l = [] ∨ ∃ x r, skipL l = x :: r ∧ x ≠ c := by
  unfold signL at h
  split at h
  · rename_i x r e
    split at h
    · cases h
    · rename_i hx
      exact .inr ⟨x, r, e, hx⟩
  · rename_i e
    exact .inl e
theorem sign_suf {c : UInt8} {l r : List UInt8} (h : signL c l = some r) : r <:+ l ∧ r.length < l.length := by
  have h1 := sign_some h
  have h2 := skip_suf l
  rw [h1] at h2
  refine ⟨(List.suffix_cons c r).trans h2, ?_⟩
  have := h2.length_le
  simp at this
  omega
theorem sign_other {c d : UInt8} {l r : List UInt8} (h : signL c l = some r) (hd : d ≠ c) : signL d l = none := by
  have := sign_some h
  unfold signL
  rw [this]
  simp [Ne.symm hd]
theorem sign_nil (c : UInt8) : signL c [] = none := rfl
def hexD (b : UInt8) : Option Nat :=
  if 48 ≤ b.toNat ∧ b.toNat ≤ 57 then some (b.toNat - 48) else if 97 ≤ b.toNat ∧ b.toNat ≤ 102 then some (b.toNat - 87) else if 65 ≤ b.toNat ∧ b.toNat ≤ 70 then some (b.toNat - 55) else none
theorem hex_lt {b : UInt8} {n : Nat} (h : hexD b = some n) : n < 16 := by
  unfold hexD at h
  split at h
  · simp at h; omega
  · split at h
    · simp at h; omega
    · split at h
      · simp at h; omega
      · cases h
def codedL (l : List UInt8) : Option (UInt8 × List UInt8) :=
  match l with
  | z :: y :: a :: b :: r => if z = 48 ∧ y = 48 then (match hexD a, hexD b with | some m, some n => some (UInt8.ofNat (16 * m + n), r) | _, _ => none) else none
  | _ => none
def plainL : Option (UInt8 × List UInt8) → Option (UInt8 × List UInt8)
  | some (c, r) => if byteOk c then some (c, r) else none
  | none => none
def letterL (l : List UInt8) : Option (UInt8 × List UInt8) :=
  match l with
  | [] => none
  | x :: r => if x = 92 then (match r with
      | [] => none
      | c :: r2 => if c = 34 ∨ c = 92 ∨ c = 47 then some (c, r2) else if c = 117 then plainL (codedL r2) else none) else plainL (some (x, r))
theorem coded_suf {l r : List UInt8} {c : UInt8} (h : codedL l = some (c, r)) : r <:+ l := by
  unfold codedL at h
  split at h
  · rename_i z y a b r'
    split at h
    · split at h
      · simp only [Option.some.injEq, Prod.mk.injEq] at h
        rw [← h.2]
        exact ⟨[z, y, a, b], rfl⟩
      · cases h
    · cases h
  · cases h
theorem plain_some {o : Option (UInt8 × List UInt8)} {c : UInt8} {r : List UInt8} (h : plainL o = some (c, r)) : o = some (c, r) ∧ byteOk c = true := by
  unfold plainL at h
  split at h
  · split at h
    · rename_i hb
      simp only [Option.some.injEq, Prod.mk.injEq] at h
      obtain ⟨rfl, rfl⟩ := h
      exact ⟨rfl, hb⟩
    · cases h
  · cases h
theorem letter_suf {l r : List UInt8} {c : UInt8} (h : letterL l = some (c, r)) : r <:+ l ∧ r.length < l.length := by
  unfold letterL at h
  split at h
  · cases h
  · rename_i x r0
    have key : r <:+ r0 → r <:+ x :: r0 ∧ r.length < (x :: r0).length := fun h => ⟨h.trans (List.suffix_cons _ _), by have := h.length_le; simp; omega⟩
    split at h
    · split at h
      · cases h
      · rename_i c' r2
        split at h
        · simp only [Option.some.injEq, Prod.mk.injEq] at h
          rw [← h.2]
          rw [← h.2] at key
          exact key (List.suffix_cons _ _)
        · split at h
          · exact key ((coded_suf (plain_some h).1).trans (List.suffix_cons _ _))
          · cases h
    · have := (plain_some h).1
      simp only [Option.some.injEq, Prod.mk.injEq] at this
      rw [← this.2]
      rw [← this.2] at key
      exact key List.suffix_rfl
theorem letter_ok {l r : List UInt8} {c : UInt8} (h : letterL l = some (c, r)) : byteOk c = true := by
  unfold letterL at h
  split at h
  · cases h
  · split at h
    · split at h
      · cases h
      · split at h
        · rename_i hc
          simp only [Option.some.injEq, Prod.mk.injEq] at h
          obtain ⟨rfl, _⟩ := h
          rcases hc with rfl | rfl | rfl <;> decide
        · split at h
          · exact (plain_some h).2
          · cases h
    · exact (plain_some h).2
/- what stands in quotes, up to the end of them -/
def inF : Nat → List UInt8 → Option (List UInt8 × List UInt8)
  | 0, _ => none
  | _ + 1, [] => none
  | n + 1, x :: r => if x = 34 then some ([], r) else
    match letterL (x :: r) with
    | none => none
    | some (c, r2) => (inF n r2).map fun p => (c :: p.1, p.2)
theorem inF_eq : ∀ (n m : Nat) (l : List UInt8), l.length < n → l.length < m → inF n l = inF m l
  | 0, _, _, h, _ => absurd h (Nat.not_lt_zero _)
  | _ + 1, 0, _, _, h => absurd h (Nat.not_lt_zero _)
  | _ + 1, _ + 1, [], _, _ => rfl
  | n + 1, m + 1, x :: r, h1, h2 => by
    rw [inF, inF]
    by_cases hx : x = 34
    · rw [if_pos hx, if_pos hx]
    · rw [if_neg hx, if_neg hx]
      cases hl : letterL (x :: r) with
      | none => rfl
      | some p =>
        obtain ⟨c, r2⟩ := p
        have h3 := (letter_suf hl).2
        simp only
        rw [inF_eq n m r2 (by omega) (by omega)]
def inL (l : List UInt8) : Option (List UInt8 × List UInt8) := inF (l.length + 1) l
theorem in_nil : inL [] = none := rfl
theorem in_end (r : List UInt8) : inL (34 :: r) = some ([], r) := by rw [inL, inF, if_pos rfl]
theorem in_step {x c : UInt8} {r r2 : List UInt8} (hx : x ≠ 34) (h : letterL (x :: r) = some (c, r2)) : inL (x :: r) = (inL r2).map fun p => (c :: p.1, p.2) := by
  have h3 := (letter_suf h).2
  rw [inL, inF, if_neg hx, h]
  simp only
  rw [inF_eq _ (r2.length + 1) r2 h3 (by omega), inL]
theorem in_bad {x : UInt8} {r : List UInt8} (hx : x ≠ 34) (h : letterL (x :: r) = none) : inL (x :: r) = none := by
  rw [inL, inF, if_neg hx, h]
theorem in_suf : ∀ (n : Nat) {l s r : List UInt8}, l.length ≤ n → inL l = some (s, r) → r <:+ l ∧ r.length < l.length ∧ s.length < l.length
  | 0, l, s, r, hn, h => by
    have : l = [] := List.eq_nil_of_length_eq_zero (by omega)
    rw [this, in_nil] at h; cases h
  | n + 1, [], s, r, hn, h => by rw [in_nil] at h; cases h
  | n + 1, x :: l, s, r, hn, h => by
    by_cases hx : x = 34
    · subst hx
      rw [in_end] at h
      simp only [Option.some.injEq, Prod.mk.injEq] at h
      obtain ⟨rfl, rfl⟩ := h
      exact ⟨List.suffix_cons _ _, by simp, by simp⟩
    · cases hl : letterL (x :: l) with
      | none => rw [in_bad hx hl] at h; cases h
      | some p =>
        obtain ⟨c, r2⟩ := p
        rw [in_step hx hl] at h
        cases hi : inL r2 with
        | none => rw [hi] at h; cases h
        | some q =>
          obtain ⟨s', r'⟩ := q
          rw [hi] at h
          simp only [Option.map_some, Option.some.injEq, Prod.mk.injEq] at h
          obtain ⟨rfl, rfl⟩ := h
          have h1 := letter_suf hl
          obtain ⟨h2, h3, h4⟩ := in_suf n (by have := h1.2; simp at this hn; omega) hi
          have h5 := h1.2
          simp only [List.length_cons] at h5 ⊢
          exact ⟨h2.trans h1.1, by omega, by omega⟩
def quoteL (l : List UInt8) : Option (List UInt8 × List UInt8) :=
  match signL 34 l with
  | some r => inL r
  | none => none
theorem quote_suf {l s r : List UInt8} (h : quoteL l = some (s, r)) : r <:+ l ∧ r.length < l.length ∧ s.length < l.length := by
  unfold quoteL at h
  split at h
  · rename_i r0 e
    have h1 := sign_suf e
    obtain ⟨h2, h3, h4⟩ := in_suf _ (Nat.le_refl _) h
    have h5 := h1.2
    exact ⟨h2.trans h1.1, by omega, by omega⟩
  · cases h
def isDig (c : UInt8) : Bool := decide (48 ≤ c.toNat) && decide (c.toNat ≤ 57)
def capN (n d : Nat) : Nat := min (10 * n + (d - 48)) 1125899906842625
def numL (ds : List UInt8) : Nat := ds.foldl (fun n d => capN n d.toNat) 0
def badNum (ds : List UInt8) : Bool := ds.isEmpty || (ds.head? == some 48 && ds != [48])
def countL (l : List UInt8) : Option (Nat × List UInt8) :=
  let ds := (skipL l).takeWhile isDig
  if badNum ds then none else some (numL ds, (skipL l).dropWhile isDig)
theorem count_suf {l r : List UInt8} {n : Nat} (h : countL l = some (n, r)) : r <:+ l ∧ r.length < l.length := by
  unfold countL at h
  simp only at h
  split at h
  · cases h
  · rename_i hb
    simp only [Option.some.injEq, Prod.mk.injEq] at h
    obtain ⟨_, rfl⟩ := h
    have h1 := (List.dropWhile_suffix isDig (l := skipL l)).trans (skip_suf l)
    refine ⟨h1, ?_⟩
    have h2 := congrArg List.length (List.takeWhile_append_dropWhile (p := isDig) (l := skipL l))
    have h3 := (skip_suf l).length_le
    have h4 : (skipL l).takeWhile isDig ≠ [] := by
      intro e
      rw [e] at hb
      simp [badNum] at hb
    have h5 := List.length_pos_iff.2 h4
    simp only [List.length_append] at h2
    omega
/- things with a comma between two, up to the bracket -/
def itemsF {α : Type} (one : List UInt8 → Option (α × List UInt8)) : Nat → List UInt8 → Option (List α × List UInt8)
  | 0, _ => none
  | n + 1, l =>
    match one l with
    | none => none
    | some (x, r) =>
      match signL 44 r with
      | some r2 => (itemsF one n r2).map fun p => (x :: p.1, p.2)
      | none => (signL 93 r).map fun r3 => ([x], r3)
theorem itemsF_eq {α : Type} {one : List UInt8 → Option (α × List UInt8)} (hone : ∀ l x r, one l = some (x, r) → r.length < l.length) : ∀ (n m : Nat) (l : List UInt8), l.length < n → l.length < m → itemsF one n l = itemsF one m l
  | 0, _, _, h, _ => absurd h (Nat.not_lt_zero _)
  | _ + 1, 0, _, _, h => absurd h (Nat.not_lt_zero _)
  | n + 1, m + 1, l, h1, h2 => by
    rw [itemsF, itemsF]
    cases h3 : one l with
    | none => rfl
    | some p =>
      obtain ⟨x, r⟩ := p
      have a1 := hone l x r h3
      simp only
      cases h4 : signL 44 r with
      | none => rfl
      | some r2 =>
        have a2 := (sign_suf h4).2
        simp only
        rw [itemsF_eq hone n m r2 (by omega) (by omega)]
def itemsL {α : Type} (one : List UInt8 → Option (α × List UInt8)) (_hone : ∀ l x r, one l = some (x, r) → r.length < l.length) (l : List UInt8) : Option (List α × List UInt8) := itemsF one (l.length + 1) l
theorem items_none {α : Type} {one : List UInt8 → Option (α × List UInt8)} {hone : ∀ l x r, one l = some (x, r) → r.length < l.length} {l : List UInt8} (h : one l = none) : itemsL one hone l = none := by
  rw [itemsL, itemsF, h]
theorem items_more {α : Type} {one : List UInt8 → Option (α × List UInt8)} {hone : ∀ l x r, one l = some (x, r) → r.length < l.length} {l r r2 : List UInt8} {x : α} (h : one l = some (x, r)) (h2 : signL 44 r = some r2) : itemsL one hone l = (itemsL one hone r2).map fun p => (x :: p.1, p.2) := by
  have a1 := hone l x r h
  have a2 := (sign_suf h2).2
  rw [itemsL, itemsF, h]
  simp only [h2]
  rw [itemsF_eq hone l.length (r2.length + 1) r2 (by omega) (by omega), itemsL]
theorem items_last {α : Type} {one : List UInt8 → Option (α × List UInt8)} {hone : ∀ l x r, one l = some (x, r) → r.length < l.length} {l r : List UInt8} {x : α} (h : one l = some (x, r)) (h2 : signL 44 r = none) : itemsL one hone l = (signL 93 r).map fun r3 => ([x], r3) := by
  rw [itemsL, itemsF, h]
  simp only [h2]
theorem items_suf {α : Type} {one : List UInt8 → Option (α × List UInt8)} {hone : ∀ l x r, one l = some (x, r) → r.length < l.length} (hsuf : ∀ l x r, one l = some (x, r) → r <:+ l) : ∀ (n : Nat) {l r : List UInt8} {xs : List α}, l.length ≤ n → itemsL one hone l = some (xs, r) → r <:+ l ∧ r.length < l.length ∧ 0 < xs.length ∧ xs.length ≤ l.length
  | n, l, r, xs, hn, h => by
    cases ho : one l with
    | none => rw [items_none ho] at h; cases h
    | some p =>
      obtain ⟨x, r0⟩ := p
      have h0 := hone l x r0 ho
      have s0 := hsuf l x r0 ho
      cases hs : signL 44 r0 with
      | none =>
        rw [items_last ho hs] at h
        cases h3 : signL 93 r0 with
        | none => rw [h3] at h; cases h
        | some r3 =>
          rw [h3] at h
          simp only [Option.map_some, Option.some.injEq, Prod.mk.injEq] at h
          obtain ⟨rfl, rfl⟩ := h
          have := sign_suf h3
          have := this.2
          exact ⟨(sign_suf h3).1.trans s0, by omega, by simp, by simp; omega⟩
      | some r2 =>
        rw [items_more ho hs] at h
        have hs2 := sign_suf hs
        have hl2 := hs2.2
        cases hi : itemsL one hone r2 with
        | none => rw [hi] at h; cases h
        | some q =>
          obtain ⟨ys, r3⟩ := q
          rw [hi] at h
          simp only [Option.map_some, Option.some.injEq, Prod.mk.injEq] at h
          obtain ⟨rfl, rfl⟩ := h
          match n, hn with
          | 0, hn => omega
          | n + 1, hn =>
            obtain ⟨a1, a2, a3, a4⟩ := items_suf hsuf n (by omega) hi
            exact ⟨(a1.trans hs2.1).trans s0, by omega, by simp, by simp; omega⟩
def listL {α : Type} (one : List UInt8 → Option (α × List UInt8)) (hone : ∀ l x r, one l = some (x, r) → r.length < l.length) (l : List UInt8) : Option (List α × List UInt8) :=
  match signL 91 l with
  | none => none
  | some r => match signL 93 r with
    | some r2 => some ([], r2)
    | none => itemsL one hone r
theorem list_suf {α : Type} {one : List UInt8 → Option (α × List UInt8)} {hone : ∀ l x r, one l = some (x, r) → r.length < l.length} (hsuf : ∀ l x r, one l = some (x, r) → r <:+ l) {l r : List UInt8} {xs : List α} (h : listL one hone l = some (xs, r)) : r <:+ l ∧ r.length < l.length ∧ xs.length ≤ l.length := by
  unfold listL at h
  split at h
  · cases h
  · rename_i r0 e0
    have h0 := sign_suf e0
    have h0' := h0.2
    split at h
    · rename_i r2 e2
      have h2 := sign_suf e2
      have h2' := h2.2
      simp only [Option.some.injEq, Prod.mk.injEq] at h
      obtain ⟨rfl, rfl⟩ := h
      exact ⟨h2.1.trans h0.1, by omega, by simp⟩
    · obtain ⟨a1, a2, _, a4⟩ := items_suf hsuf _ (Nat.le_refl _) h
      exact ⟨a1.trans h0.1, by omega, by omega⟩
theorem quote_one : ∀ l x r, quoteL l = some (x, r) → r.length < l.length := fun _ _ _ h => (quote_suf h).2.1
def tagsL (l : List UInt8) : Option (List (List UInt8) × List UInt8) := listL quoteL quote_one l
def nBody : List UInt8 := [98, 111, 100, 121]
def nKind : List UInt8 := [107, 105, 110, 100]
def nTags : List UInt8 := [116, 97, 103, 115]
def nTask : List UInt8 := [116, 97, 115, 107]
def nTime : List UInt8 := [116, 105, 109, 101]
def kindW (s : List UInt8) : Option Int := if s = wordB 1 then some 1 else if s = wordB 2 then some 2 else if s = wordB 3 then some 3 else if s = wordB 4 then some 4 else none
def ba (l : List UInt8) : ByteArray := ⟨l.toArray⟩
def fieldL (nm : List UInt8) (e : Ev) (l : List UInt8) : Option (Ev × List UInt8) :=
  if nm = nBody then (quoteL l).map fun p => ({ e with body := ba p.1 }, p.2)
  else if nm = nKind then (quoteL l).bind fun p => (kindW p.1).map fun k => ({ e with kind := k }, p.2)
  else if nm = nTags then (tagsL l).map fun p => ({ e with tags := p.1.map ba }, p.2)
  else if nm = nTask then (quoteL l).map fun p => ({ e with task := ba p.1 }, p.2)
  else if nm = nTime then (countL l).map fun p => ({ e with time := (p.1 : Int) }, p.2)
  else none
theorem field_suf {nm l r : List UInt8} {e e' : Ev} (h : fieldL nm e l = some (e', r)) : r <:+ l ∧ r.length < l.length := by
  have hq : ∀ {f : List UInt8 × List UInt8 → Ev}, (quoteL l).map (fun p => (f p, p.2)) = some (e', r) → r <:+ l ∧ r.length < l.length := by
    intro f h
    cases hc : quoteL l with
    | none => rw [hc] at h; cases h
    | some p =>
      rw [hc] at h
      simp only [Option.map_some, Option.some.injEq, Prod.mk.injEq] at h
      rw [← h.2]
      have := quote_suf (s := p.1) (r := p.2) hc
      exact ⟨this.1, this.2.1⟩
  unfold fieldL at h
  split at h
  · exact hq h
  · split at h
    · cases hc : quoteL l with
      | none => rw [hc] at h; cases h
      | some p =>
        rw [hc] at h
        simp only [Option.bind_some] at h
        cases hk : kindW p.1 with
        | none => rw [hk] at h; cases h
        | some k =>
          rw [hk] at h
          simp only [Option.map_some, Option.some.injEq, Prod.mk.injEq] at h
          rw [← h.2]
          have := quote_suf (s := p.1) (r := p.2) hc
          exact ⟨this.1, this.2.1⟩
    · split at h
      · cases hc : tagsL l with
        | none => rw [hc] at h; cases h
        | some p =>
          rw [hc] at h
          simp only [Option.map_some, Option.some.injEq, Prod.mk.injEq] at h
          rw [← h.2]
          have := list_suf (fun l x r h => (quote_suf h).1) (xs := p.1) (r := p.2) hc
          exact ⟨this.1, this.2.1⟩
      · split at h
        · exact hq h
        · split at h
          · cases hc : countL l with
            | none => rw [hc] at h; cases h
            | some p =>
              rw [hc] at h
              simp only [Option.map_some, Option.some.injEq, Prod.mk.injEq] at h
              rw [← h.2]
              exact count_suf (n := p.1) (r := p.2) hc
          · cases h
/- some of an event's names and what they have, a sign ahead of each -/
def stepL (c : UInt8) (e : Ev) (l : List UInt8) : Option (List UInt8 × Ev × List UInt8) :=
  match signL c l with
  | none => none
  | some r => match quoteL r with
    | none => none
    | some (nm, r1) => match signL 58 r1 with
      | none => none
      | some r2 => (fieldL nm e r2).map fun p => (nm, p.1, p.2)
theorem step_suf {c : UInt8} {e e' : Ev} {l nm r : List UInt8} (h : stepL c e l = some (nm, e', r)) : r <:+ l ∧ r.length < l.length := by
  unfold stepL at h
  split at h
  · cases h
  · rename_i r0 e0
    split at h
    · cases h
    · rename_i nm' r1 e1
      split at h
      · cases h
      · rename_i r2 e2
        cases hf : fieldL nm' e r2 with
        | none => rw [hf] at h; cases h
        | some p =>
          rw [hf] at h
          simp only [Option.map_some, Option.some.injEq, Prod.mk.injEq] at h
          obtain ⟨rfl, _, rfl⟩ := h
          have a0 := sign_suf e0
          have a1 := quote_suf e1
          have a2 := sign_suf e2
          have a3 := field_suf (e' := p.1) (r := p.2) hf
          have := a0.2; have := a1.2.1; have := a2.2; have := a3.2
          exact ⟨((a3.1.trans a2.1).trans a1.1).trans a0.1, by omega⟩
def stepsL : Nat → UInt8 → Ev → List (List UInt8) → List UInt8 → Option (Ev × List (List UInt8) × List UInt8)
  | 0, _, e, had, l => some (e, had, l)
  | n + 1, c, e, had, l => match stepL c e l with
    | none => none
    | some (nm, e', r) => stepsL n 44 e' (had ++ [nm]) r
theorem steps_suf : ∀ (n : Nat) {c : UInt8} {e e' : Ev} {had had' : List (List UInt8)} {l r : List UInt8}, stepsL n c e had l = some (e', had', r) → r <:+ l ∧ r.length + n ≤ l.length ∧ had'.length = had.length + n ∧ had <+: had'
  | 0, c, e, e', had, had', l, r, h => by
    simp only [stepsL, Option.some.injEq, Prod.mk.injEq] at h
    obtain ⟨rfl, rfl, rfl⟩ := h
    exact ⟨List.suffix_rfl, Nat.le_refl _, rfl, List.prefix_rfl⟩
  | n + 1, c, e, e', had, had', l, r, h => by
    simp only [stepsL] at h
    split at h
    · cases h
    · rename_i nm e1 r1 hs
      have a := step_suf hs
      have a2 := a.2
      obtain ⟨b1, b2, b3, b4⟩ := steps_suf n h
      refine ⟨b1.trans a.1, by omega, by simp at b3; omega, (List.prefix_append _ _).trans b4⟩
def evZero : Ev := ⟨0, ⟨#[]⟩, 0, ⟨#[]⟩, []⟩
def eventL (l : List UInt8) : Option (Ev × List UInt8) :=
  match stepsL 5 123 evZero [] l with
  | none => none
  | some (e, had, r) => if had.Nodup then (signL 125 r).map fun r2 => (e, r2) else none
theorem event_suf {l r : List UInt8} {e : Ev} (h : eventL l = some (e, r)) : r <:+ l ∧ r.length < l.length := by
  unfold eventL at h
  split at h
  · cases h
  · rename_i e' had r0 hs
    obtain ⟨b1, b2, _⟩ := steps_suf 5 hs
    split at h
    · cases hc : signL 125 r0 with
      | none => rw [hc] at h; cases h
      | some r2 =>
        rw [hc] at h
        simp only [Option.map_some, Option.some.injEq, Prod.mk.injEq] at h
        obtain ⟨rfl, rfl⟩ := h
        have := sign_suf hc
        have h2 := this.2
        exact ⟨this.1.trans b1, by omega⟩
    · cases h
theorem event_one : ∀ l x r, eventL l = some (x, r) → r.length < l.length := fun _ _ _ h => (event_suf h).2
def allL (l : List UInt8) : Option (List Ev) :=
  match listL eventL event_one l with
  | none => none
  | some (es, r) => if skipL r = [] then some es else none
def impB (s : List UInt8) : List Ev × Int :=
  if 1048576 < s.length then ([], 4) else match allL s with
  | none => ([], 4)
  | some es => if (expB es).2 = 0 then (es, 0) else ([], (expB es).2)
end Chron
namespace Go.Proofs.YtdjllnhahhjgmaaGreat
open Go.RowKit Chron
/- where a reading has come to: what is left, or nothing and a mark -/
def stL : Option (List UInt8) → List UInt8
  | some r => r
  | none => []
def stB (b : Bool) : Option (List UInt8) → Bool
  | some _ => b
  | none => true
theorem ba_nil : ba [] = ⟨#[]⟩ := rfl
theorem ba_toList (l : List UInt8) : (ba l).toList = l := by rw [ByteArray.toList_eq]; simp [ba]
theorem ba_len (l : List UInt8) : (ba l).size = l.length := rfl
theorem trim_skip (l : List UInt8) : Lib.trimLeftS l [32, 10, 13, 9] = skipL l := by
  unfold Lib.trimLeftS skipL
  congr 1
  funext c
  rw [Bool.eq_iff_iff]
  simp [isBlank, or_assoc]
theorem rest_bytes (x : UInt8) (r : List UInt8) : (ba (x :: r)).extract 1 (ba (x :: r)).size = ba r := by
  apply bytes_inj
  have e : ((ba (x :: r)).extract 1 (ba (x :: r)).size).data.toList = (x :: r).drop 1 := by rw [extract_end]; simp [ba]
  rw [e]; simp [ba]
def takeL (c : UInt8) (l : List UInt8) : List UInt8 := match signL c l with | some r => r | none => skipL l
theorem st_take {c : UInt8} {l r : List UInt8} (h : signL c l = some r) : takeL c l = r := by unfold takeL; rw [h]
end Go.Proofs.YtdjllnhahhjgmaaGreat
namespace Go.Proofs.YtdjllnhahhjgmaaGreat
open Go.RowKit Chron
def hexN : Nat → List UInt8 → Option Nat
  | acc, [] => some acc
  | acc, c :: r => match hexD c with
    | none => none
    | some d => hexN (16 * acc + d) r
def hexE (T : TypeId) : Option Nat → Value
  | some n => .tuple #[.int .u64 (n : Int), .nilIface]
  | none => .tuple #[.int .u64 0, .iface T (.int .i64 2)]
set_option maxRecDepth 100000 in
theorem low_all : ∀ n : Fin 256, bits .or .u8 ((n.val : Nat) : Int) 32 = ((n.val ||| 32 : Nat) : Int) := by decide
theorem low_eq (c : UInt8) : bits .or .u8 (c.toNat : Int) 32 = ((c.toNat ||| 32 : Nat) : Int) := low_all ⟨c.toNat, c.toNat_lt⟩
def hexF (n : Nat) : Option Nat := if 48 ≤ n ∧ n ≤ 57 then some (n - 48) else if 97 ≤ n ∧ n ≤ 102 then some (n - 87) else if 65 ≤ n ∧ n ≤ 70 then some (n - 55) else none
theorem hexD_F (c : UInt8) : hexD c = hexF c.toNat := rfl
set_option maxRecDepth 100000 in
theorem low_hex : ∀ n : Fin 256, ¬ (48 ≤ n.val ∧ n.val ≤ 57) → (n.val ||| 32 ≤ 255) ∧ (97 ≤ n.val ||| 32 → n.val ||| 32 ≤ 102 → hexF n.val = some ((n.val ||| 32) - 87) ∧ n.val ≠ 95) ∧ ((¬ 97 ≤ n.val ||| 32) ∨ 102 < n.val ||| 32 → hexF n.val = none) ∧ (97 ≤ n.val ||| 32 → n.val ||| 32 ≤ 122 → n.val ≠ 95) := by decide
theorem low_fact (c : UInt8) (h : ¬ (48 ≤ c.toNat ∧ c.toNat ≤ 57)) : ∃ z : Nat, bits .or .u8 (c.toNat : Int) 32 = (z : Int) ∧ z ≤ 255 ∧ (97 ≤ z → z ≤ 102 → hexD c = some (z - 87) ∧ c.toNat ≠ 95) ∧ ((¬ 97 ≤ z) ∨ 102 < z → hexD c = none) ∧ (97 ≤ z → z ≤ 122 → c.toNat ≠ 95) :=
  ⟨c.toNat ||| 32, low_eq c, (low_hex ⟨c.toNat, c.toNat_lt⟩ h)⟩
end Go.Proofs.YtdjllnhahhjgmaaGreat
namespace Go.Proofs.YtdjllnhahhjgmaaGreat
open Go.RowKit Chron
def oC : Option (UInt8 × List UInt8) → UInt8
  | some (c, _) => c
  | none => 0
def oR : Option (UInt8 × List UInt8) → Option (List UInt8)
  | some (_, r) => some r
  | none => none
def nextL (l : List UInt8) : Option (UInt8 × List UInt8) :=
  match l with
  | [] => none
  | x :: r => some (x, r)
def escL (l : List UInt8) : Option (UInt8 × List UInt8) :=
  match l with
  | [] => none
  | c :: r2 => if c = 34 ∨ c = 92 ∨ c = 47 then some (c, r2) else if c = 117 then plainL (codedL r2) else none
theorem letter_esc (x : UInt8) (r : List UInt8) : letterL (x :: r) = if x = 92 then escL r else plainL (some (x, r)) := by
  unfold letterL escL
  rfl
theorem ret_u8 {a b : Int} (h : a = b) : Ending.returned (.int .u8 a) = .returned (.int .u8 b) := by rw [h]
end Go.Proofs.YtdjllnhahhjgmaaGreat
namespace Go.Proofs.YtdjllnhahhjgmaaGreat
open Go.RowKit Chron
end Go.Proofs.YtdjllnhahhjgmaaGreat
