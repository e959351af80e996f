/- An append that leaves the old list as it was; lists that are written full. -/
import Derived.Test.YtdjllnhahhjgmaaI1
import Derived.ArgAppend
namespace Go.Proofs.Ytdjllnhahhjgmaa
open Go.RowKit Chron
theorem own_set {w : World} {base g n cap i : Nat} {e : TypeId} {xs : List Value} {u : Value} (h : w.ownsRow base e 1 (.slice (some ⟨g, 0, none⟩) n cap) n xs) :
    (w.setCell ⟨g, i, none⟩ u).ownsRow base e 1 (.slice (some ⟨g, 0, none⟩) n cap) n (xs.set i u) := by
  obtain ⟨h1, ⟨h2, _⟩ | ⟨g', cap', cur, hv, a2, a3, a4, a5, a6, a7⟩⟩ := h
  · cases h2
  · cases hv
    refine ⟨by rw [List.length_set]; exact h1, .inr ⟨g, cap, cur.setIfInBounds i u, rfl, a2, ?_, a4, a5, by simpa using a6, ?_⟩⟩
    · rw [setCell_eq_setRow w g i cur e (0, 0) u a3, setRow_heap w g _ _ e (0, 0) a3]
    · rw [Array.toList_setIfInBounds, List.take_set, a7]
theorem set_other {w : World} {g i q : Nat} {u : Value} (h : q ≠ g) : (w.setCell ⟨g, i, none⟩ u).heap[q]? = w.heap[q]? := Below.heap_setCell _ _ _ _ h
/- where an append has put what it answers -/
def Lay (w w' : World) (v : Value) (g H : Nat) : Prop := (v.ownBlock = some g ∧ w.grownBy w' (some g)) ∨ (H ≤ g ∧ w.grownBy w' none)
theorem run_append_kept {P : Program} (w : World) (t ty : TypeId) (base : Nat) (e : TypeId) (i : TypeInfo) (z : Value) (bytes : Nat) (ht : P.underlying t = some (.slice e)) (hi : P.info? e = some i) (hz : i.zero = some z)
    (hsize : i.size = 1) (hby : i.bytes = bytes) (hzs : z.cells.size = 1)
    (v : Value) (n : Nat) (xs : List Value) (hown : w.ownsRow base e 1 v n xs)
    (ad : Addr) (m c : Nat) (news : List Value) (hl : news.length = m) (hnews : ∀ j u, news[j]? = some u → w.cell? (ad.add j) = some u) (h1 : ∀ u ∈ news, u.oneCell' = true)
    (hm : 0 < m) (h63 : n + m ≤ maxLen) (hbytes : (n + m) * bytes ≤ 140737488355328) (hbase : base ≤ w.heap.size) :
    ∃ g cap w', (Builtin.append_ #[t, t] ty #[v, .slice (some ad) m c]).run P w = .ok (.slice (some ⟨g, 0, none⟩) (n + m) cap) w' ∧
      w'.ownsRow base e 1 (.slice (some ⟨g, 0, none⟩) (n + m) cap) (n + m) (xs ++ news) ∧ w'.ownsRow base e 1 v n xs ∧ Lay w w' v g w.heap.size := by
  have hl' : news.length = m * 1 := by omega
  rcases hown.2 with ⟨rfl, rfl⟩ | ⟨g0, cap0, cur, rfl, a2, a3, a4, a5, a6, a7⟩
  · obtain ⟨g, cap, w', hr, h2, h3, h4, h5⟩ := run_append_lies (P := P) w t ty base e i z 1 bytes ht hi hz hsize hby hzs Nat.one_pos (.slice none 0 0) 0 xs hown ad m c news hl' hnews h1 hm h63 hbytes hbase w.heap.size rfl
    refine ⟨g, cap, w', hr, h2, ?_, .inr ⟨?_, h3⟩⟩
    · obtain rfl : xs = [] := List.eq_nil_of_length_eq_zero (by simpa using hown.1)
      exact World.ownsRow_nil _ _ _ _
    · rcases h4 with h4 | h4
      · cases h4
      · omega
  · by_cases hr : n + m ≤ cap0
    · obtain ⟨w', hrun, h2, h3⟩ := run_append_own_spare (P := P) w base t ty e i 1 ht hi hsize g0 n cap0 xs hown ad m c news hl' hnews h1 hr
      refine ⟨g0, cap0, w', hrun, h2, ?_, .inl ⟨rfl, h3⟩⟩
      obtain ⟨b1, ⟨b2, _⟩ | ⟨g', cap', cur', hv, c2, c3, c4, c5, c6, c7⟩⟩ := h2
      · cases b2
      · cases hv
        refine ⟨hown.1, .inr ⟨g0, cap0, cur', rfl, c2, c3, a4, c5, c6, ?_⟩⟩
        have hxl := hown.1
        have : (cur'.toList.take ((n + m) * 1)).take (n * 1) = (xs ++ news).take (n * 1) := by rw [c7]
        rw [List.take_take, Nat.min_eq_left (by omega)] at this
        rw [this, ← hxl, List.take_left]
    · have hxl := hown.1
      obtain ⟨v', w', hrun, h2, h3⟩ := run_append_arg_grows (P := P) w t ty e i z 1 bytes ht hi hz hsize hby hzs Nat.one_pos ⟨g0, 0, none⟩ n cap0 xs hxl (fun j u hu => by
        obtain ⟨a, cap, he, _, _, hc⟩ := row_at hown
        obtain ⟨g, rfl, hcell⟩ := hc j u hu
        cases he
        rw [Addr.add_lit, Nat.zero_add]; exact hcell) ad m c news hl' hnews (by omega) h63 hbytes
      obtain ⟨g, cap, rfl, hg1, hg2⟩ := h2.form (by omega)
      exact ⟨g, cap, w', hrun, own_mono h2 hbase, hown.kept (row := none) h3 (Classical.em _), .inr ⟨hg1, h3⟩⟩
theorem wpList_append_kept {P : Program} (w : World) {ops : Array Oper} {rest : List Oper} {o : Oper} {a : Act} {Q : Exit → Act → World → Prop} (hgd : o.guard = none) (s x : Operand) (t : TypeId)
    (ho : o.op = .call { callee := .builtin .append, args := #[s, x], argTypes := #[t, t] })
    (base : Nat) (e : TypeId) (i : TypeInfo) (z : Value) (bytes : Nat) (ht : P.underlying t = some (.slice e)) (hi : P.info? e = some i) (hz : i.zero = some z)
    (hsize : i.size = 1) (hby : i.bytes = bytes) (hzs : z.cells.size = 1)
    (v : Value) (n : Nat) (xs : List Value) (hs : a.eval s = v) (hown : w.ownsRow base e 1 v n xs)
    (ad : Addr) (m c : Nat) (news : List Value) (hx : a.eval x = .slice (some ad) m c) (hl : news.length = m) (hnews : ∀ j u, news[j]? = some u → w.cell? (ad.add j) = some u) (h1 : ∀ u ∈ news, u.oneCell' = true)
    (hm : 0 < m) (h63 : n + m ≤ maxLen) (hbytes : (n + m) * bytes ≤ 140737488355328) (hbase : base ≤ w.heap.size)
    (h : ∀ g cap w', w'.ownsRow base e 1 (.slice (some ⟨g, 0, none⟩) (n + m) cap) (n + m) (xs ++ news) → w'.ownsRow base e 1 v n xs → Lay w w' v g w.heap.size → wpList P ops Q rest (a.put o.dst (.slice (some ⟨g, 0, none⟩) (n + m) cap)) w') : wpList P ops Q (o :: rest) a w := by
  refine wpList_plain hgd fun K hK => ?_
  obtain ⟨g, cap, w', hr, h2, h3, h4⟩ := run_append_kept (P := P) w t o.type base e i z bytes ht hi hz hsize hby hzs v n xs hown ad m c news hl hnews h1 hm h63 hbytes hbase
  unfold Oper.wp execOp
  simp only [ho, resolve, invoke, builtin, Sem.run_bind, Sem.run_pure, Result.andThen_ok, List.map_toArray, List.map_cons, List.map_nil, hs, hx, hr]
  exact hK _ _ (h g cap w' h2 h3 h4)
/- a list that was written full, and lists that were made of it -/
structure Out (w : World) (B : Nat) (most : Nat) (m : ByteArray) (v : Value) (g : Nat) (no : Nat) (cap : Nat) : Prop where
  val : v = .slice (some ⟨g, 0, none⟩) no cap
  few : no ≤ most
  room : no ≤ cap
  base : B ≤ g
  lt : g < w.heap.size
  cells : ∀ j, j < no → w.cell? ⟨g, j, none⟩ = some (.string m)
structure Marks (w : World) (B : Nat) (l : Value) (n : Nat) (m : ByteArray) (outs : List Value) (k : Nat) : Prop where
  own : w.ownsRow B 9 1 l n (List.replicate n (.string m))
  outs : ∀ o ∈ outs, ∃ g no cap, Out w B (n + k) m o g no cap
theorem own_cells {w : World} {B g n cap : Nat} {e : TypeId} {u : Value} (h : w.ownsRow B e 1 (.slice (some ⟨g, 0, none⟩) n cap) n (List.replicate n u)) : n ≤ cap ∧ ∀ j, j < n → w.cell? ⟨g, j, none⟩ = some u := by
  obtain ⟨a, c, he, hc, _, hx⟩ := row_at h
  cases he
  refine ⟨hc, fun j hj => ?_⟩
  obtain ⟨g', he, hcell⟩ := hx j u (by simp [hj])
  cases he; exact hcell
theorem Marks.push {w wa : World} {B g cap n k j : Nat} {l : Value} {m : ByteArray} {outs : List Value} {o : Obj} (h : Marks w B l n m outs k) (hj : k ≤ j)
    (hnew : wa.ownsRow B 9 1 (.slice (some ⟨g, 0, none⟩) (n + j) cap) (n + j) (List.replicate n (.string m) ++ List.replicate j (.string m))) (hold : wa.ownsRow B 9 1 l n (List.replicate n (.string m)))
    (hlay : Lay (w.alloc o) wa l g (w.alloc o).heap.size) : Marks wa B l n m (outs ++ [.slice (some ⟨g, 0, none⟩) (n + j) cap]) j := by
  rw [List.replicate_append_replicate] at hnew
  obtain ⟨hcap, hcells⟩ := own_cells hnew
  have hg := hnew.lt g rfl
  refine ⟨hold, fun x hx => ?_⟩
  rcases List.mem_append.1 hx with hx | hx
  · obtain ⟨g1, no, c1, ho⟩ := h.outs x hx
    have hlt := ho.lt
    have hfew := ho.few
    have same : wa.heap[g1]? = (w.alloc o).heap[g1]? → ∀ q, q < no → wa.cell? ⟨g1, q, none⟩ = some (.string m) := fun he q hq => by
      rw [World.cell?_of_block (a := ⟨g1, q, none⟩) (he.trans (Below.heap_alloc _ _ _ hlt))]; exact ho.cells q hq
    have hsz : w.heap.size ≤ wa.heap.size := by
      have h1 : (w.alloc o).heap.size = w.heap.size + 1 := World.size_alloc _ _
      rcases hlay with ⟨_, hgr⟩ | ⟨_, hgr⟩ <;> (have := hgr.size; omega)
    refine ⟨g1, no, c1, ho.val, by omega, ho.room, ho.base, by omega, ?_⟩
    rcases hlay with ⟨_, hgr⟩ | ⟨_, hgr⟩
    · by_cases he : g1 = g
      · subst he; exact fun q hq => hcells q (by omega)
      · exact same (hgr.block g1 (by rw [World.size_alloc]; omega) (fun e => he (Option.some.inj e)))
    · exact same (hgr.block g1 (by rw [World.size_alloc]; omega) (fun e => by cases e))
  · simp only [List.mem_singleton] at hx
    subst hx
    exact ⟨g, n + j, cap, rfl, Nat.le_refl _, hcap, hg.1, hg.2, hcells⟩
end Go.Proofs.Ytdjllnhahhjgmaa
