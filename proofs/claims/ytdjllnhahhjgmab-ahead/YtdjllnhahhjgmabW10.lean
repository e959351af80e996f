/- Walks and plain facts, in the order in which they lean on one another. -/
import Derived.Test.YtdjllnhahhjgmabW05
import Derived.Deep.DeepAppendRoom
import Derived.ArgAppend
import Derived.Test.YtdjllnhahhjgmabW07
import Derived.Test.YtdjllnhahhjgmabW06
import Derived.Test.YtdjllnhahhjgmabW04
import Derived.Deep.QuietTactic
import Derived.BigQuiet
import Derived.Test.YtdjllnhahhjgmabW09
import Derived.Deep.RegionHeld3
namespace Go.Proofs.Ytdjllnhahhjgmab
open Go.RowKit Chron
def badF : Nat → Nat → List UInt8
  | 0, _ => []
  | f + 1, n => if n = 0 then [] else UInt8.ofNat (65 + n % 26) :: badF f (n / 26)
def badB (n : Nat) : ByteArray := ⟨(badT.data.toList ++ badF 14 n).toArray⟩
theorem badF_len (f n : Nat) : (badF f n).length ≤ f := by
  induction f generalizing n with
  | zero => simp [badF]
  | succ f ih => unfold badF; split
                 · simp
                 · have := ih (n / 26); simp; omega
theorem badF_more {f n : Nat} (h : 0 < n) : badF (f + 1) n = UInt8.ofNat (65 + n % 26) :: badF f (n / 26) := by rw [badF, if_neg (by omega)]
theorem badF_zero (f : Nat) : badF f 0 = [] := by cases f <;> simp [badF]
theorem append_one (s : ByteArray) (c : UInt8) : (s ++ ⟨#[c]⟩ : ByteArray).data.toList = s.data.toList ++ [c] := by obtain ⟨⟨s⟩⟩ := s; simp
theorem of_65 (k : Nat) : UInt8.ofNat (65 + k % 26) = 65 + UInt8.ofNat (k % 26) := by apply UInt8.toNat_inj.1; simp
theorem wrap_26 {k n : Nat} (h : n < 26 ^ 13) (hk : k ≤ n) : wrap64 ((k : Int) / 26) = ((k / 26 : Nat) : Int) := by
  have h2 : n < 9223372036854775807 := Nat.lt_of_lt_of_le h (by decide +kernel)
  rw [Chron.wrap_small (by omega) (by omega)]; omega
theorem div_26 {k n g : Nat} (h : k < 26 ^ (g + 1) ∧ k ≤ n) : k / 26 < 26 ^ g ∧ k / 26 ≤ n := by
  obtain ⟨h1, h2⟩ := h
  rw [Nat.pow_succ] at h1
  exact ⟨Nat.div_lt_of_lt_mul (by omega), by omega⟩
theorem pos_26 {k n f : Nat} (h : k < 26 ^ f ∧ k ≤ n) (hk : 0 < k) : ∃ g, f = g + 1 := by
  rcases f with _ | g
  · have := h.1; simp at this; omega
  · exact ⟨g, rfl⟩
theorem mod_26 (k : Nat) : 0 ≤ 65 + (k : Int) % 26 ∧ 65 + (k : Int) % 26 < 256 := by omega
theorem badB_start (n : Nat) : badT.data.toList ++ badF (13 + 1) n = (badB n).data.toList := by rw [badB]
theorem badT_size : badT.size + 13 ≤ 27 := by decide
theorem small_13 {n : Nat} (h : n < 26 ^ 13) : n < 9223372036854775807 := Nat.lt_of_lt_of_le h (by decide +kernel)
theorem wrap_28 {k : Int} {n : Nat} (h : n < 26 ^ 13) (h0 : 0 ≤ k) (hk : k.toNat ≤ n) : ∃ D : Int, wrap64 (k.tdiv 26) = D ∧ 0 ≤ D ∧ Hid (D.toNat = k.toNat / 26) := by
  have h2 := small_13 h
  exact ⟨k / 26, by rw [Int.tdiv_eq_ediv_of_nonneg h0]; exact Chron.wrap_small (by omega) (by omega), by omega, by show (k / 26).toNat = _; omega⟩
end Go.Proofs.Ytdjllnhahhjgmab
namespace Go.Proofs.Ytdjllnhahhjgmab
open Go.RowKit Chron
theorem own_set {w : World} {base g n cap i : Nat} {e : TypeId} {xs : List Value} {u : Value} (h : w.ownsRow base e 1 (.slice (some ⟨g, 0, none⟩) n cap) n xs) :
    (w.setCell ⟨g, i, none⟩ u).ownsRow base e 1 (.slice (some ⟨g, 0, none⟩) n cap) n (xs.set i u) := by
  obtain ⟨h1, ⟨h2, _⟩ | ⟨g', cap', cur, hv, a2, a3, a4, a5, a6, a7⟩⟩ := h
  · cases h2
  · cases hv
    refine ⟨by rw [List.length_set]; exact h1, .inr ⟨g, cap, cur.setIfInBounds i u, rfl, a2, ?_, a4, a5, by simpa using a6, ?_⟩⟩
    · rw [setCell_eq_setRow w g i cur e (0, 0) u a3, setRow_heap w g _ _ e (0, 0) a3]
    · rw [Array.toList_setIfInBounds, List.take_set, a7]
theorem set_other {w : World} {g i q : Nat} {u : Value} (h : q ≠ g) : (w.setCell ⟨g, i, none⟩ u).heap[q]? = w.heap[q]? := Below.heap_setCell _ _ _ _ h
/- where an append has put what it answers -/
def Lay (w w' : World) (v : Value) (g H : Nat) : Prop := (v.ownBlock = some g ∧ w.grownBy w' (some g)) ∨ (H ≤ g ∧ w.grownBy w' none)
theorem run_append_kept {P : Program} (w : World) (t ty : TypeId) (base : Nat) (e : TypeId) (i : TypeInfo) (z : Value) (bytes : Nat) (ht : P.underlying t = some (.slice e)) (hi : P.info? e = some i) (hz : i.zero = some z)
    (hsize : i.size = 1) (hby : i.bytes = bytes) (hzs : z.cells.size = 1)
    (v : Value) (n : Nat) (xs : List Value) (hown : w.ownsRow base e 1 v n xs)
    (ad : Addr) (m c : Nat) (news : List Value) (hl : news.length = m) (hnews : ∀ j u, news[j]? = some u → w.cell? (ad.add j) = some u) (h1 : ∀ u ∈ news, u.oneCell' = true)
    (hm : 0 < m) (h63 : n + m ≤ maxLen) (hbytes : (n + m) * bytes ≤ 140737488355328) (hbase : base ≤ w.heap.size) :
    ∃ g cap w', (Builtin.append_ #[t, t] ty #[v, .slice (some ad) m c]).run P w = .ok (.slice (some ⟨g, 0, none⟩) (n + m) cap) w' ∧
      w'.ownsRow base e 1 (.slice (some ⟨g, 0, none⟩) (n + m) cap) (n + m) (xs ++ news) ∧ w'.ownsRow base e 1 v n xs ∧ Lay w w' v g w.heap.size := by
  have hl' : news.length = m * 1 := by omega
  rcases hown.2 with ⟨rfl, rfl⟩ | ⟨g0, cap0, cur, rfl, a2, a3, a4, a5, a6, a7⟩
  · obtain ⟨g, cap, w', hr, h2, h3, h4, h5⟩ := run_append_lies (P := P) w t ty base e i z 1 bytes ht hi hz hsize hby hzs Nat.one_pos (.slice none 0 0) 0 xs hown ad m c news hl' hnews h1 hm h63 hbytes hbase w.heap.size rfl
    refine ⟨g, cap, w', hr, h2, ?_, .inr ⟨?_, h3⟩⟩
    · obtain rfl : xs = [] := List.eq_nil_of_length_eq_zero (by simpa using hown.1)
      exact World.ownsRow_nil _ _ _ _
    · rcases h4 with h4 | h4
      · cases h4
      · omega
  · by_cases hr : n + m ≤ cap0
    · obtain ⟨w', hrun, h2, h3⟩ := run_append_own_spare (P := P) w base t ty e i 1 ht hi hsize g0 n cap0 xs hown ad m c news hl' hnews h1 hr
      refine ⟨g0, cap0, w', hrun, h2, ?_, .inl ⟨rfl, h3⟩⟩
      obtain ⟨b1, ⟨b2, _⟩ | ⟨g', cap', cur', hv, c2, c3, c4, c5, c6, c7⟩⟩ := h2
      · cases b2
      · cases hv
        refine ⟨hown.1, .inr ⟨g0, cap0, cur', rfl, c2, c3, a4, c5, c6, ?_⟩⟩
        have hxl := hown.1
        have : (cur'.toList.take ((n + m) * 1)).take (n * 1) = (xs ++ news).take (n * 1) := by rw [c7]
        rw [List.take_take, Nat.min_eq_left (by omega)] at this
        rw [this, ← hxl, List.take_left]
    · have hxl := hown.1
      obtain ⟨v', w', hrun, h2, h3⟩ := run_append_arg_grows (P := P) w t ty e i z 1 bytes ht hi hz hsize hby hzs Nat.one_pos ⟨g0, 0, none⟩ n cap0 xs hxl (fun j u hu => by
        obtain ⟨a, cap, he, _, _, hc⟩ := row_at hown
        obtain ⟨g, rfl, hcell⟩ := hc j u hu
        cases he
        rw [Addr.add_lit, Nat.zero_add]; exact hcell) ad m c news hl' hnews (by omega) h63 hbytes
      obtain ⟨g, cap, rfl, hg1, hg2⟩ := h2.form (by omega)
      exact ⟨g, cap, w', hrun, own_mono h2 hbase, hown.kept (row := none) h3 (Classical.em _), .inr ⟨hg1, h3⟩⟩
theorem wpList_append_kept {P : Program} (w : World) {ops : Array Oper} {rest : List Oper} {o : Oper} {a : Act} {Q : Exit → Act → World → Prop} (hgd : o.guard = none) (s x : Operand) (t : TypeId)
    (ho : o.op = .call { callee := .builtin .append, args := #[s, x], argTypes := #[t, t] })
    (base : Nat) (e : TypeId) (i : TypeInfo) (z : Value) (bytes : Nat) (ht : P.underlying t = some (.slice e)) (hi : P.info? e = some i) (hz : i.zero = some z)
    (hsize : i.size = 1) (hby : i.bytes = bytes) (hzs : z.cells.size = 1)
    (v : Value) (n : Nat) (xs : List Value) (hs : a.eval s = v) (hown : w.ownsRow base e 1 v n xs)
    (ad : Addr) (m c : Nat) (news : List Value) (hx : a.eval x = .slice (some ad) m c) (hl : news.length = m) (hnews : ∀ j u, news[j]? = some u → w.cell? (ad.add j) = some u) (h1 : ∀ u ∈ news, u.oneCell' = true)
    (hm : 0 < m) (h63 : n + m ≤ maxLen) (hbytes : (n + m) * bytes ≤ 140737488355328) (hbase : base ≤ w.heap.size)
    (h : ∀ g cap w', w'.ownsRow base e 1 (.slice (some ⟨g, 0, none⟩) (n + m) cap) (n + m) (xs ++ news) → w'.ownsRow base e 1 v n xs → Lay w w' v g w.heap.size → wpList P ops Q rest (a.put o.dst (.slice (some ⟨g, 0, none⟩) (n + m) cap)) w') : wpList P ops Q (o :: rest) a w := by
  refine wpList_plain hgd fun K hK => ?_
  obtain ⟨g, cap, w', hr, h2, h3, h4⟩ := run_append_kept (P := P) w t o.type base e i z bytes ht hi hz hsize hby hzs v n xs hown ad m c news hl hnews h1 hm h63 hbytes hbase
  unfold Oper.wp execOp
  simp only [ho, resolve, invoke, builtin, Sem.run_bind, Sem.run_pure, Result.andThen_ok, List.map_toArray, List.map_cons, List.map_nil, hs, hx, hr]
  exact hK _ _ (h g cap w' h2 h3 h4)
/- a list that was written full, and lists that were made of it -/
structure Out (w : World) (B : Nat) (most : Nat) (m : ByteArray) (v : Value) (g : Nat) (no : Nat) (cap : Nat) : Prop where
  val : v = .slice (some ⟨g, 0, none⟩) no cap
  few : no ≤ most
  room : no ≤ cap
  base : B ≤ g
  lt : g < w.heap.size
  cells : ∀ j, j < no → w.cell? ⟨g, j, none⟩ = some (.string m)
structure Marks (w : World) (B : Nat) (l : Value) (n : Nat) (m : ByteArray) (outs : List Value) (k : Nat) : Prop where
  own : w.ownsRow B 9 1 l n (List.replicate n (.string m))
  outs : ∀ o ∈ outs, ∃ g no cap, Out w B (n + k) m o g no cap
theorem own_cells {w : World} {B g n cap : Nat} {e : TypeId} {u : Value} (h : w.ownsRow B e 1 (.slice (some ⟨g, 0, none⟩) n cap) n (List.replicate n u)) : n ≤ cap ∧ ∀ j, j < n → w.cell? ⟨g, j, none⟩ = some u := by
  obtain ⟨a, c, he, hc, _, hx⟩ := row_at h
  cases he
  refine ⟨hc, fun j hj => ?_⟩
  obtain ⟨g', he, hcell⟩ := hx j u (by simp [hj])
  cases he; exact hcell
theorem Marks.push {w wa : World} {B g cap n k j : Nat} {l : Value} {m : ByteArray} {outs : List Value} {o : Obj} (h : Marks w B l n m outs k) (hj : k ≤ j)
    (hnew : wa.ownsRow B 9 1 (.slice (some ⟨g, 0, none⟩) (n + j) cap) (n + j) (List.replicate n (.string m) ++ List.replicate j (.string m))) (hold : wa.ownsRow B 9 1 l n (List.replicate n (.string m)))
    (hlay : Lay (w.alloc o) wa l g (w.alloc o).heap.size) : Marks wa B l n m (outs ++ [.slice (some ⟨g, 0, none⟩) (n + j) cap]) j := by
  rw [List.replicate_append_replicate] at hnew
  obtain ⟨hcap, hcells⟩ := own_cells hnew
  have hg := hnew.lt g rfl
  refine ⟨hold, fun x hx => ?_⟩
  rcases List.mem_append.1 hx with hx | hx
  · obtain ⟨g1, no, c1, ho⟩ := h.outs x hx
    have hlt := ho.lt
    have hfew := ho.few
    have same : wa.heap[g1]? = (w.alloc o).heap[g1]? → ∀ q, q < no → wa.cell? ⟨g1, q, none⟩ = some (.string m) := fun he q hq => by
      rw [World.cell?_of_block (a := ⟨g1, q, none⟩) (he.trans (Below.heap_alloc _ _ _ hlt))]; exact ho.cells q hq
    have hsz : w.heap.size ≤ wa.heap.size := by
      have h1 : (w.alloc o).heap.size = w.heap.size + 1 := World.size_alloc _ _
      rcases hlay with ⟨_, hgr⟩ | ⟨_, hgr⟩ <;> (have := hgr.size; omega)
    refine ⟨g1, no, c1, ho.val, by omega, ho.room, ho.base, by omega, ?_⟩
    rcases hlay with ⟨_, hgr⟩ | ⟨_, hgr⟩
    · by_cases he : g1 = g
      · subst he; exact fun q hq => hcells q (by omega)
      · exact same (hgr.block g1 (by rw [World.size_alloc]; omega) (fun e => he (Option.some.inj e)))
    · exact same (hgr.block g1 (by rw [World.size_alloc]; omega) (fun e => by cases e))
  · simp only [List.mem_singleton] at hx
    subst hx
    exact ⟨g, n + j, cap, rfl, Nat.le_refl _, hcap, hg.1, hg.2, hcells⟩
end Go.Proofs.Ytdjllnhahhjgmab
namespace Go.Proofs.Ytdjllnhahhjgmab
open Go.RowKit Chron
/- an entry of the book -/
def Entry (w : World) (b : Nat) (tv : Value) (B : Nat) (m : ByteArray) (v : Value) : Prop :=
  v = .slice none 0 0 ∨ ∃ g no cap, Out w (b + 1) 7 m v g no cap ∧ tv.ownBlock ≠ some g ∧ g < B
theorem Out.keep {w w' : World} {B C most : Nat} {m : ByteArray} {v : Value} {g no cap : Nat} (h : Out w B most m v g no cap) (hb : Below C w w') (hg : g < C) : Out w' B most m v g no cap := by
  obtain ⟨h1, h2, h3, h4, h5, h6⟩ := h
  exact ⟨h1, h2, h3, h4, Nat.lt_of_lt_of_le h5 hb.size, fun j hj => (hb.cell (p := ⟨g, j, none⟩) hg).trans (h6 j hj)⟩
theorem own_low {w w' : World} {base C : Nat} {e : TypeId} {v : Value} {n : Nat} {xs : List Value} (h : w.ownsRow base e 1 v n xs) (hb : Below C w w') (hv : ∀ q, v.ownBlock = some q → q < C) : w'.ownsRow base e 1 v n xs := by
  obtain ⟨h1, h2 | ⟨g, cap, cur, rfl, a2, a3, a4, a5, a6, a7⟩⟩ := h
  · exact ⟨h1, .inl h2⟩
  · exact ⟨h1, .inr ⟨g, cap, cur, rfl, a2, (hb.block g (hv g rfl)).trans a3, a4, a5, a6, a7⟩⟩
theorem book_set {w : World} {b i : Nat} {x0 x1 u : Value} {t : TypeId} (h : w.heap[b]? = some (.cells #[x0, x1] t)) : (w.setCell ⟨b, i, none⟩ u).heap[b]? = some (.cells (#[x0, x1].setIfInBounds i u) t) := by
  rw [setCell_eq_setRow w b i _ t (0, 0) u h, setRow_heap w b _ _ t (0, 0) h]
end Go.Proofs.Ytdjllnhahhjgmab
namespace Go.Proofs.Ytdjllnhahhjgmab
open Go.RowKit Chron
structure Law3 (N X M : Nat) (w wx : World) (e o x : Array Value) (L : List Value) : Prop where
  be : wx.heap[N]? = some (.cells e 36)
  bo : wx.heap[N + 1]? = some (.cells o 36)
  bx : wx.heap[X]? = some (.cells x 36)
  row : wx.heap[M]? = some (.cells L.toArray 9 (0, 0))
  bel : Below N w wx
  o1 : N + 1 < M
  o2 : M < X
  o3 : X < wx.heap.size
theorem Law3.below {N X M : Nat} {w wx wy : World} {e o x : Array Value} {L : List Value} (h : Law3 N X M w wx e o x L) (hb : Below wx.heap.size wx wy) : Law3 N X M w wy e o x L := by
  have h1 := h.o1
  have h2 := h.o2
  have h3 := h.o3
  exact ⟨(hb.block _ (by omega)).trans h.be, (hb.block _ (by omega)).trans h.bo, (hb.block _ (by omega)).trans h.bx, (hb.block _ (by omega)).trans h.row, h.bel.trans (hb.mono (by omega)), h1, h2, Nat.lt_of_lt_of_le h3 hb.size⟩
/- within the loop: y too, its tags a row of its own -/
structure Law5 (N X M Y : Nat) (w wx : World) (e o x : Array Value) (k : Int) (t : ByteArray) (m : Int) (b : ByteArray) (yv : Value) (L : List Value) (zs : List ByteArray) : Prop where
  l3 : Law3 N X M w wx e o x L
  bY : wx.heap[Y]? = some (.cells #[.int .i64 k, .string t, .int .i64 m, .string b, yv] 36)
  own : wx.ownsRow (Y + 1) 9 1 yv zs.length (zs.map Value.string)
  oY : X < Y
theorem Law5.lt {N X M Y : Nat} {w wx : World} {e o x : Array Value} {k : Int} {t : ByteArray} {m : Int} {b : ByteArray} {yv : Value} {L : List Value} {zs : List ByteArray} (h : Law5 N X M Y w wx e o x k t m b yv L zs) : Y < wx.heap.size := (Array.getElem?_eq_some_iff.1 h.bY).1
theorem Law5.store {N X M Y : Nat} {w wx : World} {e o x : Array Value} {k : Int} {t : ByteArray} {m : Int} {b : ByteArray} {yv : Value} {L : List Value} {zs : List ByteArray} (h : Law5 N X M Y w wx e o x k t m b yv L zs) (i : Nat) (u : Value) : Law5 N X M Y w (wx.setCell ⟨M, i, none⟩ u) e o x k t m b yv (L.set i u) zs := by
  obtain ⟨⟨h1, h2, h3, h4, h5, h6, h7, h8⟩, h9, h10, h11⟩ := h
  have hb : ∀ q, q ≠ M → (wx.setCell ⟨M, i, none⟩ u).heap[q]? = wx.heap[q]? := fun q hq => Below.heap_setCell _ _ _ _ hq
  exact ⟨⟨(hb _ (by omega)).trans h1, (hb _ (by omega)).trans h2, (hb _ (by omega)).trans h3, set_row h4, h5.setCell (by show N ≤ M; omega) _, h6, h7, by rw [size_set]; exact h8⟩, (hb _ (by omega)).trans h9, ownsRow_setCell_below h10 (by show M < Y + 1; omega) _, h11⟩
theorem Law5.drew {N X M Y : Nat} {w wx : World} {e o x : Array Value} {k : Int} {t : ByteArray} {m : Int} {b : ByteArray} {yv : Value} {L : List Value} {zs : List ByteArray} (h : Law5 N X M Y w wx e o x k t m b yv L zs) : Law5 N X M Y w wx.drew e o x k t m b yv L zs :=
  ⟨⟨h.l3.be, h.l3.bo, h.l3.bx, h.l3.row, h.l3.bel.drew, h.l3.o1, h.l3.o2, h.l3.o3⟩, h.bY, World.ownsRow.drew h.own, h.oY⟩
theorem Law5.push {N X M Y : Nat} {w wx wa : World} {e o x : Array Value} {k : Int} {t : ByteArray} {m : Int} {b : ByteArray} {yv : Value} {L : List Value} {zs : List ByteArray} {o' : Obj} {g cap n : Nat} {z : ByteArray} (h : Law5 N X M Y w wx e o x k t m b yv L zs) (hn : zs.length = n)
    (hg : (wx.alloc o').grownBy wa yv.ownBlock) (hown : wa.ownsRow (Y + 1) 9 1 (.slice (some ⟨g, 0, none⟩) (n + 1) cap) (n + 1) (zs.map Value.string ++ [.string z])) :
    wa.heap[Y]? = some (.cells #[.int .i64 k, .string t, .int .i64 m, .string b, yv] 36) ∧ Law5 N X M Y w (wa.setCell ⟨Y, 4, none⟩ (.slice (some ⟨g, 0, none⟩) (n + 1) cap)) e o x k t m b (.slice (some ⟨g, 0, none⟩) (n + 1) cap) L (zs ++ [z]) := by
  subst hn
  have hY := h.lt
  have hs := hg.size
  rw [World.size_alloc] at hs
  obtain ⟨⟨h1, h2, h3, h4, h5, h6, h7, h8⟩, h9, h10, h11⟩ := h
  have hblk : ∀ q, q ≤ Y → wa.heap[q]? = wx.heap[q]? := fun q hq => by
    rw [hg.block q (by rw [World.size_alloc]; omega) (fun e => by have := (h10.lt q e.symm).1; omega), Below.heap_alloc _ _ _ (by omega)]
  have hb : ∀ q, q < Y → (wa.setCell ⟨Y, 4, none⟩ (.slice (some ⟨g, 0, none⟩) (zs.length + 1) cap)).heap[q]? = wx.heap[q]? := fun q hq => (Below.heap_setCell _ _ _ _ (by show q ≠ Y; omega)).trans (hblk q (by omega))
  have hbY := (hblk Y (Nat.le_refl _)).trans h9
  refine ⟨hbY, ⟨(hb _ (by omega)).trans h1, (hb _ (by omega)).trans h2, (hb _ (by omega)).trans h3, (hb _ (by omega)).trans h4, ?_, h6, h7, by rw [size_set]; omega⟩, loan_set hbY, ?_, h11⟩
  · exact (Below.grown (h5.alloc (by omega) _) hg (by rw [World.size_alloc]; omega) (fun q hq => by have := (h10.lt q hq).1; omega)).setCell (by show N ≤ Y; omega) _
  · have := ownsRow_setCell_below hown (a := ⟨Y, 4, none⟩) (Nat.lt_succ_self _) (.slice (some ⟨g, 0, none⟩) (zs.length + 1) cap)
    simpa using this
theorem take_push {zs : List ByteArray} {i : Nat} {z : ByteArray} (hz : zs[i]? = some z) : zs.take i ++ [z] = zs.take (i + 1) := by
  have hi := (List.getElem?_eq_some_iff.1 hz).1
  rw [List.take_succ_eq_append_getElem hi]
  rw [List.getElem?_eq_getElem hi] at hz
  rw [Option.some.inj hz]
theorem first_call (W : World) (N : Nat) (hN : W.heap.size = N) : Calls Try.prog 40 #[.int .i64 3, .agg #[.int .i64 2, .string ⟨#[116]⟩, .int .i64 300, .string ⟨#[104, 105]⟩, .slice (some ⟨N, 0, none⟩) 1 1]] (W.alloc (.cells #[.string ⟨#[97]⟩] 9)) fun e w' =>
    e = .returned (.tuple #[.string firstB, .int .i64 0]) ∧ Below (W.alloc (.cells #[.string ⟨#[97]⟩] 9)).heap.size (W.alloc (.cells #[.string ⟨#[97]⟩] 9)) w' := by
  subst hN
  have hE := encode_any 3 2 ⟨#[116]⟩ 300 ⟨#[104, 105]⟩ (some ⟨W.heap.size, 0, none⟩) 1 [⟨#[97]⟩] (W.alloc (.cells #[.string ⟨#[97]⟩] 9)) one_tag
    (fun i hi => by
      have : i = 0 := by simpa using hi
      subst this; decide) (by decide) (by decide) (by decide)
  rw [first_enc] at hE
  exact hE
end Go.Proofs.Ytdjllnhahhjgmab
namespace Go.Proofs.Ytdjllnhahhjgmab
open Go.RowKit Chron
theorem book_cells {w : World} {b : Nat} {x0 x1 : Value} {t : TypeId} (h : w.heap[b]? = some (.cells #[x0, x1] t)) : w.cell? ⟨b, 0, none⟩ = some x0 ∧ w.cell? ⟨b, 1, none⟩ = some x1 ∧ ∀ o, w.frozen? ⟨b, o, none⟩ = false := by
  refine ⟨by simp [World.cell?, h], by simp [World.cell?, h], fun o => by simp [World.frozen?, h]⟩
def mixed (ts : List ByteArray) (m : ByteArray) (i : Nat) : List Value := List.replicate i (.string m) ++ (ts.drop i).map Value.string
theorem mixed_zero (ts : List ByteArray) (m : ByteArray) : mixed ts m 0 = ts.map Value.string := by simp [mixed]
theorem mixed_set (ts : List ByteArray) (m : ByteArray) (i : Nat) (h : i < ts.length) : (mixed ts m i).set i (.string m) = mixed ts m (i + 1) := by
  rw [mixed, mixed, List.set_append_right _ _ (by simp), List.drop_eq_getElem_cons h, List.replicate_succ', List.length_replicate, Nat.sub_self, List.map_cons, List.set_cons_zero, List.append_assoc]
  rfl
theorem mixed_end (ts : List ByteArray) (m : ByteArray) (i : Nat) (h : i = ts.length) : mixed ts m i = List.replicate ts.length (.string m) := by
  subst h; simp [mixed]
theorem lay_below {w wa : World} {l : Value} {g B : Nat} {o : Obj} (h : Lay (w.alloc o) wa l g (w.alloc o).heap.size) (hl : ∀ q, l.ownBlock = some q → B ≤ q) (hB : B ≤ w.heap.size) : Below B w wa := by
  have hsa : (w.alloc o).heap.size = w.heap.size + 1 := World.size_alloc _ _
  have hs : (w.alloc o).heap.size ≤ wa.heap.size := by rcases h with ⟨_, hgr⟩ | ⟨_, hgr⟩ <;> exact hgr.size
  have hos : wa.os = w.os ∧ wa.tape = w.tape ∧ wa.output = w.output := by rcases h with ⟨_, hgr⟩ | ⟨_, hgr⟩ <;> exact ⟨hgr.os, hgr.tape, hgr.output⟩
  refine ⟨hos.1, hos.2.1, hos.2.2, by omega, fun q hq => ?_⟩
  rcases h with ⟨h1, hgr⟩ | ⟨h1, hgr⟩
  · have := hl g h1
    exact (hgr.block q (by omega) (fun e => by have := Option.some.inj e; omega)).trans (Below.heap_alloc _ _ _ (by omega))
  · exact (hgr.block q (by omega) (fun e => by cases e)).trans (Below.heap_alloc _ _ _ (by omega))
theorem news_of {w : World} {cs : List Value} {t : TypeId} : ∀ j u, cs[j]? = some u → (w.alloc (.cells cs.toArray t)).cell? ((⟨w.heap.size, 0, none⟩ : Addr).add j) = some u := fun j u hu =>
  World.news_of_block (cs := cs.toArray) (heap_alloc_new w _) j u hu
theorem le_alloc2 {w : World} {b : Nat} {o : Obj} (h : b ≤ w.heap.size) : b ≤ (w.alloc o).heap.size := by rw [World.size_alloc]; omega
theorem slices_one {a b c d : Option Addr} {n1 n2 n3 n4 c1 c2 c3 c4 : Nat} : ∀ u ∈ [Value.slice a n1 c1, .slice b n2 c2, .slice c n3 c3, .slice d n4 c4], u.oneCell' = true := by
  intro u hu
  simp only [List.mem_cons, List.not_mem_nil, or_false] at hu
  rcases hu with rfl | rfl | rfl | rfl <;> rfl
theorem all_one (n : Nat) (m : ByteArray) : ∀ u ∈ List.replicate n (Value.string m), u.oneCell' = true := by
  intro u hu; rw [List.eq_of_mem_replicate hu]; rfl
end Go.Proofs.Ytdjllnhahhjgmab
namespace Go.Proofs.Ytdjllnhahhjgmab
open Go.RowKit Chron
theorem MadeO.lts {N : Nat} {w : World} {lv : Value} {its : List Item} (h : MadeO N w lv its) : (∀ q, lv.ownBlock = some q → q < w.heap.size) ∧ ∀ q ∈ tagBs its, q < w.heap.size := ⟨fun q hq => (h.row.lt q hq).2, fun _ hq => (h.tag_lt hq).2⟩
theorem len_event (l : List UInt8) : (stL (oneR (eventL l))).length ≤ l.length := by
  cases hq : eventL l with
  | none => simp [oneR, stL]
  | some p => have := (event_suf (e := p.1) (r := p.2) hq).2; simp only [oneR, Option.map_some, stL]; omega
theorem take_len {c : UInt8} {l : List UInt8} (h : signL c l = none) : (takeL c l).length ≤ l.length := by rw [take_skip h]; exact (skip_suf l).length_le
end Go.Proofs.Ytdjllnhahhjgmab
namespace Go.Proofs.Ytdjllnhahhjgmab
open Go.RowKit Chron
theorem isB_cap (e : Ev) : isB (capE e) = isB e := by
  unfold isB capE
  simp only
  rw [Bool.eq_iff_iff]
  simp only [Bool.and_eq_true, decide_eq_true_eq]
  constructor
  · rintro ⟨h1, h2, h3, h4, h5, h6⟩; exact ⟨h1, h2, h3, by omega, by omega, h6⟩
  · rintro ⟨h1, h2, h3, h4, h5, h6⟩; exact ⟨h1, h2, h3, by omega, by omega, h6⟩
theorem cap_same {e : Ev} (h : isB e = true) : capE e = e := by
  have := (is_known h).t1
  obtain ⟨a, b, c, d, f⟩ := e
  simp only [capE, Ev.mk.injEq, true_and, and_true]
  simp only at this
  omega
theorem caps_bad (l : List Item) : (caps l).all isB = (evs l).all isB := by
  induction l with
  | nil => rfl
  | cons x l ih => simp only [caps, evs, List.map_cons, List.all_cons, isB_cap] at *; rw [ih]
theorem caps_exp (l : List Item) : (expB (caps l)).2 = (expB (evs l)).2 := by
  unfold expB
  have e : (caps l).length = (evs l).length := by simp [caps, evs]
  rw [e, caps_bad]
  split
  · rfl
  · split <;> rfl
theorem caps_evs {l : List Item} (h : (expB (evs l)).2 = 0) : caps l = evs l := by
  unfold expB at h
  split at h
  · simp at h
  · split at h
    · rename_i hall
      rw [List.all_eq_true] at hall
      unfold caps evs at *
      apply List.map_congr_left
      intro x hx
      exact cap_same (hall _ (List.mem_map.2 ⟨x, hx, rfl⟩))
    · simp at h
theorem all_len {l : List UInt8} {es : List Ev} (h : allL l = some es) : es.length ≤ l.length := by
  unfold allL at h
  split at h
  · cases h
  · rename_i es' r hl
    split at h
    · simp only [Option.some.injEq] at h
      rw [← h]
      exact (list_suf (fun l x r h => (event_suf h).1) hl).2.2
    · cases h
def ImpR (L : List UInt8) (w : World) (lv : Value) : Prop := ∃ a cap its, lv = .slice a its.length cap ∧ EvsAt w a its ∧ evs its = (impB L).1 ∧ its.length ≤ 200
theorem ImpR.nil {L : List UInt8} {w : World} (h : (impB L).1 = []) : ImpR L w (.slice none 0 0) := ⟨none, 0, [], rfl, (fun h0 => by simp at h0), by rw [h]; rfl, by simp⟩
end Go.Proofs.Ytdjllnhahhjgmab
namespace Go.Proofs.Ytdjllnhahhjgmab
open Go.RowKit Chron
theorem few_weak {n m : Nat} {e : Ev} (h : Few n e) (hm : n ≤ m) : Few m e := ⟨Nat.le_trans h.tags hm, fun t ht => Nat.le_trans (h.each t ht) hm, Nat.le_trans h.task hm, Nat.le_trans h.body hm⟩
theorem items_few : ∀ (n : Nat) {l r : List UInt8} {xs : List Ev}, l.length ≤ n → itemsL eventL event_one l = some (xs, r) → ∀ x ∈ xs, Few n x
  | n, l, r, xs, hn, h => by
    cases ho : eventL l with
    | none => rw [items_none ho] at h; cases h
    | some p =>
      obtain ⟨x, r0⟩ := p
      have h0 := (event_suf ho).2
      have f0 := few_weak (event_few ho) hn
      cases hs : signL 44 r0 with
      | none =>
        rw [items_last ho hs] at h
        cases h3 : signL 93 r0 with
        | none => rw [h3] at h; cases h
        | some r3 =>
          rw [h3] at h
          simp only [Option.map_some, Option.some.injEq, Prod.mk.injEq] at h
          obtain ⟨rfl, rfl⟩ := h
          intro y hy
          simp only [List.mem_singleton] at hy
          rw [hy]; exact f0
      | some r2 =>
        rw [items_more ho hs] at h
        have hl2 := (sign_suf hs).2
        cases hi : itemsL eventL event_one r2 with
        | none => rw [hi] at h; cases h
        | some q =>
          obtain ⟨ys, r3⟩ := q
          rw [hi] at h
          simp only [Option.map_some, Option.some.injEq, Prod.mk.injEq] at h
          obtain ⟨rfl, rfl⟩ := h
          match n, hn with
          | 0, hn => omega
          | n + 1, hn =>
            have ih := items_few n (by omega) hi
            intro y hy
            rcases List.mem_cons.1 hy with rfl | hy
            · exact f0
            · exact few_weak (ih y hy) (by omega)
theorem list_few {l r : List UInt8} {xs : List Ev} (h : listL eventL event_one l = some (xs, r)) : ∀ x ∈ xs, Few l.length x := by
  unfold listL at h
  split at h
  · cases h
  · rename_i r0 e0
    have h0 := (sign_suf e0).2
    split at h
    · simp only [Option.some.injEq, Prod.mk.injEq] at h
      obtain ⟨rfl, rfl⟩ := h
      intro x hx; cases hx
    · intro x hx; exact few_weak (items_few _ (Nat.le_refl _) h x hx) (by omega)
def ReadR (L : List UInt8) (N : Nat) (w : World) (lv : Value) (ok : Bool) : Prop :=
  match allL L with
  | some es => ok = true ∧ ∃ its, MadeO N w lv its ∧ evs its = es ∧ ∀ it ∈ its, Few L.length it.ev
  | none => ok = false
def ImpO (L : List UInt8) (N : Nat) (w : World) (lv : Value) : Prop := ∃ its, MadeO N w lv its ∧ evs its = (impB L).1
end Go.Proofs.Ytdjllnhahhjgmab
namespace Go.Proofs.Ytdjllnhahhjgmab
open Go.RowKit Chron
theorem run_append_keptG {P : Program} (w : World) (t ty : TypeId) (base : Nat) (e : TypeId) (i : TypeInfo) (z : Value) (size bytes : Nat) (ht : P.underlying t = some (.slice e)) (hi : P.info? e = some i) (hz : i.zero = some z)
    (hsize : i.size = size) (hby : i.bytes = bytes) (hzs : z.cells.size = size) (hpos : 0 < size)
    (v : Value) (n : Nat) (xs : List Value) (hown : w.ownsRow base e size v n xs)
    (ad : Addr) (m c : Nat) (news : List Value) (hl : news.length = m * size) (hnews : ∀ j u, news[j]? = some u → w.cell? (ad.add j) = some u) (h1 : ∀ u ∈ news, u.oneCell' = true)
    (hm : 0 < m) (h63 : n + m ≤ maxLen) (hbytes : (n + m) * bytes ≤ 140737488355328) (hbase : base ≤ w.heap.size) :
    ∃ g cap w', (Builtin.append_ #[t, t] ty #[v, .slice (some ad) m c]).run P w = .ok (.slice (some ⟨g, 0, none⟩) (n + m) cap) w' ∧
      w'.ownsRow base e size (.slice (some ⟨g, 0, none⟩) (n + m) cap) (n + m) (xs ++ news) ∧ w'.ownsRow base e size v n xs ∧ Lay w w' v g w.heap.size := by
  rcases hown.2 with ⟨rfl, rfl⟩ | ⟨g0, cap0, cur, rfl, a2, a3, a4, a5, a6, a7⟩
  · obtain ⟨g, cap, w', hr, h2, h3, h4, h5⟩ := run_append_lies (P := P) w t ty base e i z size bytes ht hi hz hsize hby hzs hpos (.slice none 0 0) 0 xs hown ad m c news hl hnews h1 hm h63 hbytes hbase w.heap.size rfl
    refine ⟨g, cap, w', hr, h2, ?_, .inr ⟨?_, h3⟩⟩
    · obtain rfl : xs = [] := List.eq_nil_of_length_eq_zero (by simpa using hown.1)
      exact World.ownsRow_nil _ _ _ _
    · rcases h4 with h4 | h4
      · cases h4
      · omega
  · by_cases hr : n + m ≤ cap0
    · obtain ⟨w', hrun, h2, h3⟩ := run_append_own_spare (P := P) w base t ty e i size ht hi hsize g0 n cap0 xs hown ad m c news hl hnews h1 hr
      refine ⟨g0, cap0, w', hrun, h2, ?_, .inl ⟨rfl, h3⟩⟩
      obtain ⟨b1, ⟨b2, _⟩ | ⟨g', cap', cur', hv, c2, c3, c4, c5, c6, c7⟩⟩ := h2
      · cases b2
      · cases hv
        refine ⟨hown.1, .inr ⟨g0, cap0, cur', rfl, c2, c3, a4, c5, c6, ?_⟩⟩
        have hxl := hown.1
        have : (cur'.toList.take ((n + m) * size)).take (n * size) = (xs ++ news).take (n * size) := by rw [c7]
        rw [List.take_take, Nat.min_eq_left (Nat.mul_le_mul_right _ (by omega))] at this
        rw [this, ← hxl, List.take_left]
    · have hxl := hown.1
      obtain ⟨v', w', hrun, h2, h3⟩ := run_append_arg_grows (P := P) w t ty e i z size bytes ht hi hz hsize hby hzs hpos ⟨g0, 0, none⟩ n cap0 xs hxl (fun j u hu => by
        rw [Addr.add_lit, Nat.zero_add]
        rw [← a7] at hu
        have hj := (List.getElem?_eq_some_iff.1 hu).1
        rw [List.getElem?_take_of_lt (by simp at hj; omega)] at hu
        simpa [World.cell?, a3] using hu) ad m c news hl hnews (by omega) h63 hbytes
      obtain ⟨g, cap, rfl, hg1, hg2⟩ := h2.form (by omega)
      exact ⟨g, cap, w', hrun, own_mono h2 hbase, hown.kept (row := none) h3 (Classical.em _), .inr ⟨hg1, h3⟩⟩
theorem wpList_append_keptG {P : Program} (w : World) {ops : Array Oper} {rest : List Oper} {o : Oper} {a : Act} {Q : Exit → Act → World → Prop} (hgd : o.guard = none) (s x : Operand) (t : TypeId)
    (ho : o.op = .call { callee := .builtin .append, args := #[s, x], argTypes := #[t, t] })
    (base : Nat) (e : TypeId) (i : TypeInfo) (z : Value) (size bytes : Nat) (ht : P.underlying t = some (.slice e)) (hi : P.info? e = some i) (hz : i.zero = some z)
    (hsize : i.size = size) (hby : i.bytes = bytes) (hzs : z.cells.size = size) (hpos : 0 < size)
    (v : Value) (n : Nat) (xs : List Value) (hs : a.eval s = v) (hown : w.ownsRow base e size v n xs)
    (ad : Addr) (m c : Nat) (news : List Value) (hx : a.eval x = .slice (some ad) m c) (hl : news.length = m * size) (hnews : ∀ j u, news[j]? = some u → w.cell? (ad.add j) = some u) (h1 : ∀ u ∈ news, u.oneCell' = true)
    (hm : 0 < m) (h63 : n + m ≤ maxLen) (hbytes : (n + m) * bytes ≤ 140737488355328) (hbase : base ≤ w.heap.size)
    (h : ∀ g cap w', w'.ownsRow base e size (.slice (some ⟨g, 0, none⟩) (n + m) cap) (n + m) (xs ++ news) → w'.ownsRow base e size v n xs → Lay w w' v g w.heap.size → wpList P ops Q rest (a.put o.dst (.slice (some ⟨g, 0, none⟩) (n + m) cap)) w') : wpList P ops Q (o :: rest) a w := by
  refine wpList_plain hgd fun K hK => ?_
  obtain ⟨g, cap, w', hr, h2, h3, h4⟩ := run_append_keptG (P := P) w t o.type base e i z size bytes ht hi hz hsize hby hzs hpos v n xs hown ad m c news hl hnews h1 hm h63 hbytes hbase
  unfold Oper.wp execOp
  simp only [ho, resolve, invoke, builtin, Sem.run_bind, Sem.run_pure, Result.andThen_ok, List.map_toArray, List.map_cons, List.map_nil, hs, hx, hr]
  exact hK _ _ (h g cap w' h2 h3 h4)
def reps (n : Nat) (mc : List Value) : List Value := (List.replicate n mc).flatten
theorem reps_len (n : Nat) (mc : List Value) : (reps n mc).length = n * mc.length := by simp [reps]
theorem reps_add (n m : Nat) (mc : List Value) : reps n mc ++ reps m mc = reps (n + m) mc := by simp [reps, ← List.replicate_append_replicate]
theorem reps_pre {n m : Nat} {mc : List Value} (h : n ≤ m) {j : Nat} {u : Value} (hj : (reps n mc)[j]? = some u) : (reps m mc)[j]? = some u := by
  obtain ⟨k, rfl⟩ : ∃ k, m = n + k := ⟨m - n, by omega⟩
  rw [← reps_add, List.getElem?_append_left (List.getElem?_eq_some_iff.1 hj).1]; exact hj
theorem reps_one (n : Nat) (u : Value) : reps n [u] = List.replicate n u := by
  induction n with
  | zero => rfl
  | succ n ih => simp only [reps, List.replicate_succ, List.flatten_cons] at *; rw [ih]; rfl
structure OutG (w : World) (B most : Nat) (mc : List Value) (v : Value) (g no cap : Nat) : Prop where
  val : v = .slice (some ⟨g, 0, none⟩) no cap
  few : no ≤ most
  room : no ≤ cap
  base : B ≤ g
  lt : g < w.heap.size
  cells : ∀ j u, (reps no mc)[j]? = some u → w.cell? ⟨g, j, none⟩ = some u
theorem OutG.keep {w w' : World} {B most : Nat} {mc : List Value} {v : Value} {g no cap : Nat} (h : OutG w B most mc v g no cap) (hs : w.heap.size ≤ w'.heap.size) (hb : w'.heap[g]? = w.heap[g]?) : OutG w' B most mc v g no cap :=
  ⟨h.val, h.few, h.room, h.base, Nat.lt_of_lt_of_le h.lt hs, fun j u hu => by rw [World.cell?_of_block (a := ⟨g, j, none⟩) hb]; exact h.cells j u hu⟩
theorem OutG.blk {w : World} {B most : Nat} {mc : List Value} {v : Value} {g no cap : Nat} (h : OutG w B most mc v g no cap) : v.ownBlock = some g := by rw [h.val]; rfl
structure MarksG (w : World) (B : Nat) (T sz : Nat) (l : Value) (n : Nat) (mc : List Value) (outs : List Value) (k : Nat) : Prop where
  own : w.ownsRow B T sz l n (reps n mc)
  outs : ∀ o ∈ outs, ∃ g no cap, OutG w B (n + k) mc o g no cap
theorem own_cellsG {w : World} {B g n cap sz : Nat} {e : TypeId} {xs : List Value} (h : w.ownsRow B e sz (.slice (some ⟨g, 0, none⟩) n cap) n xs) : n ≤ cap ∧ ∀ j u, xs[j]? = some u → w.cell? ⟨g, j, none⟩ = some u := by
  obtain ⟨h1, ⟨h2, _⟩ | ⟨g', cap', cur, hv, a2, a3, a4, a5, a6, a7⟩⟩ := h
  · cases h2
  · cases hv
    refine ⟨a4, fun j u hu => ?_⟩
    rw [← a7] at hu
    have hj := (List.getElem?_eq_some_iff.1 hu).1
    rw [List.getElem?_take_of_lt (by simp at hj; omega)] at hu
    simpa [World.cell?, a3] using hu
theorem MarksG.push {w wa : World} {B T sz g cap n k j : Nat} {l : Value} {mc outs : List Value} {o : Obj} (h : MarksG w B T sz l n mc outs k) (hj : k ≤ j)
    (hnew : wa.ownsRow B T sz (.slice (some ⟨g, 0, none⟩) (n + j) cap) (n + j) (reps n mc ++ reps j mc)) (hold : wa.ownsRow B T sz l n (reps n mc))
    (hlay : Lay (w.alloc o) wa l g (w.alloc o).heap.size) : MarksG wa B T sz l n mc (outs ++ [.slice (some ⟨g, 0, none⟩) (n + j) cap]) j := by
  rw [reps_add] at hnew
  obtain ⟨hcap, hcells⟩ := own_cellsG hnew
  have hg := hnew.lt g rfl
  refine ⟨hold, fun x hx => ?_⟩
  rcases List.mem_append.1 hx with hx | hx
  · obtain ⟨g1, no, c1, ho⟩ := h.outs x hx
    have hlt := ho.lt
    have hfew := ho.few
    have same : wa.heap[g1]? = (w.alloc o).heap[g1]? → ∀ q u, (reps no mc)[q]? = some u → wa.cell? ⟨g1, q, none⟩ = some u := fun he q u hq => by
      rw [World.cell?_of_block (a := ⟨g1, q, none⟩) (he.trans (Below.heap_alloc _ _ _ hlt))]; exact ho.cells q u hq
    have hsz : w.heap.size ≤ wa.heap.size := by
      have h1 : (w.alloc o).heap.size = w.heap.size + 1 := World.size_alloc _ _
      rcases hlay with ⟨_, hgr⟩ | ⟨_, hgr⟩ <;> (have := hgr.size; omega)
    refine ⟨g1, no, c1, ho.val, by omega, ho.room, ho.base, by omega, ?_⟩
    rcases hlay with ⟨_, hgr⟩ | ⟨_, hgr⟩
    · by_cases he : g1 = g
      · subst he; exact fun q u hq => hcells q u (reps_pre (by omega) hq)
      · exact same (hgr.block g1 (by rw [World.size_alloc]; omega) (fun e => he (Option.some.inj e)))
    · exact same (hgr.block g1 (by rw [World.size_alloc]; omega) (fun e => by cases e))
  · simp only [List.mem_singleton] at hx
    subst hx
    exact ⟨g, n + j, cap, rfl, Nat.le_refl _, hcap, hg.1, hg.2, hcells⟩
end Go.Proofs.Ytdjllnhahhjgmab
namespace Go.Proofs.Ytdjllnhahhjgmab
open Go.RowKit Chron
theorem own_prefix {w : World} {N sz g n k cap : Nat} {e : TypeId} {xs ys : List Value} (h : w.ownsRow N e sz (.slice (some ⟨g, 0, none⟩) n cap) n xs) (hk : k ≤ n) (hy : xs.take (k * sz) = ys) : w.ownsRow N e sz (.slice (some ⟨g, 0, none⟩) k cap) k ys := by
  obtain ⟨h1, h2 | ⟨g', cap', cur, e1, a2, a3, a4, a5, a6, a7⟩⟩ := h
  · cases h2.1
  · simp only [Value.slice.injEq, Option.some.injEq, Addr.mk.injEq] at e1
    obtain ⟨⟨rfl, _⟩, _, rfl⟩ := e1
    have hks : k * sz ≤ n * sz := Nat.mul_le_mul_right _ hk
    refine ⟨?_, .inr ⟨g, cap, cur, rfl, a2, a3, by omega, a5, a6, ?_⟩⟩
    · rw [← hy, List.length_take, h1]; omega
    · rw [← hy, ← a7, List.take_take, Nat.min_eq_left hks]
theorem own_cap {w : World} {N sz g n m c c' : Nat} {e : TypeId} {xs ys : List Value} (hs : 0 < sz) (h : w.ownsRow N e sz (.slice (some ⟨g, 0, none⟩) n c) n xs) (k : w.ownsRow N e sz (.slice (some ⟨g, 0, none⟩) m c') m ys) : c = c' := by
  obtain ⟨_, h2 | ⟨g', cap', cur, e1, a2, a3, a4, a5, a6, a7⟩⟩ := h
  · cases h2.1
  obtain ⟨_, k2 | ⟨g2, cap2, cur2, f1, b2, b3, b4, b5, b6, b7⟩⟩ := k
  · cases k2.1
  simp only [Value.slice.injEq, Option.some.injEq, Addr.mk.injEq] at e1 f1
  obtain ⟨⟨rfl, _⟩, _, rfl⟩ := e1
  obtain ⟨⟨rfl, _⟩, _, rfl⟩ := f1
  rw [a3] at b3
  simp only [Option.some.injEq, Obj.cells.injEq] at b3
  obtain ⟨rfl, _⟩ := b3
  rw [a6] at b6
  exact Nat.eq_of_mul_eq_mul_right hs b6
/- a list, and one that began it -/
structure Two (N : Nat) (w : World) (lv0 : Value) (its0 : List Item) (lv : Value) (its : List Item) : Prop where
  made : MadeO N w lv its
  old : MadeO N w lv0 its0
  pre : ∃ more, its = its0 ++ more
  rel : lv0.ownBlock = none ∨ lv0.ownBlock ≠ lv.ownBlock ∨ ∃ g cap, lv = .slice (some ⟨g, 0, none⟩) its.length cap ∧ lv0 = .slice (some ⟨g, 0, none⟩) its0.length cap
theorem Two.start {N : Nat} {w : World} {lv : Value} {its : List Item} (h : MadeO N w lv its) : Two N w lv its lv its := by
  refine ⟨h, h, ⟨[], by simp⟩, ?_⟩
  rcases h.row.2 with ⟨h1, _⟩ | ⟨g, cap, _, h1, _⟩
  · exact .inl (by rw [h1]; rfl)
  · exact .inr (.inr ⟨g, cap, h1, h1⟩)
theorem Two.keep {N : Nat} {w w' : World} {lv0 lv : Value} {its0 its : List Item} (h : Two N w lv0 its0 lv its) (hb : ∀ q, N ≤ q → q < w.heap.size → w'.heap[q]? = w.heap[q]?) : Two N w' lv0 its0 lv its :=
  ⟨h.made.keep hb, h.old.keep hb, h.pre, h.rel⟩
theorem Two.push {N M : Nat} {w wa : World} {lv0 lv : Value} {its0 its : List Item} {o : Obj} {g cap : Nat} {i : Item} (h : Two N w lv0 its0 lv its) (hi : w.ownsRow M 9 1 i.tv i.ev.tags.length (i.ev.tags.map Value.string)) (hM : N ≤ M) (hlv : ∀ q, lv.ownBlock = some q → q < M) (hts : ∀ q ∈ tagBs its, q < M)
    (hown : wa.ownsRow N 36 5 (.slice (some ⟨g, 0, none⟩) (its.length + 1) cap) (its.length + 1) (fives its ++ i.five)) (hkept : wa.ownsRow N 36 5 lv its.length (fives its)) (hlay : Lay (w.alloc o) wa lv g (w.alloc o).heap.size) (hg9 : g = (w.alloc o).heap.size ∨ lv.ownBlock = some g) :
    Two N wa lv0 its0 (.slice (some ⟨g, 0, none⟩) (its ++ [i]).length cap) (its ++ [i]) := by
  have hl : (its ++ [i]).length = its.length + 1 := by simp
  have hgr : (w.alloc o).grownBy wa lv.ownBlock := by
    rcases hlay with ⟨h1, h2⟩ | ⟨_, h2⟩
    · rw [h1]; exact h2
    · exact ⟨h2.os, h2.tape, h2.output, h2.size, fun k hk _ => h2.block k hk (fun e => by cases e)⟩
  have hP := h.made.push hi hM hlv hts hgr hown (by rcases hg9 with e | e; exact .inr e; exact .inl e)
  have key : ∀ q, q < w.heap.size → lv.ownBlock ≠ some q → wa.heap[q]? = w.heap[q]? := fun q hq hne => (hgr.block q (by rw [World.size_alloc]; omega) (fun e => hne e.symm)).trans (Below.heap_alloc _ _ _ hq)
  obtain ⟨more, hmore⟩ := h.pre
  have htag0 : ∀ q ∈ tagBs its0, q ∈ tagBs its := fun q hq => by
    obtain ⟨it, hit, hb⟩ := tagBs_mem.1 hq
    exact tagBs_mem.2 ⟨it, by rw [hmore]; exact List.mem_append_left _ hit, hb⟩
  have hgnew : ∀ q, q < w.heap.size → lv.ownBlock ≠ some q → q ≠ g := fun q hq hne e => by
    subst e
    rcases hg9 with e | e
    · rw [World.size_alloc] at e; omega
    · exact hne e
  rw [hl]
  refine ⟨hP, ⟨?_, fun it hit => own_of_block (h.old.tags it hit) (fun q hq => key q ((h.old.tags it hit).lt q hq).2 (h.made.apart q (htag0 q (tagBs_mem.2 ⟨it, hit, hq⟩)))), h.old.apart, h.old.dist⟩, ⟨more ++ [i], by rw [hmore]; simp⟩, ?_⟩
  · rcases h.rel with e | e | ⟨g0, c0, e1, e2⟩
    · exact own_of_block h.old.row (fun q hq => by rw [e] at hq; cases hq)
    · exact own_of_block h.old.row (fun q hq => key q (h.old.row.lt q hq).2 (fun e' => e (by rw [hq, e'])))
    · rw [e2]
      have hk := hkept
      rw [e1] at hk
      refine own_prefix hk (by rw [hmore]; simp) ?_
      have hf : fives its = fives its0 ++ fives more := by rw [hmore]; simp [fives]
      rw [hf, List.take_left' (by have := fives_len its0; omega)]
  · rcases h.rel with e | e | ⟨g0, c0, e1, e2⟩
    · exact .inl e
    · refine .inr (.inl ?_)
      rcases hq : lv0.ownBlock with _ | q
      · simp [Value.ownBlock]
      · simp only [Value.ownBlock, ne_eq, Option.some.injEq]
        exact hgnew q (h.old.row.lt q hq).2 (fun e' => e (by rw [hq, e']))
    · by_cases hgg : g = g0
      · subst hgg
        have hk := hkept
        rw [e1] at hk
        have hc := own_cap (by decide) hk hown
        subst hc
        exact .inr (.inr ⟨g, c0, by rw [hl], e2⟩)
      · refine .inr (.inl ?_)
        rw [e2]
        simp only [Value.ownBlock, ne_eq, Option.some.injEq]
        exact fun e => hgg e.symm
/- the next event that is read -/
theorem dec_cases (v : Int) (s : List UInt8) : (decB v s).1 = zeroEv ∨ isB (decB v s).1 = true := by
  unfold decB
  split
  · exact .inl rfl
  · split
    · exact .inl rfl
    · rename_i h; exact .inr (rd_is (by simpa using h))
theorem few_zero : Few 1048576 zeroEv := ⟨(by decide), (fun t ht => by cases ht), (by decide), (by decide)⟩
theorem bare_few (v : Int) (r : Rdr) : Few 1048576 (bareR v r).1 := by
  unfold bareR
  split
  · exact few_zero
  · simp only
    rcases dec_cases v (textR 321 r).1 with h | h
    · rw [h]; exact few_zero
    · have k := is_known h
      exact ⟨by have := k.few; omega, fun t ht => by have := k.lines t ht; omega, by have := k.task; omega, by have := k.body; omega⟩
theorem apply_len (o c : List UInt8) : (applyB o c).1.length ≤ 65536 := by
  unfold applyB
  split
  · simp
  · split
    · simp
    · split
      · simp
      · unfold joinB
        split
        · simp only [List.length_append, List.length_take, List.length_drop]; omega
        · simp
theorem body_small (old : ByteArray) (r : Rdr) : (bodyR old r).1.size ≤ 65536 := by
  unfold bodyR
  split
  · show noB.size ≤ 65536; decide
  · exact apply_len _ _
theorem evR_few (v : Int) (old : ByteArray) (r : Rdr) : Few 1048576 (evR v old r).1 := by
  have h := bare_few v r
  have h2 := body_small old (bareR v r).2
  exact ⟨h.tags, h.each, h.task, by show (bodyR old (bareR v r).2).1.size ≤ _; omega⟩
theorem last_few (l : List Ev) (h : ∀ e ∈ l, Few 1048576 e) : ∀ old : ByteArray, old.size ≤ 1048576 → (lastB old l).size ≤ 1048576 := by
  induction l with
  | nil => exact fun old ho => ho
  | cons e r ih => exact fun old _ => ih (fun x hx => h x (List.mem_cons_of_mem _ hx)) e.body (h e List.mem_cons_self).body
end Go.Proofs.Ytdjllnhahhjgmab
namespace Go.Proofs.Ytdjllnhahhjgmab
open Go.RowKit Chron
theorem evsR_step (v : Int) (n : Nat) (l : List Ev) (r : Rdr) : evsR v (n + 1) l r = evsR v n (l ++ [(evR v (lastB noB l) r).1]) (evR v (lastB noB l) r).2 := rfl
theorem evR_len (v : Int) (old : ByteArray) (r : Rdr) : (evR v old r).2.rest.length ≤ r.rest.length := Nat.le_trans (bodyR_len _ _) (bareR_len _ _)
theorem numR_bound (least most : Int) (r : Rdr) (h0 : 0 ≤ most) : ((numR least most r).1 : Int) ≤ most := by
  unfold numR
  split
  · simpa using h0
  · split
    · simpa using h0
    · split
      · simpa using h0
      · rename_i h; show (_ : Int) ≤ _; omega
theorem wpList_append_keptL {P : Program} (w : World) {ops : Array Oper} {rest : List Oper} {o : Oper} {a : Act} {Q : Exit → Act → World → Prop} (hgd : o.guard = none) (s x : Operand) (t : TypeId)
    (ho : o.op = .call { callee := .builtin .append, args := #[s, x], argTypes := #[t, t] })
    (base : Nat) (e : TypeId) (i : TypeInfo) (z : Value) (size bytes : Nat) (ht : P.underlying t = some (.slice e)) (hi : P.info? e = some i) (hz : i.zero = some z)
    (hsize : i.size = size) (hby : i.bytes = bytes) (hzs : z.cells.size = size) (hpos : 0 < size)
    (v : Value) (n : Nat) (xs : List Value) (hs : a.eval s = v) (hown : w.ownsRow base e size v n xs)
    (ad : Addr) (m c : Nat) (news : List Value) (hx : a.eval x = .slice (some ad) m c) (hl : news.length = m * size) (hnews : ∀ j u, news[j]? = some u → w.cell? (ad.add j) = some u) (h1 : ∀ u ∈ news, u.oneCell' = true)
    (hm : 0 < m) (h63 : n + m ≤ maxLen) (hbytes : (n + m) * bytes ≤ 140737488355328) (hbase : base ≤ w.heap.size)
    (h : ∀ g cap w', w'.ownsRow base e size (.slice (some ⟨g, 0, none⟩) (n + m) cap) (n + m) (xs ++ news) → w'.ownsRow base e size v n xs → Lay w w' v g w.heap.size → (g = w.heap.size ∨ v.ownBlock = some g) → wpList P ops Q rest (a.put o.dst (.slice (some ⟨g, 0, none⟩) (n + m) cap)) w') : wpList P ops Q (o :: rest) a w := by
  refine wpList_plain hgd fun K hK => ?_
  obtain ⟨g, cap, w', hr, h2, h3, h4⟩ := run_append_keptG (P := P) w t o.type base e i z size bytes ht hi hz hsize hby hzs hpos v n xs hown ad m c news hl hnews h1 hm h63 hbytes hbase
  obtain ⟨g', cap', w'', hr', _, _, k4, _⟩ := run_append_lies (P := P) w t o.type base e i z size bytes ht hi hz hsize hby hzs hpos v n xs hown ad m c news hl hnews h1 hm h63 hbytes hbase w.heap.size rfl
  have hg : g = g' := by
    rw [hr] at hr'
    simp only [Result.ok.injEq, Value.slice.injEq, Option.some.injEq, Addr.mk.injEq] at hr'
    exact hr'.1.1.1
  subst hg
  unfold Oper.wp execOp
  simp only [ho, resolve, invoke, builtin, Sem.run_bind, Sem.run_pure, Result.andThen_ok, List.map_toArray, List.map_cons, List.map_nil, hs, hx, hr]
  exact hK _ _ (h g cap w' h2 h3 h4 (k4.elim .inr .inl))
set_option maxRecDepth 100000 in
set_option maxHeartbeats 1000000 in
theorem aEntry_any (N R : Nat) (r : Rdr) (la : Option Addr) (lc : Nat) (its0 : List Item) (w : World) (h : Hid (RdAt R w r)) (hM : Hid (MadeO N w (.slice la its0.length lc) its0)) (hN : R < N) (hNw : N ≤ w.heap.size) (hs : r.rest.length ≤ 281474976710656) (hf : Hid (∀ e ∈ evs its0, Few 1048576 e)) (hl : its0.length ≤ 200) :
    Calls Try.prog 30 #[.pointer (some ⟨R, 0, none⟩), .slice la its0.length lc] w fun e w' => ∃ (va : Option Addr) (vc : Nat) (its : List Item), e = .returned (.slice va its.length vc) ∧ Hid (Two N w' (.slice la its0.length lc) its0 (.slice va its.length vc) its) ∧ Hid (evs its = (entryR (evs its0) r).1) ∧ Hid (RdAt R w' (entryR (evs its0) r).2) ∧ Hid (Below R w w') ∧ Hid (∀ e ∈ evs its, Few 1048576 e) ∧ its.length ≤ 200 := by
  have hes : (evs its0).length = its0.length := by simp [evs]
  have hN1 := aNumber_any R r 1 3 w h hs
  have hlen1 := numR_len 1 3 r
  have HE : Hid (entryR (evs its0) r = evsR (numR 1 3 r).1 (numR 1 (200 - ((evs its0).length : Int)) (numR 1 3 r).2).1 (evs its0) (numR 1 (200 - ((evs its0).length : Int)) (numR 1 3 r).2).2) := rfl
  rw [hes] at HE
  generalize numR 1 3 r = n1 at *
  obtain ⟨v, r1⟩ := n1
  simp only at hN1 hlen1 HE
  have hN2 := fun w' (hh : Hid (RdAt R w' r1)) => aNumber_any R r1 1 (200 - (its0.length : Int)) w' hh (by omega)
  have hlen2 := numR_len 1 (200 - (its0.length : Int)) r1
  have hbd := numR_bound 1 (200 - (its0.length : Int)) r1 (by omega)
  generalize numR 1 (200 - (its0.length : Int)) r1 = n2 at *
  obtain ⟨n, r2⟩ := n2
  simp only at hN2 hlen2 HE hbd
  go_enter Try.func30, Try.ntmps30
  go_wp2_with fail
  refine hN1.mono ?_
  rintro e w1 ⟨rfl, H1, HF1⟩
  have HM1 := hide0 (hM.out.keep (w' := w1) (fun q h1 h2 => HF1.out.block q h2 (by simp; omega)))
  go_wp2_with fail
  refine (hN2 _ H1).mono ?_
  rintro e w2 ⟨rfl, H2, HF2⟩
  have hs1 := HF1.out.size
  have hs2 := HF2.out.size
  have HM2 := hide0 (HM1.out.keep (w' := w2) (fun q h1 h2 => HF2.out.block q h2 (by simp; omega)))
  have HB2 := hide0 ((HF1.out.trans HF2.out).below (B := R) (by have := h.out.lt; omega) (fun q hq => by simp at hq; omega))
  clear hN1 hN2 HF1 HF2 HM1 H1
  obtain ⟨i0, hi, hz0, hz1, hz2⟩ := info_parts infoEvent5
  have hTS := hide0 (Two.start HM2.out)
  clear HM2 hM
  go_wp2_with fail
  go_loopw [1, 16] (fun lv iv wx => ∃ (i : Nat) (its : List Item) (va : Option Addr) (vc : Nat) (rr : Rdr), i ≤ n ∧ iv = .int .i64 i ∧ lv = .slice va its.length vc ∧ Hid (its.length = its0.length + i) ∧ rr.rest.length ≤ r2.rest.length ∧ Hid (Two N wx (.slice la its0.length lc) its0 (.slice va its.length vc) its) ∧ Hid (evsR v (n - i) (evs its) rr = evsR v n (evs its0) r2) ∧ Hid (RdAt R wx rr) ∧ Hid (Below R w wx) ∧ Hid (∀ e ∈ evs its, Few 1048576 e)) (fun _ i _ => n - (intOf i).toNat)
  case atStart => exact ⟨0, its0, la, lc, r2, Nat.zero_le _, rfl, rfl, hide0 rfl, Nat.le_refl _, hTS, by show _ = _; rfl, H2, HB2, hf⟩
  case round =>
    obtain ⟨i, its, va, vc, rr, hin, rfl, rfl, HIL, hrr, HT, HS, HR, HB, HFW⟩ := hrel
    clear hTS H2 HB2 hf
    by_cases hlt : i < n
    · have hil : its.length < 200 := by have := HIL.out; omega
      have hRlt := HR.out.lt
      have hsw := HB.out.size
      have hbare := aBare_any R rr v wr HR (by omega)
      have hbl := bareR_len v rr
      have hbf := bare_few v rr
      have HEV : Hid (evR v (lastB noB (evs its)) rr = (⟨(bareR v rr).1.kind, (bareR v rr).1.task, (bareR v rr).1.time, (bodyR (lastB noB (evs its)) (bareR v rr).2).1, (bareR v rr).1.tags⟩, (bodyR (lastB noB (evs its)) (bareR v rr).2).2)) := rfl
      have HEF := hide0 (evR_few v (lastB noB (evs its)) rr)
      have HEL := hide0 (evR_len v (lastB noB (evs its)) rr)
      have HSN : Hid (evsR v (n - i) (evs its) rr = evsR v (n - (i + 1)) (evs its ++ [(evR v (lastB noB (evs its)) rr).1]) (evR v (lastB noB (evs its)) rr).2) := by
        show _ = _
        rw [show n - i = (n - (i + 1)) + 1 by omega, evsR_step]
      generalize bareR v rr = br at *
      obtain ⟨⟨k, t, m, b, ts⟩, r3⟩ := br
      simp only at hbare hbl HEV
      have hlf := last_few (evs its) HFW.out noB (by decide)
      generalize hold : lastB noB (evs its) = old at *
      have hbody := fun w' (hh : Hid (RdAt R w' r3)) => aBody_any R r3 old w' hh (by omega) (by omega)
      generalize bodyR old r3 = bd at *
      obtain ⟨nb, r4⟩ := bd
      simp only at hbody HEV
      go_wp2_with fail
      refine hbare.mono ?_
      rintro e w3 ⟨xa, xc, rfl, HOX, H3, HF3⟩
      simp only [evVal]
      have hs3 := HF3.out.size
      have HT3 := hide0 (HT.out.keep (w' := w3) (fun q h1 h2 => HF3.out.block q h2 (by simp; omega)))
      have HL3 := hide0 (And.intro (fun q hq => (HT.out.made.row.lt q hq).2) (fun q (hq : q ∈ tagBs its) => (HT.out.made.tag_lt hq).2) : (∀ q, Value.ownBlock (.slice va its.length vc) = some q → q < wr.heap.size) ∧ ∀ q ∈ tagBs its, q < wr.heap.size)
      obtain ⟨va', vc', hvv, hE3⟩ := HT3.out.made.made.evs (fun it hit => HFW.out it.ev (List.mem_map.2 ⟨it, hit, rfl⟩))
      cases hvv
      have HBW3 := hide0 (HB.out.trans (HF3.out.below (B := R) (by omega) (fun q hq => by simp at hq; omega)))
      have hLB := lastBody_any va vc its (w3.alloc (.cells #[.int .i64 k, .string t, .int .i64 m, .string b, .slice xa ts.length xc] 36)) (hE3.below ((Below.refl _ _).alloc (Nat.le_refl _) _) (Nat.le_refl _)) (by omega)
      rw [hold] at hLB
      have H4 := hide0 (H3.out.more ((Below.refl _ _).alloc (Nat.le_refl _) (.cells #[.int .i64 k, .string t, .int .i64 m, .string b, .slice xa ts.length xc] 36)))
      clear hbare hE3 HT HB HR
      go_wp2_with fail
      refine hLB.mono ?_
      rintro e w4 ⟨rfl, hw4⟩
      have hw5 := hw4.symm
      subst hw5
      go_wp2_with fail
      refine (hbody _ H4).mono ?_
      rintro e w5 ⟨rfl, H5, HF5⟩
      have hbx : w5.heap[w3.heap.size]? = some (.cells #[.int .i64 k, .string t, .int .i64 m, .string b, .slice xa ts.length xc] 36) := (HF5.out.block _ (by simp) (by simp; omega)).trans (heap_alloc_new w3 _)
      obtain ⟨b0, b1, b2, b3, b4, bz⟩ := res_cells hbx
      have hs5 := HF5.out.size
      rw [World.size_alloc] at hs5
      have key : ∀ q, q < w3.heap.size → q ≠ R → (w5.setCell ⟨w3.heap.size, 3, none⟩ (.string nb)).heap[q]? = w3.heap[q]? := fun q h1 h2 => (Below.heap_setCell _ _ _ _ (by show q ≠ w3.heap.size; omega)).trans ((HF5.out.block q (by simp; omega) (by simp; omega)).trans (Below.heap_alloc _ _ _ h1))
      have HT6 := hide0 (HT3.out.keep (w' := w5.setCell ⟨w3.heap.size, 3, none⟩ (.string nb)) (fun q h1 h2 => key q h2 (by omega)))
      have HO6 := hide0 (own_of_block HOX.out (w' := w5.setCell ⟨w3.heap.size, 3, none⟩ (.string nb)) (fun q hq => key q (HOX.out.lt q hq).2 (by have := (HOX.out.lt q hq).1; omega)))
      have H6 : Hid (RdAt R (w5.setCell ⟨w3.heap.size, 3, none⟩ (.string nb)) r4) := (Below.heap_setCell _ _ _ _ (by show R ≠ w3.heap.size; omega)).trans H5.out
      have HB6 : Hid (Below R w (w5.setCell ⟨w3.heap.size, 3, none⟩ (.string nb))) := (((HBW3.out.alloc (by omega) _).trans (HF5.out.below (B := R) (by simp; omega) (fun q hq => by simp at hq; omega)))).setCell (by show R ≤ w3.heap.size; omega) _
      have hs6 : (w5.setCell ⟨w3.heap.size, 3, none⟩ (.string nb)).heap.size = w5.heap.size := by simp [World.setCell]
      have c6 : ∀ o, (w5.setCell ⟨w3.heap.size, 3, none⟩ (.string nb)).heap[w3.heap.size]? = some (.cells #[.int .i64 k, .string t, .int .i64 m, .string nb, .slice xa ts.length xc] 36) ∧ o = o := fun (o : Nat) => ⟨(by
        simp only [World.setCell, Array.getElem?_modify, if_true, hbx, Option.map_some]; rfl), rfl⟩
      have hNew := five_new (w5.setCell ⟨w3.heap.size, 3, none⟩ (.string nb)) ⟨⟨k, t, m, nb, ts⟩, xa, xc⟩
      have hrow := HT6.out.made.row
      clear hbody hLB HT3 HOX H5 HF5 key H4 H3 HF3 c6
      rw [hs6] at hNew
      have hbase : N ≤ ((w5.setCell ⟨w3.heap.size, 3, none⟩ (.string nb)).alloc (.cells #[.int .i64 k, .string t, .int .i64 m, .string nb, .slice xa ts.length xc] 36)).heap.size := by rw [World.size_alloc, hs6]; omega
      go_wp2_with (first
        | (at_builtin; go_must (refine wpList_append_keptL _ rfl _ _ 23 rfl N 36 i0 (.agg #[.int .i64 0, .string ⟨#[]⟩, .int .i64 0, .string ⟨#[]⟩, .slice none 0 0]) 5 72 Try.underlying23 hi hz0 hz1 hz2 rfl (by decide) (.slice va its.length vc) its.length (fives its) rfl (hrow.alloc _) ⟨w5.heap.size, 0, none⟩ 1 1 (Item.five ⟨⟨k, t, m, nb, ts⟩, xa, xc⟩) rfl rfl hNew (five_one _) Nat.one_pos (by unfold maxLen; omega) (by omega) hbase ?_)
           intro g gcap wa hown hkept hlay hg9))
      have hgr : ((w5.setCell ⟨w3.heap.size, 3, none⟩ (.string nb)).alloc (.cells #[.int .i64 k, .string t, .int .i64 m, .string nb, .slice xa ts.length xc] 36)).grownBy wa (Value.ownBlock (.slice va its.length vc)) := by
        rcases hlay with ⟨h1, h2⟩ | ⟨_, h2⟩
        · rw [h1]; exact h2
        · exact ⟨h2.os, h2.tape, h2.output, h2.size, fun k hk _ => h2.block k hk (fun e => by cases e)⟩
      have HTP := hide0 (Two.push (M := wr.heap.size) (i := ⟨⟨k, t, m, nb, ts⟩, xa, xc⟩) HT6.out HO6.out (by omega) HL3.out.1 HL3.out.2 hown hkept hlay hg9)
      have HR7 : Hid (RdAt R wa r4) := (hgr.block R (by rw [World.size_alloc, hs6]; omega) (fun e => by have := (hrow.lt R e.symm).1; omega)).trans ((Below.heap_alloc _ _ _ (by rw [hs6]; omega)).trans H6.out)
      have HB7 := hide0 (Below.grown (HB6.out.alloc (by rw [hs6]; omega) _) hgr (by rw [World.size_alloc, hs6]; omega) (fun q hq => by have := (hrow.lt q hq).1; omega))
      have HEV2 : Hid (evs (its ++ [⟨⟨k, t, m, nb, ts⟩, xa, xc⟩]) = evs its ++ [(evR v old rr).1] ∧ r4 = (evR v old rr).2) := by
        rw [HEV.out]; exact ⟨by simp [evs], rfl⟩
      clear hown hkept hlay hg9 hgr hrow hNew hbase
      go_wp2
      go_roundw
      case rel => exact ⟨i + 1, its ++ [⟨⟨k, t, m, nb, ts⟩, xa, xc⟩], some ⟨g, 0, none⟩, gcap, r4, by omega, by go_num, by simp, by show _ = _; simp; have := HIL.out; omega, by rw [HEV2.out.2]; have := HEL.out; omega, by simpa using HTP, by rw [HEV2.out.1, HEV2.out.2]; exact hide0 (HSN.out.symm.trans HS.out), HR7, HB7, by rw [HEV2.out.1]; exact hide0 (fun e he => by rcases List.mem_append.1 he with h | h; exact HFW.out e h; simp at h; rw [h]; exact HEF.out)⟩
      case measure => simp [intOf]; omega
    · have hni : n - i = 0 := by omega
      have HZ : Hid (evsR v (n - i) (evs its) rr = (evs its, rr)) := by show _ = _; rw [hni]; rfl
      have HX := hide0 (HE.out.trans (HS.out.symm.trans HZ.out))
      have hl9 : its.length ≤ 200 := by have := HIL.out; omega
      clear hni
      go_wp2
      go_ret
      exact ⟨va, vc, its, rfl, HT, by rw [HX.out]; exact hide0 rfl, by rw [HX.out]; exact HR, HB, HFW, hl9⟩
end Go.Proofs.Ytdjllnhahhjgmab
