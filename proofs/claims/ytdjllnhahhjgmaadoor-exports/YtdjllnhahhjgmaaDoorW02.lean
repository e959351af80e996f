/- Walks and plain facts, in the order in which they lean on one another. -/
import Derived.Test.YtdjllnhahhjgmaaDoorW01
import Derived.Deep.AppendLies
import Derived.Deep.RegionLaw
namespace Chron
open Go Go.RowKit
theorem readF_pos : ∀ (f : Nat) (l : List UInt8) (n : Nat) (r : List UInt8), readF f false l = some (n, r) → 1 ≤ n
  | 0, _, _, _, h => by simp [readF] at h
  | f + 1, [], _, _, h => by simp [readF] at h
  | f + 1, c :: l, n, r, h => by
    unfold readF at h
    split at h
    · split at h
      · cases h
      · rename_i hz
        simp only [Option.some.injEq, Prod.mk.injEq] at h
        simp at hz; omega
    · rcases hq : readF f false l with _ | ⟨m, r'⟩
      · rw [hq] at h; cases h
      · rw [hq] at h
        simp only [Option.some.injEq, Prod.mk.injEq] at h
        have := readF_pos f l m r' hq
        omega
theorem readF_num : ∀ (f : Nat) (b : Bool) (l : List UInt8) (n : Nat) (r : List UInt8), readF f b l = some (n, r) → l = numF f n ++ r ∧ n < 128 ^ f
  | 0, _, _, _, _, h => by simp [readF] at h
  | f + 1, _, [], _, _, h => by simp [readF] at h
  | f + 1, b, c :: l, n, r, h => by
    have hc : c.toNat < 256 := c.toNat_lt
    unfold readF at h
    split at h
    · rename_i hlt
      split at h
      · cases h
      · simp only [Option.some.injEq, Prod.mk.injEq] at h
        obtain ⟨rfl, rfl⟩ := h
        refine ⟨?_, ?_⟩
        · rw [numF_small hlt]; simp
        · rw [Nat.pow_succ]; have : 0 < 128 ^ f := Nat.pow_pos (by omega); omega
    · rename_i hge
      rcases hq : readF f false l with _ | ⟨m, r'⟩
      · rw [hq] at h; cases h
      · rw [hq] at h
        simp only [Option.some.injEq, Prod.mk.injEq] at h
        obtain ⟨rfl, rfl⟩ := h
        obtain ⟨h1, h2⟩ := readF_num f false l m r' hq
        have h3 := readF_pos f l m r' hq
        refine ⟨?_, ?_⟩
        · rw [numF_more (by omega), List.cons_append]
          rw [show (c.toNat - 128 + 128 * m) / 128 = m by omega, show 128 + (c.toNat - 128 + 128 * m) % 128 = c.toNat by omega, ← h1]
          simp
        · rw [Nat.pow_succ]; omega
theorem numF_fuel : ∀ (f g n : Nat), 0 < f → f ≤ g → n < 128 ^ f → numF g n = numF f n
  | 0, _, _, h, _, _ => by omega
  | f + 1, 0, _, _, h, _ => by omega
  | f + 1, g + 1, n, _, h, hn => by
    by_cases hs : n < 128
    · rw [numF_small hs, numF_small hs]
    · rw [numF_more (by omega), numF_more (by omega)]
      rw [Nat.pow_succ] at hn
      have hf : 0 < f := by
        rcases Nat.eq_zero_or_pos f with h0 | h0
        · subst h0; simp at hn; omega
        · exact h0
      rw [numF_fuel f g (n / 128) hf (by omega) (Nat.div_lt_of_lt_mul (by omega))]
theorem readNum_num {l : List UInt8} {n : Nat} {r : List UInt8} (h : readNum l = some (n, r)) : l = num n ++ r := by
  obtain ⟨h1, h2⟩ := readF_num 9 true l n r h
  rw [h1, num, numF_fuel 9 10 n (by omega) (by omega) h2]
theorem readTx_text {l t r : List UInt8} (h : readTx l = some (t, r)) : l = text t ++ r := by
  unfold readTx at h
  rcases hq : readNum l with _ | ⟨n, q⟩
  · rw [hq] at h; cases h
  · rw [hq] at h
    simp only at h
    split at h
    · rename_i hle
      simp only [Option.some.injEq, Prod.mk.injEq] at h
      obtain ⟨rfl, rfl⟩ := h
      rw [readNum_num hq, text, List.length_take, Nat.min_eq_left hle, List.append_assoc, List.take_append_drop]
    · cases h
theorem letterOf_kind {c : UInt8} (h : 1 ≤ letterKind c) : letterOf (letterKind c) = c := by
  rw [letterKind_eq] at h ⊢
  split at h
  · rename_i hc; rw [if_pos hc]; subst hc; decide
  · rename_i h1
    rw [if_neg h1]
    split at h
    · rename_i hc; rw [if_pos hc]; subst hc; decide
    · rename_i h2
      rw [if_neg h2]
      split at h
      · rename_i hc; rw [if_pos hc]; subst hc; decide
      · omega
theorem mk_toList (l : List UInt8) : (⟨l.toArray⟩ : ByteArray).toList = l := by rw [ByteArray.toList_eq]
/- what OneWay says of what was read -/
def OneWayB (v : Int) (s : List UInt8) (e : Ev) : Prop :=
  if v = 1 ∧ e.task.toList = [45] then (encB v e).2 = 2 ∧ ∃ c, s = c :: 0 :: e.body.toList
  else encB v e = (s, 0)
theorem dash_goes {e : Ev} (h : e.task.toList = [45]) : goesB 1 e = false := by
  simp [goesB, fitsB, dashB, h]
theorem rd_oneWay {v : Int} {s : List UInt8} (hv : isVer v = true) (h : (rdB v s).2 = true) : OneWayB v s (rdB v s).1 := by
  by_cases h1 : v = 1
  · subst h1
    rw [rdB, if_pos rfl] at h ⊢
    match s, h with
    | [], h => simp [rdLetter] at h
    | c :: r, h =>
      rcases hq : readTx r with _ | ⟨t, b⟩
      · simp [rdLetter, hq] at h
      · have htx := readTx_text hq
        by_cases ht : t = []
        · simp only [rdLetter, hq, if_pos ht] at h ⊢
          have hd : (⟨#[45]⟩ : ByteArray).toList = [45] := by rw [ByteArray.toList_eq]
          rw [OneWayB, if_pos ⟨rfl, hd⟩]
          refine ⟨?_, c, ?_⟩
          · rw [encB, if_neg (by simp [hv]), if_pos (dash_goes hd)]
          · rw [htx, ht]
            show c :: (text [] ++ b) = c :: 0 :: (⟨b.toArray⟩ : ByteArray).toList
            rw [mk_toList]; rfl
        · simp only [rdLetter, hq, if_neg ht] at h ⊢
          have hg := goes_one h
          have hk := is_known (goes_is h)
          have hnd : ¬ (⟨t.toArray⟩ : ByteArray).toList = [45] := by
            have := hg.2.2.2
            simpa [dashB] using this
          rw [OneWayB, if_neg (by rintro ⟨_, h2⟩; exact hnd h2)]
          rw [encB, if_neg (by simp [hv]), if_neg (by simp [h]), if_pos rfl, letterB]
          simp only
          rw [letterOf_kind hk.k1, htx]
          rfl
  · rw [rdB, if_neg h1] at h ⊢
    simp only [okOf, Bool.and_eq_true, decide_eq_true_eq, beq_iff_eq] at h
    rw [OneWayB, if_neg (by rintro ⟨h2, _⟩; exact h1 h2)]
    exact Prod.ext h.2 h.1
theorem first_two : encB 2 ⟨4, ⟨#[45]⟩, 0, ⟨#[]⟩, []⟩ = ([1, 3, 2, 1, 45], 0) := by decide +kernel
theorem pick_neg {c n : Int} (h0 : -9223372036854775808 ≤ c) (hc : c < 0) (hn : 0 < n) : 0 ≤ (wrap64 (-wrap64 (c + 1))).tmod n ∧ (wrap64 (-wrap64 (c + 1))).tmod n < n := by
  have e1 : wrap64 (c + 1) = c + 1 := by unfold wrap64; omega
  have e2 : wrap64 (-(c + 1)) = -(c + 1) := by unfold wrap64; omega
  rw [e1, e2]
  exact ⟨Int.tmod_nonneg _ (by omega), Int.tmod_lt_of_pos _ hn⟩
end Chron
namespace Go.Proofs.YtdjllnhahhjgmaaDoor
open Go.RowKit Chron
def rdVal : Option (Nat × List UInt8) → Value
  | none => .tuple #[.int .i64 0, .string ⟨#[]⟩, .bool false]
  | some (n, r) => .tuple #[.int .i64 n, .string ⟨r.toArray⟩, .bool true]
theorem ret_some {l : List UInt8} {n : Nat} {r : List UInt8} {x : Int} {y : ByteArray} (h : readNum l = some (n, r)) (hx : x = (n : Int)) (hy : y = ⟨r.toArray⟩) :
    Ending.returned (.tuple #[.int .i64 x, .string y, .bool true]) = .returned (rdVal (readNum l)) := by rw [h, hx, hy]; rfl
theorem ret_none {l : List UInt8} (h : readNum l = none) :
    Ending.returned (.tuple #[.int .i64 0, .string ⟨#[]⟩, .bool false]) = .returned (rdVal (readNum l)) := by rw [h]; rfl
/- a text within bytes, and what is behind it -/
def txVal : Option (List UInt8 × List UInt8) → Value
  | none => .tuple #[.string ⟨#[]⟩, .string ⟨#[]⟩, .bool false]
  | some (t, r) => .tuple #[.string ⟨t.toArray⟩, .string ⟨r.toArray⟩, .bool true]
theorem ret_tx {l : List UInt8} {t r : List UInt8} {x y : ByteArray} (h : readTx l = some (t, r)) (hx : x = ⟨t.toArray⟩) (hy : y = ⟨r.toArray⟩) :
    Ending.returned (.tuple #[.string x, .string y, .bool true]) = .returned (txVal (readTx l)) := by rw [h, hx, hy]; rfl
end Go.Proofs.YtdjllnhahhjgmaaDoor
namespace Go.Proofs.YtdjllnhahhjgmaaDoor
open Go.RowKit Chron
def Held (p : Nat) (r : List UInt8) (w w' : World) : Prop := w'.cell? ⟨p, 0, none⟩ = some (.string ⟨r.toArray⟩) ∧ w'.frozen? ⟨p, 0, none⟩ = false ∧ w.grownBy w' (some p)
theorem held_store {p : Nat} {r : List UInt8} {w w1 : World} {x : Value} (hb : Below w.heap.size w w1) (hk : w1.cell? ⟨p, 0, none⟩ = some x) (hkf : w1.frozen? ⟨p, 0, none⟩ = false) :
    Held p r w (w1.setCell ⟨p, 0, none⟩ (.string ⟨r.toArray⟩)) := by
  refine ⟨World.cell?_setCell_same _ _ _ hk, by rw [World.frozen?_setCell]; exact hkf, hb.os, hb.tape, hb.output, by simpa [World.setCell] using hb.size, fun k hk hne => ?_⟩
  rw [Below.heap_setCell _ _ _ _ (fun e => hne (by simp [e]))]
  exact hb.block k hk
theorem rdVal_eq (l : List UInt8) : rdVal (readNum l) = .tuple #[.int .i64 (numOf l), .string ⟨(numRest l).toArray⟩, .bool (readNum l).isSome] := by
  unfold numOf numRest; rcases readNum l with _ | ⟨n, r⟩ <;> rfl
theorem txVal_eq (l : List UInt8) : txVal (readTx l) = .tuple #[.string ⟨(txOf l).toArray⟩, .string ⟨(txRest l).toArray⟩, .bool (readTx l).isSome] := by
  unfold txOf txRest; rcases readTx l with _ | ⟨n, r⟩ <;> rfl
theorem below_of_drewN {w : World} (n : Nat) : Below w.heap.size w (w.drewN n) := below_drewN (Below.refl _ _) n
end Go.Proofs.YtdjllnhahhjgmaaDoor
namespace Go.Proofs.YtdjllnhahhjgmaaDoor
open Go.RowKit Chron
structure Fld (N : Nat) (w wx : World) (s : List UInt8) (k : Int) (t : ByteArray) (m : Int) (b : ByteArray) (v : Value) : Prop where
  f0 : wx.cell? ⟨N + 2, 0, none⟩ = some (.string ⟨s.toArray⟩)
  ff : wx.frozen? ⟨N + 2, 0, none⟩ = false
  c0 : wx.cell? ⟨N + 1, 0, none⟩ = some (.int .i64 k)
  c1 : wx.cell? ⟨N + 1, 1, none⟩ = some (.string t)
  c2 : wx.cell? ⟨N + 1, 2, none⟩ = some (.int .i64 m)
  c3 : wx.cell? ⟨N + 1, 3, none⟩ = some (.string b)
  c4 : wx.cell? ⟨N + 1, 4, none⟩ = some v
  z1 : ∀ o, wx.frozen? ⟨N + 1, o, none⟩ = false
  bel : Below N w wx
  big : N + 3 ≤ wx.heap.size
  res : wx.heap[N]? = some (.cells #[.int .i64 0, .string ⟨#[]⟩, .int .i64 0, .string ⟨#[]⟩, .slice none 0 0] 39)
theorem Fld.held {N : Nat} {w wx wy : World} {s r : List UInt8} {k : Int} {t : ByteArray} {m : Int} {b : ByteArray} {v : Value} (h : Fld N w wx s k t m b v) (hh : Held (N + 2) r wx wy) : Fld N w wy r k t m b v := by
  obtain ⟨h1, h2, hg⟩ := hh
  have hbig := h.big
  have hblk : ∀ q, q ≤ N + 1 → wy.heap[q]? = wx.heap[q]? := fun q hq => hg.block q (by omega) (fun e => by simp only [Option.some.injEq] at e; omega)
  have hc : ∀ q o, q ≤ N + 1 → wy.cell? ⟨q, o, none⟩ = wx.cell? ⟨q, o, none⟩ := fun q o hq => World.cell?_of_block (hblk q hq)
  have hz : ∀ q o, q ≤ N + 1 → wy.frozen? ⟨q, o, none⟩ = wx.frozen? ⟨q, o, none⟩ := fun q o hq => World.frozen?_of_block (hblk q hq)
  exact ⟨h1, h2, (hc _ _ (by omega)).trans h.c0, (hc _ _ (by omega)).trans h.c1, (hc _ _ (by omega)).trans h.c2, (hc _ _ (by omega)).trans h.c3, (hc _ _ (by omega)).trans h.c4,
    fun o => (hz _ o (by omega)).trans (h.z1 o), h.bel.trans ⟨hg.os, hg.tape, hg.output, hg.size, fun q hq => hblk q (by omega)⟩, Nat.le_trans hbig hg.size, (hblk N (by omega)).trans h.res⟩
theorem Fld.put {N : Nat} {w wx : World} {s : List UInt8} {k : Int} {t : ByteArray} {m : Int} {b : ByteArray} {v : Value} (h : Fld N w wx s k t m b v) :
    (∀ k', Fld N w (wx.setCell ⟨N + 1, 0, none⟩ (.int .i64 k')) s k' t m b v) ∧ (∀ t', Fld N w (wx.setCell ⟨N + 1, 1, none⟩ (.string t')) s k t' m b v) ∧
    (∀ m', Fld N w (wx.setCell ⟨N + 1, 2, none⟩ (.int .i64 m')) s k t m' b v) ∧ (∀ b', Fld N w (wx.setCell ⟨N + 1, 3, none⟩ (.string b')) s k t m b' v) ∧ (∀ v', Fld N w (wx.setCell ⟨N + 1, 4, none⟩ v') s k t m b v') := by
  obtain ⟨f0, ff, c0, c1, c2, c3, c4, z1, bel, big, res⟩ := h
  refine ⟨fun x => ?_, fun x => ?_, fun x => ?_, fun x => ?_, fun x => ?_⟩
  all_goals
    constructor
    all_goals first
      | (go_simp; done)
      | (intro o; rw [World.frozen?_setCell]; exact z1 o)
      | exact bel.setCell (by simp) _
      | (rw [Below.heap_setCell _ _ _ _ (by simp)]; exact res)
      | (simp [World.setCell]; exact big)
      | (rw [World.frozen?_setCell]; exact ff)

theorem Fld.drew {N : Nat} {w wx : World} {s : List UInt8} {k : Int} {t : ByteArray} {m : Int} {b : ByteArray} {v : Value} (h : Fld N w wx s k t m b v) : Fld N w wx.drew s k t m b v :=
  ⟨h.f0, h.ff, h.c0, h.c1, h.c2, h.c3, h.c4, h.z1, h.bel.drew, h.big, h.res⟩
theorem Fld.grown {N : Nat} {w wx wy : World} {s : List UInt8} {k : Int} {t : ByteArray} {m : Int} {b : ByteArray} {v : Value} {row : Option Nat} (h : Fld N w wx s k t m b v) (hg : wx.grownBy wy row) (hr : ∀ q, row = some q → N + 3 ≤ q) : Fld N w wy s k t m b v := by
  have hbig := h.big
  have hblk : ∀ q, q ≤ N + 2 → wy.heap[q]? = wx.heap[q]? := fun q hq => hg.block q (by omega) (fun e => by have := hr q e.symm; omega)
  have hc : ∀ q o, q ≤ N + 2 → wy.cell? ⟨q, o, none⟩ = wx.cell? ⟨q, o, none⟩ := fun q o hq => World.cell?_of_block (hblk q hq)
  have hz : ∀ q o, q ≤ N + 2 → wy.frozen? ⟨q, o, none⟩ = wx.frozen? ⟨q, o, none⟩ := fun q o hq => World.frozen?_of_block (hblk q hq)
  exact ⟨(hc _ _ (by omega)).trans h.f0, (hz _ _ (by omega)).trans h.ff, (hc _ _ (by omega)).trans h.c0, (hc _ _ (by omega)).trans h.c1, (hc _ _ (by omega)).trans h.c2, (hc _ _ (by omega)).trans h.c3, (hc _ _ (by omega)).trans h.c4,
    fun o => (hz _ o (by omega)).trans (h.z1 o), h.bel.trans ⟨hg.os, hg.tape, hg.output, hg.size, fun q hq => hblk q (by omega)⟩, Nat.le_trans hbig hg.size, (hblk N (by omega)).trans h.res⟩
theorem Fld.alloc {N : Nat} {w wx : World} {s : List UInt8} {k : Int} {t : ByteArray} {m : Int} {b : ByteArray} {v : Value} (h : Fld N w wx s k t m b v) (o : Obj) : Fld N w (wx.alloc o) s k t m b v :=
  h.grown (World.grownBy_alloc wx o none) (fun q hq => by cases hq)
theorem own_kept {w w' : World} {base : Nat} {e : TypeId} {size : Nat} {v : Value} {n : Nat} {xs : List Value} {p : Nat} (h : w.ownsRow base e size v n xs) (hg : w.grownBy w' (some p)) (hp : p < base) : w'.ownsRow base e size v n xs := by
  refine h.kept hg ?_
  cases hv : v.ownBlock with
  | none => exact .inl rfl
  | some k => exact .inr (fun e => by have := (h.lt k hv).1; simp only [Option.some.injEq] at e; omega)
theorem res_cells {w : World} {N : Nat} {a b c d e : Value} {t : TypeId} (h : w.heap[N]? = some (.cells #[a, b, c, d, e] t)) :
    w.cell? ⟨N, 0, none⟩ = some a ∧ w.cell? ⟨N, 1, none⟩ = some b ∧ w.cell? ⟨N, 2, none⟩ = some c ∧ w.cell? ⟨N, 3, none⟩ = some d ∧ w.cell? ⟨N, 4, none⟩ = some e ∧ ∀ o, w.frozen? ⟨N, o, none⟩ = false := by
  simp [World.cell?, World.frozen?, h]
theorem one_string (x : ByteArray) : ∀ u ∈ [Value.string x], u.oneCell' = true := fun u hu => by simp at hu; subst hu; rfl
theorem own_mono {w : World} {base base' : Nat} {e : TypeId} {size : Nat} {v : Value} {n : Nat} {xs : List Value} (h : w.ownsRow base e size v n xs) (hb : base' ≤ base) : w.ownsRow base' e size v n xs := by
  obtain ⟨h1, h2 | ⟨g, cap, cur, a1, a2, a3⟩⟩ := h
  · exact ⟨h1, .inl h2⟩
  · exact ⟨h1, .inr ⟨g, cap, cur, a1, Nat.le_trans hb a2, a3⟩⟩
def lenAt (q : Nat) (w : World) : Nat := match w.cell? ⟨q, 4, none⟩ with | some (.slice _ n _) => n | _ => 0
theorem lenAt_of {q n cap : Nat} {a : Option Addr} {w : World} (h : w.cell? ⟨q, 4, none⟩ = some (.slice a n cap)) : lenAt q w = n := by simp [lenAt, h]
theorem infoString : (Tryd.prog.info? 9).map (fun i => (i.zero, i.size, i.bytes)) = some (some (.string ⟨#[]⟩), 1, 16) := by kernel_rfl
end Go.Proofs.YtdjllnhahhjgmaaDoor
namespace Go.Proofs.YtdjllnhahhjgmaaDoor
open Go.RowKit Chron
def evVal (e : Ev) (x : Value) : Value := .agg #[.int .i64 e.kind, .string e.task, .int .i64 e.time, .string e.body, x]
theorem below_set5 {B N : Nat} {a w : World} {x0 x1 x2 x3 x4 : Value} (h : Below B a w) (hN : B ≤ N) : Below B a (((((w.setCell ⟨N, 0, none⟩ x0).setCell ⟨N, 1, none⟩ x1).setCell ⟨N, 2, none⟩ x2).setCell ⟨N, 3, none⟩ x3).setCell ⟨N, 4, none⟩ x4) :=
  ((((h.setCell hN _).setCell hN _).setCell hN _).setCell hN _).setCell hN _
theorem new_cells (w : World) (nq : Nat) (Z : Obj) (a b c d e : Value) (t : TypeId) :
    (((w.alloc Z).drewN nq).alloc (.cells #[a, b, c, d, e] t)).cell? ⟨w.heap.size + 1, 0, none⟩ = some a ∧ (((w.alloc Z).drewN nq).alloc (.cells #[a, b, c, d, e] t)).cell? ⟨w.heap.size + 1, 1, none⟩ = some b ∧ (((w.alloc Z).drewN nq).alloc (.cells #[a, b, c, d, e] t)).cell? ⟨w.heap.size + 1, 2, none⟩ = some c ∧ (((w.alloc Z).drewN nq).alloc (.cells #[a, b, c, d, e] t)).cell? ⟨w.heap.size + 1, 3, none⟩ = some d ∧ (((w.alloc Z).drewN nq).alloc (.cells #[a, b, c, d, e] t)).cell? ⟨w.heap.size + 1, 4, none⟩ = some e ∧ ∀ o, (((w.alloc Z).drewN nq).alloc (.cells #[a, b, c, d, e] t)).frozen? ⟨w.heap.size + 1, o, none⟩ = false := by
  have h := heap_alloc_new ((w.alloc Z).drewN nq) (.cells #[a, b, c, d, e] t)
  rw [show ((w.alloc Z).drewN nq).heap.size = w.heap.size + 1 from World.size_alloc w Z] at h
  exact res_cells h
theorem old_block (w : World) (nq : Nat) (Z o : Obj) : (((w.alloc Z).drewN nq).alloc o).heap[w.heap.size]? = some Z := by
  rw [Below.heap_alloc _ _ _ (by show w.heap.size < (w.alloc Z).heap.size; simp)]
  exact heap_alloc_new w Z
theorem two_below (w : World) (nq : Nat) (Z o : Obj) : Below w.heap.size w (((w.alloc Z).drewN nq).alloc o) :=
  (below_drewN ((Below.refl _ _).alloc (Nat.le_refl _) _) nq).alloc (by show w.heap.size ≤ (w.alloc Z).heap.size; simp) _
theorem two_size (w : World) (nq : Nat) (Z o : Obj) : (((w.alloc Z).drewN nq).alloc o).heap.size = w.heap.size + 2 := by
  rw [World.size_alloc]; show (w.alloc Z).heap.size + 1 = _; simp
theorem two_lt (w : World) (nq : Nat) (Z o : Obj) : w.heap.size < (((w.alloc Z).drewN nq).alloc o).drew.heap.size := by
  show w.heap.size < (((w.alloc Z).drewN nq).alloc o).heap.size
  rw [two_size]; omega
theorem tags_none (w : World) : TagsAt w none [] := fun h => by simp at h
theorem short_none : Short [] := fun i h => by simp at h
end Go.Proofs.YtdjllnhahhjgmaaDoor
namespace Go.Proofs.YtdjllnhahhjgmaaDoor
open Go.RowKit Chron
theorem setCell_same_heap {w : World} {b o : Nat} {v : Value} (h : w.cell? ⟨b, o, none⟩ = some v) (k : Nat) : (w.setCell ⟨b, o, none⟩ v).heap[k]? = w.heap[k]? := by
  by_cases hk : k = b
  · subst hk
    simp only [World.cell?] at h
    simp only [World.setCell, Array.getElem?_modify, if_true]
    rcases hh : w.heap[k]? with _ | x
    · rfl
    · rw [hh] at h
      cases x with
      | cells c elem fr =>
        simp at h
        simp only [Option.map_some, Option.some.injEq, Obj.cells.injEq, and_true]
        show c.setIfInBounds o v = c
        apply Array.ext_getElem?
        intro i
        rw [Array.getElem?_setIfInBounds]
        split
        · rename_i hi
          subst hi
          split
          · exact h.symm
          · rename_i hn; rw [Array.getElem?_eq_none (by omega)] at h; cases h
        · rfl
      | _ => cases h
  · rw [Below.heap_setCell _ _ _ _ hk]
theorem below_same {B : Nat} {a w : World} {b o : Nat} {v : Value} (hB : Below B a w) (h : w.cell? ⟨b, o, none⟩ = some v) : Below B a (w.setCell ⟨b, o, none⟩ v) :=
  hB.trans ⟨rfl, rfl, rfl, by simp [World.setCell], fun k _ => setCell_same_heap h k⟩
structure Own (N : Nat) (w wx : World) (k : Int) (t : ByteArray) (m : Int) (b : ByteArray) (x : Value) : Prop where
  box : wx.heap[N]? = some (.cells #[.int .i64 k, .string t, .int .i64 m, .string b, x] 39)
  res : wx.heap[N + 1]? = some (.cells #[.int .i64 0, .string ⟨#[]⟩, .int .i64 0, .string ⟨#[]⟩, .slice none 0 0] 39)
  bel : Below N w wx
  big : N + 2 ≤ wx.heap.size
theorem Own.below {N : Nat} {w wx wy : World} {k : Int} {t : ByteArray} {m : Int} {b : ByteArray} {x : Value} (h : Own N w wx k t m b x) (hb : Below wx.heap.size wx wy) : Own N w wy k t m b x := by
  have hbig := h.big
  exact ⟨(hb.block N (by omega)).trans h.box, (hb.block (N + 1) (by omega)).trans h.res, h.bel.trans (hb.mono (by omega)), Nat.le_trans hbig hb.size⟩
theorem own_start (w : World) (k : Int) (t : ByteArray) (m : Int) (b : ByteArray) (x : Value) : Own w.heap.size w ((w.alloc (.cells #[.int .i64 k, .string t, .int .i64 m, .string b, x] 39)).alloc (.cells #[.int .i64 0, .string ⟨#[]⟩, .int .i64 0, .string ⟨#[]⟩, .slice none 0 0] 39)) k t m b x := by
  refine ⟨?_, ?_, ((Below.refl _ _).alloc (Nat.le_refl _) _).alloc (by simp) _, by simp⟩
  · rw [Below.heap_alloc _ _ _ (by simp), heap_alloc_new]
  · have := heap_alloc_new (w.alloc (.cells #[.int .i64 k, .string t, .int .i64 m, .string b, x] 39)) (.cells #[.int .i64 0, .string ⟨#[]⟩, .int .i64 0, .string ⟨#[]⟩, .slice none 0 0] 39)
    rw [World.size_alloc] at this; exact this
theorem Own.grown {N : Nat} {w wx wy : World} {k : Int} {t : ByteArray} {m : Int} {b : ByteArray} {x : Value} {row : Option Nat} (h : Own N w wx k t m b x) (hg : wx.grownBy wy row) (hr : ∀ q, row = some q → N + 2 ≤ q) : Own N w wy k t m b x := by
  have hbig := h.big
  have key : ∀ q, q < N + 2 → wy.heap[q]? = wx.heap[q]? := fun q hq => hg.block q (by omega) (fun e => by have := hr q e.symm; omega)
  exact ⟨(key N (by omega)).trans h.box, (key (N + 1) (by omega)).trans h.res, h.bel.trans ⟨hg.os, hg.tape, hg.output, hg.size, fun q hq => key q (by omega)⟩, Nat.le_trans hbig hg.size⟩
theorem own_below {w w' : World} {base : Nat} {e : TypeId} {size : Nat} {v : Value} {n : Nat} {xs : List Value} (h : w.ownsRow base e size v n xs) (hb : Below w.heap.size w w') : w'.ownsRow base e size v n xs :=
  h.kept (row := none) ⟨hb.os, hb.tape, hb.output, hb.size, fun k hk _ => hb.block k hk⟩ (Classical.em _)
theorem own_set5 {w : World} {base base' N : Nat} {e : TypeId} {size : Nat} {v : Value} {n : Nat} {xs : List Value} {x0 x1 x2 x3 x4 : Value} (h : w.ownsRow base e size v n xs) (hN : N < base) (hb : base' ≤ base) :
    (((((w.setCell ⟨N, 0, none⟩ x0).setCell ⟨N, 1, none⟩ x1).setCell ⟨N, 2, none⟩ x2).setCell ⟨N, 3, none⟩ x3).setCell ⟨N, 4, none⟩ x4).ownsRow base' e size v n xs :=
  own_mono (ownsRow_setCell_below (ownsRow_setCell_below (ownsRow_setCell_below (ownsRow_setCell_below (ownsRow_setCell_below h hN _) hN _) hN _) hN _) hN _) hb
theorem own_shape {w : World} {base sz n : Nat} {e : TypeId} {v : Value} {xs : List Value} (h : w.ownsRow base e sz v n xs) : ∃ a cap, v = .slice a n cap ∧ (0 < n → ∃ g, a = some ⟨g, 0, none⟩) := by
  rcases h.2 with ⟨h1, h2⟩ | ⟨g, cap, _, h1, _⟩
  · exact ⟨none, 0, by rw [h1, h2], fun h => by omega⟩
  · exact ⟨some ⟨g, 0, none⟩, cap, h1, fun _ => ⟨g, rfl⟩⟩
theorem snoc_strings (ts : List ByteArray) (k : Nat) (h : k < ts.length) : (ts.take (k + 1)).map Value.string = (ts.take k).map Value.string ++ [.string (ts[k]?.getD ByteArray.empty)] := by
  rw [List.take_add_one, List.map_append, List.getElem?_eq_getElem h]; rfl
end Go.Proofs.YtdjllnhahhjgmaaDoor
namespace Go.Proofs.YtdjllnhahhjgmaaDoor
open Go.RowKit Chron
theorem own_form {w : World} {B n : Nat} {x : Value} {ts : List ByteArray} (h : w.ownsRow B 9 1 x n (ts.map Value.string)) :
    ∃ a cap, x = .slice a ts.length cap ∧ TagsAt w a ts ∧ (∀ q off, a = some ⟨q, off, none⟩ → B ≤ q ∧ q < w.heap.size ∧ ∀ o, w.frozen? ⟨q, o, none⟩ = false) := by
  obtain ⟨hl, h2⟩ := h
  have hn : n = ts.length := by simpa using hl.symm
  subst hn
  rcases h2 with ⟨rfl, h0⟩ | ⟨g, cap, cur, rfl, hb, hg, h3, h4, h5, h6⟩
  · refine ⟨none, 0, by rw [h0], ?_, fun q off e => by cases e⟩
    intro h1; omega
  · refine ⟨some ⟨g, 0, none⟩, cap, rfl, ?_, ?_⟩
    · intro _
      refine ⟨g, 0, rfl, fun i hi => ?_⟩
      have hi2 : (cur.toList.take (ts.length * 1))[i]? = (ts.map Value.string)[i]? := by rw [h6]
      rw [List.getElem?_take, if_pos (by omega)] at hi2
      simp only [World.cell?, hg]
      rw [List.getElem?_map, List.getElem?_eq_getElem hi] at hi2
      simp only [Option.map_some, Array.getElem?_toList] at hi2
      simp [hi2, hi]
    · intro q off e
      simp only [Option.some.injEq, Addr.mk.injEq] at e
      obtain ⟨rfl, _⟩ := e
      exact ⟨hb, (Array.getElem?_eq_some_iff.1 hg).1, fun o => by simp [World.frozen?, hg]⟩
theorem alloc_cells {w : World} {N : Nat} {a b c d e : Value} {t : TypeId} (h : w.heap[N]? = some (.cells #[a, b, c, d, e] t)) :
    (∀ o, (w.alloc o).cell? ⟨N, 0, none⟩ = some a) ∧ (∀ o, (w.alloc o).cell? ⟨N, 1, none⟩ = some b) ∧ (∀ o, (w.alloc o).cell? ⟨N, 2, none⟩ = some c) ∧ (∀ o, (w.alloc o).cell? ⟨N, 3, none⟩ = some d) ∧ (∀ o, (w.alloc o).cell? ⟨N, 4, none⟩ = some e) ∧ ∀ o x, (w.alloc o).frozen? ⟨N, x, none⟩ = false := by
  have hlt := (Array.getElem?_eq_some_iff.1 h).1
  have hh : ∀ o, (w.alloc o).heap[N]? = some (.cells #[a, b, c, d, e] t) := fun o => (Below.heap_alloc _ _ _ hlt).trans h
  exact ⟨fun o => (res_cells (hh o)).1, fun o => (res_cells (hh o)).2.1, fun o => (res_cells (hh o)).2.2.1, fun o => (res_cells (hh o)).2.2.2.1, fun o => (res_cells (hh o)).2.2.2.2.1, fun o => (res_cells (hh o)).2.2.2.2.2⟩
theorem short_of {e : Ev} {n : Nat} (h : Fits e n) (hn : n ≤ maxLen) : Short e.tags := by
  intro i hi
  rw [List.getElem?_eq_getElem hi]
  exact Nat.le_trans (h.tags _ (List.getElem_mem hi)) hn
end Go.Proofs.YtdjllnhahhjgmaaDoor
namespace Go.Proofs.YtdjllnhahhjgmaaDoor
open Go.RowKit Chron
end Go.Proofs.YtdjllnhahhjgmaaDoor
namespace Chron
open Go Go.RowKit
theorem readF_of : ∀ (f : Nat) (b : Bool) (n : Nat) (r : List UInt8), 0 < f → n < 128 ^ f → (b = true ∨ 1 ≤ n) → readF f b (numF f n ++ r) = some (n, r)
  | 0, _, _, _, h, _, _ => by omega
  | f + 1, b, n, r, _, hn, hb => by
    by_cases hs : n < 128
    · rw [numF_small hs]
      have e : (UInt8.ofNat n).toNat = n := by simp; omega
      simp only [List.cons_append, List.nil_append, readF, e]
      rw [if_pos hs, if_neg]
      rintro ⟨h0, hf⟩
      rcases hb with hb | hb
      · rw [hb] at hf; cases hf
      · omega
    · rw [numF_more (by omega)]
      have e : (UInt8.ofNat (128 + n % 128)).toNat = 128 + n % 128 := by simp; omega
      rw [Nat.pow_succ] at hn
      have hf : 0 < f := by
        rcases Nat.eq_zero_or_pos f with h0 | h0
        · subst h0; simp at hn; omega
        · exact h0
      simp only [List.cons_append, readF, e]
      rw [if_neg (by omega), readF_of f false (n / 128) r hf (Nat.div_lt_of_lt_mul (by omega)) (Or.inr (by omega))]
      simp only [Option.some.injEq, Prod.mk.injEq, and_true]
      omega
theorem readNum_of {n : Nat} (hn : n < 128 ^ 9) (r : List UInt8) : readNum (num n ++ r) = some (n, r) := by
  rw [num, numF_fuel 9 10 n (by omega) (by omega) hn]
  exact readF_of 9 true n r (by omega) hn (Or.inl rfl)
theorem readTx_of {t : List UInt8} (ht : t.length ≤ 60) (r : List UInt8) : readTx (text t ++ r) = some (t, r) := by
  rw [readTx, text, List.append_assoc, readNum_of (by omega)]
  simp only
  rw [if_pos (by simp)]
  simp
theorem num_tag {tag : Nat} (h : tag ≤ 5) : num tag = [UInt8.ofNat tag] := by rw [num, numF_small (by omega)]
theorem hp_yes {tag : Nat} (r : List UInt8) : hp tag (num tag ++ r) = true ∧ nx tag (num tag ++ r) = r := by
  have h1 : Lib.hasPrefix (num tag ++ r) (num tag) = true := by
    rw [Lib.hasPrefix, List.isPrefixOf_iff_prefix]; exact List.prefix_append _ _
  refine ⟨h1, ?_⟩
  rw [nx, Lib.trimPrefix, if_pos h1]; simp
theorem hp_no {tag : Nat} {s : List UInt8} (h : hp tag s = false) : nx tag s = s := by
  rw [nx, Lib.trimPrefix, if_neg]; rw [hp] at h; simp [h]
theorem hp_other {tag other : Nat} (h1 : tag ≤ 5) (h2 : other ≤ 5) (hne : tag ≠ other) (r : List UInt8) : hp tag (num other ++ r) = false := by
  rw [hp, Lib.hasPrefix, num_tag h1, num_tag h2]
  have : UInt8.ofNat tag ≠ UInt8.ofNat other := by
    intro h
    have := congrArg UInt8.toNat h
    simp at this
    omega
  show ((UInt8.ofNat tag == UInt8.ofNat other) && _) = false
  rw [beq_false_of_ne this]; rfl
theorem hp_nil {tag : Nat} (h1 : tag ≤ 5) : hp tag [] = false := by rw [hp, Lib.hasPrefix, num_tag h1]; rfl
theorem tagsF_of : ∀ (f : Nat) (ts : List ByteArray), ts.length ≤ f → Lines ts → tagsF f (tagParts ts) = ts
  | 0, ts, h, _ => by
    have : ts = [] := List.length_eq_zero_iff.1 (by omega)
    subst this; rfl
  | f + 1, [], _, _ => by
    rw [tagsF, if_neg]; rw [show tagParts [] = [] from rfl, hp_nil (by omega)]; simp
  | f + 1, t :: ts, h, hl => by
    have ht : t.data.toList.length ≤ 60 := by have := hl t (by simp); simpa using this
    have e : tagParts (t :: ts) = num 5 ++ (text t.data.toList ++ tagParts ts) := by simp [tagParts, tagPart]
    have ih := tagsF_of f ts (by simpa using h) (fun x hx => hl x (by simp [hx]))
    rw [tagsF, e, if_pos (hp_yes _).1, (hp_yes _).2, txOf, txRest, readTx_of ht]
    simp only
    rw [ih]
/- what lies behind the time, the body, and the tags -/
theorem noTime {ts : List ByteArray} {b : ByteArray} : hp 3 (bodyPart b ++ tagParts ts) = false := by
  unfold bodyPart
  split
  · cases ts with
    | nil => exact hp_nil (by omega)
    | cons t ts => rw [List.nil_append, show tagParts (t :: ts) = num 5 ++ (text t.data.toList ++ tagParts ts) by simp [tagParts, tagPart]]; exact hp_other (by omega) (by omega) (by omega) _
  · rw [List.append_assoc]; exact hp_other (by omega) (by omega) (by omega) _
theorem noBody {ts : List ByteArray} : hp 4 (tagParts ts) = false := by
  cases ts with
  | nil => exact hp_nil (by omega)
  | cons t ts => rw [show tagParts (t :: ts) = num 5 ++ (text t.data.toList ++ tagParts ts) by simp [tagParts, tagPart]]; exact hp_other (by omega) (by omega) (by omega) _
theorem mk_data (s : ByteArray) : (⟨s.data.toList.toArray⟩ : ByteArray) = s := rfl
theorem time_of {m : Int} {r : List UInt8} (h0 : 0 ≤ m) (h1 : m ≤ 1125899906842624) (hr : hp 3 r = false) : timeOf (timePart m ++ r) = m ∧ behindNum 3 (timePart m ++ r) = r := by
  by_cases hm : m = 0
  · rw [timePart, if_pos hm, List.nil_append, timeOf, behindNum, if_neg (by simp [hr]), if_neg (by simp [hr]), hp_no hr]; exact ⟨hm.symm, rfl⟩
  · rw [timePart, if_neg hm, List.append_assoc, timeOf, behindNum, if_pos (hp_yes _).1, if_pos (hp_yes _).1, (hp_yes _).2, numOf, numRest, readNum_of (time_small h1)]
    exact ⟨by simp only; omega, rfl⟩
theorem body_of {b : ByteArray} {r : List UInt8} (hb : b.size ≤ 60) (hr : hp 4 r = false) : textOf 4 (bodyPart b ++ r) = b ∧ behindText 4 (bodyPart b ++ r) = r := by
  by_cases hm : b.toList = []
  · rw [bodyPart, if_pos hm, List.nil_append, textOf, behindText, if_neg (by simp [hr]), if_neg (by simp [hr]), hp_no hr]
    refine ⟨?_, rfl⟩
    apply bytes_inj; rw [ByteArray.toList_eq] at hm; rw [hm]
  · rw [bodyPart, if_neg hm, List.append_assoc, textOf, behindText, if_pos (hp_yes _).1, if_pos (hp_yes _).1, (hp_yes _).2, txOf, txRest, readTx_of (by simpa using hb)]
    exact ⟨rfl, rfl⟩
theorem rdFields_of {v : Int} {e : Ev} (hk : Known e) : rdFields v (fieldsB v e) = e := by
  obtain ⟨k, t, m, b, ts⟩ := e
  obtain ⟨h1, h4, ht, _, h0, hm, hb, hf, hl⟩ := hk
  simp only at h1 h4 ht h0 hm hb hf hl
  have hsh := shift_bd v
  have e1 : fieldsB v ⟨k, t, m, b, ts⟩ = num 1 ++ (num (k - shift v).toNat ++ (num 2 ++ (text t.data.toList ++ (timePart m ++ (bodyPart b ++ tagParts ts))))) := by
    simp [fieldsB, front, List.append_assoc]
  have a1 : behindNum 1 (fieldsB v ⟨k, t, m, b, ts⟩) = num 2 ++ (text t.data.toList ++ (timePart m ++ (bodyPart b ++ tagParts ts))) := by
    rw [e1, behindNum, if_pos (hp_yes _).1, (hp_yes _).2, numRest, readNum_of (by omega)]
  have a2 : kindOf v (fieldsB v ⟨k, t, m, b, ts⟩) = k := by
    rw [e1, kindOf, if_pos (hp_yes _).1, (hp_yes _).2, numOf, readNum_of (by omega)]
    simp only
    rw [wrap_small (by omega) (by omega)]; omega
  have a3 : textOf 2 (num 2 ++ (text t.data.toList ++ (timePart m ++ (bodyPart b ++ tagParts ts)))) = t ∧ behindText 2 (num 2 ++ (text t.data.toList ++ (timePart m ++ (bodyPart b ++ tagParts ts)))) = timePart m ++ (bodyPart b ++ tagParts ts) := by
    rw [textOf, behindText, if_pos (hp_yes _).1, if_pos (hp_yes _).1, (hp_yes _).2, txOf, txRest, readTx_of (by simpa using ht)]
    exact ⟨rfl, rfl⟩
  have a4 := time_of (r := bodyPart b ++ tagParts ts) h0 hm noTime
  have a5 := body_of (r := tagParts ts) hb noBody
  have a6 := tagsF_of 4 ts hf hl
  simp only [rdFields]
  rw [a2, a1, a3.1, a3.2, a4.1, a4.2, a5.1, a5.2, a6]
theorem letterKind_of {k : Int} (h1 : 1 ≤ k) (h3 : k ≤ 4) (h4 : ¬ k = 4) : letterKind (letterOf k) = k := by
  have : k = 1 ∨ k = 2 ∨ k = 3 := by omega
  rcases this with rfl | rfl | rfl <;> decide
theorem data_nil {s : ByteArray} (h : s.toList ≠ []) : ¬ s.data.toList = [] := by rw [ByteArray.toList_eq] at h; exact h
theorem rd_of {v : Int} {e : Ev} (h : goesB v e = true) : rdB v (encB v e).1 = (e, true) := by
  have hv := goes_ver h
  have hk := is_known (goes_is h)
  by_cases h1 : v = 1
  · subst h1
    have hg := goes_one h
    obtain ⟨k, t, m, b, ts⟩ := e
    have e1 : (encB 1 ⟨k, t, m, b, ts⟩).1 = letterOf k :: (text t.data.toList ++ b.data.toList) := by
      rw [encB, if_neg (by simp [hv]), if_neg (by simp [h]), if_pos rfl]; rfl
    have htx := readTx_of (t := t.data.toList) (by have := hk.task; simpa using this) b.data.toList
    have hts : ts = [] := List.length_eq_zero_iff.1 hg.2.2.1
    have hm : m = 0 := hg.2.1
    rw [e1, rdB, if_pos rfl]
    simp only [rdLetter, htx]
    rw [if_neg (data_nil hk.named), letterKind_of hk.k1 hk.k4 hg.1]
    subst hts hm
    exact Prod.ext rfl h
  · have e1 : encB v e = (fieldsB v e, 0) := by rw [encB, if_neg (by simp [hv]), if_neg (by simp [h]), if_neg h1]
    rw [rdB, if_neg h1, okOf, e1, rdFields_of hk, e1]
    simp
theorem dec_of {v : Int} {e : Ev} (h : goesB v e = true) : (encB v e).2 = 0 ∧ decB v (encB v e).1 = (e, 0) := by
  have hv := goes_ver h
  refine ⟨?_, ?_⟩
  · rw [encB, if_neg (by simp [hv]), if_neg (by simp [h])]; split <;> rfl
  · rw [decB, if_neg (by simp [hv]), rd_of h]; simp
theorem enc_pos {v : Int} {e : Ev} (h : goesB v e = true) : 0 < (encB v e).1.length := by
  have hv := goes_ver h
  rw [encB, if_neg (by simp [hv]), if_neg (by simp [h])]
  split
  · simp [letterB]
  · simp [fieldsB, front, num_tag]
/- with a byte less it is another event, or none -/
theorem dec_less {v : Int} {e : Ev} (h : goesB v e = true) (s : List UInt8) (hs : s.length < (encB v e).1.length) : (decB v s).1 ≠ e ∧ ((decB v s).2 = 3 ∨ (decB v s).2 = 0) := by
  have hv := goes_ver h
  have hk := is_known (goes_is h)
  by_cases hr : (rdB v s).2 = true
  · have hd : decB v s = ((rdB v s).1, 0) := by rw [decB, if_neg (by simp [hv]), if_neg (by simp [hr])]
    refine ⟨?_, Or.inr (by rw [hd])⟩
    rw [hd]
    intro he
    have ho := rd_oneWay hv hr
    simp only at he
    rw [he, OneWayB] at ho
    split at ho
    · rename_i hc
      obtain ⟨hc1, hc2⟩ := hc
      subst hc1
      rw [dash_goes hc2] at h; cases h
    · rw [ho] at hs; simp at hs
  · have hd : decB v s = (zeroEv, 3) := by rw [decB, if_neg (by simp [hv]), if_pos (by simpa using hr)]
    refine ⟨?_, Or.inl (by rw [hd])⟩
    rw [hd]
    intro he
    have := hk.k1
    rw [← he] at this
    simp [zeroEv] at this
end Chron
namespace Chron
open Go Go.RowKit
def lineN (s : ByteArray) (n : Nat) : Prop := s.size ≤ n ∧ s.data.toList.all byteOk = true
theorem lineN_line {s : ByteArray} {n : Nat} (h : lineN s n) (hn : n ≤ 60) : lineB s = true := by
  simp only [lineB, h.2, Bool.and_true, decide_eq_true_eq]; exact Nat.le_trans h.1 hn
def TagsI (acc : List ByteArray) : Prop := ∀ i, (h : i < acc.length) → ∃ r : List UInt8, acc[i].data.toList = UInt8.ofNat (97 + i) :: r ∧ r.length ≤ 20 ∧ r.all byteOk = true
theorem tagsI_push {acc : List ByteArray} {x : ByteArray} (h : TagsI acc) (hx : ∃ r : List UInt8, x.data.toList = UInt8.ofNat (97 + acc.length) :: r ∧ r.length ≤ 20 ∧ r.all byteOk = true) : TagsI (acc ++ [x]) := by
  intro i hi
  by_cases h1 : i < acc.length
  · rw [List.getElem_append_left h1]; exact h i h1
  · have : i = acc.length := by simp at hi; omega
    subst this
    rw [List.getElem_append_right (by omega)]
    simpa using hx
theorem tagsI_ok {acc : List ByteArray} (h : TagsI acc) (h4 : acc.length ≤ 4) : tagsB acc = true := by
  refine tags_all (k := acc.length) h4 (Nat.le_refl _) ?_
  intro j hj
  obtain ⟨r, h1, h2, h3⟩ := h j hj
  have e0 : acc[j]?.getD ByteArray.empty = acc[j] := by rw [List.getElem?_eq_getElem hj]; rfl
  have hb : byteOk (UInt8.ofNat (97 + j)) = true := by simp [byteOk]; omega
  have hname : nameB acc[j] = true := by
    rw [nameB, ByteArray.toList_eq, h1]
    have hsz : acc[j].size = r.length + 1 := by
      have : acc[j].data.toList.length = acc[j].size := by simp
      rw [← this, h1]; rfl
    simp only [List.isEmpty_cons, Bool.not_false, Bool.true_and, lineB, h1, List.all_cons, hb, h3, hsz, Bool.and_true, decide_eq_true_eq]
    omega
  rw [tagOk, e0, hname, Bool.true_and, Bool.or_eq_true]
  rcases Nat.eq_zero_or_pos j with hj0 | hj0
  · left; simp [hj0]
  · right
    obtain ⟨r', g1, _, _⟩ := h (j - 1) (by omega)
    have e1 : acc[j - 1]?.getD ByteArray.empty = acc[j - 1] := by rw [List.getElem?_eq_getElem (by omega)]; rfl
    rw [e1, ByteArray.toList_eq, ByteArray.toList_eq, h1, g1, Op.bytesLess]
    have : UInt8.ofNat (97 + (j - 1)) < UInt8.ofNat (97 + j) := by
      rw [UInt8.lt_iff_toNat_lt]; simp; omega
    simp only [this, decide_true, Bool.true_or]
theorem task_name {s : ByteArray} {n : Nat} (h : lineN s n) (hn : n ≤ 40) : nameB (⟨#[116]⟩ ++ s) = true ∧ dashB (⟨#[116]⟩ ++ s) = false := by
  have e : (⟨#[116]⟩ ++ s : ByteArray).data.toList = 116 :: s.data.toList := by obtain ⟨⟨s⟩⟩ := s; simp
  have hsz : (⟨#[116]⟩ ++ s : ByteArray).size = s.size + 1 := by
    rw [ByteArray.size_append]; show 1 + s.size = _; omega
  refine ⟨?_, ?_⟩
  · rw [nameB, ByteArray.toList_eq, e]
    have hb : byteOk 116 = true := by decide
    have hl : s.size + 1 ≤ 60 := by have := h.1; omega
    simp only [lineB, e, hsz, List.all_cons, hb, h.2]
    simp; omega
  · rw [dashB, ByteArray.toList_eq, e]; simp
theorem event_goes {v k : Int} {e : Ev} {s b : ByteArray} (hs : lineN s 40) (hb : lineN b 60) (ht : e.task = ⟨#[116]⟩ ++ s) (hbd : e.body = b) (h1 : 1 ≤ e.kind) (h4 : e.kind ≤ 4)
    (hm0 : 0 ≤ e.time) (hm1 : e.time < 1125899906842625) (htg : tagsB e.tags = true) (hv : 1 ≤ v) (hvk : v ≤ k) (hk : k ≤ 3) (hone : v = 1 → e.kind ≤ 3 ∧ e.time = 0) (htwo : v ≤ 2 → e.tags = []) : goesB k e = true := by
  have hn := task_name hs (Nat.le_refl _)
  have hl := lineN_line hb (Nat.le_refl _)
  have hi : isB e = true := by
    simp only [isB, Bool.and_eq_true, decide_eq_true_eq]
    rw [ht, hbd]
    exact ⟨h1, h4, hn.1, hm0, by omega, hl, htg⟩
  have hf : fitsB k e = true := by
    simp only [fitsB, Bool.and_eq_true, Bool.or_eq_true, Bool.not_eq_true', Bool.and_eq_false_iff, decide_eq_true_eq, decide_eq_false_iff_not]
    refine ⟨?_, ?_⟩
    · by_cases h : v ≤ 2
      · right; rw [htwo h]; simp
      · left; omega
    · by_cases h : 1 < k
      · exact Or.inl h
      · have hv1 : v = 1 := by omega
        have h3 := hone hv1
        exact Or.inr ⟨h3.2, by omega, by rw [ht]; exact hn.2⟩
  simp only [goesB, Bool.and_eq_true]
  exact ⟨by simp [isVer]; omega, hi, hf⟩
end Chron
namespace Go.Proofs.YtdjllnhahhjgmaaDoor
open Go.RowKit Chron
/- n ints lie behind an address -/
def IntsAt (w : World) (a : Option Addr) (n : Nat) : Prop :=
  ∀ i, i < n → ∃ b off z, a = some ⟨b, off, none⟩ ∧ w.cell? ⟨b, off + i, none⟩ = some (.int .i64 z) ∧ -9223372036854775808 ≤ z
theorem IntsAt.below {w w' : World} {a : Option Addr} {n B : Nat} (h : IntsAt w a n) (hb : Below B w w') (hB : w.heap.size ≤ B) : IntsAt w' a n := by
  intro i hi
  obtain ⟨b, off, z, rfl, hc, hz⟩ := h i hi
  have hlt := World.block_lt_of_cell? w _ hc
  exact ⟨b, off, z, rfl, (hb.cell (p := ⟨b, off + i, none⟩) (Nat.lt_of_lt_of_le hlt hB)).trans hc, hz⟩
theorem conv_one (x : Int) (h0 : 0 ≤ x) (h1 : x < 256) (w : World) :
    (convert 51 9 (.slice (some ⟨w.heap.size, 0, none⟩) 1 1)).run Tryd.prog (w.alloc (.cells #[.int .u8 x] 5)) = .ok (.string ⟨#[UInt8.ofNat x.toNat]⟩) (w.alloc (.cells #[.int .u8 x] 5)) := by
  refine run_convert_bytes_back (w.alloc (.cells #[.int .u8 x] 5)) _ _ 5 ⟨w.heap.size, 0, none⟩ 1 [UInt8.ofNat x.toNat] Tryd.underlying51 Tryd.underlying5 Tryd.underlying9 ?_
  intro j hj
  have hj0 : j = 0 := by simpa using hj
  subst hj0
  refine cell_one_new w (.int .u8 x) 5 0 _ ?_
  simp
  omega
theorem wrap64_lo (x : Int) : -9223372036854775808 ≤ wrap64 x := by unfold wrap64; omega
theorem line_push {s : ByteArray} {p : Int} (h : s.data.toList.all byteOk = true) (h0 : 0 ≤ p) (h1 : p < 95) : (s ++ ⟨#[UInt8.ofNat (32 + p).toNat]⟩).data.toList.all byteOk = true := by
  have e : (s ++ ⟨#[UInt8.ofNat (32 + p).toNat]⟩ : ByteArray).data.toList = s.data.toList ++ [UInt8.ofNat (32 + p).toNat] := by
    obtain ⟨⟨s⟩⟩ := s; simp
  rw [e, List.all_append, h]
  simp [byteOk]
  omega
end Go.Proofs.YtdjllnhahhjgmaaDoor
namespace Go.Proofs.YtdjllnhahhjgmaaDoor
open Go.RowKit Chron
set_option maxRecDepth 100000 in
set_option maxHeartbeats 400000 in
theorem lineOK_any (s : ByteArray) (w : World) (hs : s.size ≤ maxLen) :
    Calls Tryd.prog 22 #[.string s] w fun e w' => e = .returned (.bool (lineB s)) ∧ w' = w := by
  unfold maxLen at hs
  go_enter Tryd.func22, Tryd.ntmps22
  go_wp2
  go_loop [3] (fun i => ∃ k : Nat, k ≤ s.size ∧ i = .int .i64 k ∧ Hid ((s.data.toList.take k).all byteOk = true)) (fun i => s.size - (intOf i).toNat)
  case atStart => exact ⟨0, Nat.zero_le _, rfl, rfl⟩
  case round =>
    obtain ⟨k, hk, rfl, HA⟩ := hrel
    by_cases hlt : k < s.size
    · go_wp2
      · go_ret
        exact ⟨ret_bool (all_fails s k hlt (by assumption)).symm, rfl⟩
      · have hb : 32 ≤ (s[k].toNat : Int) ∧ (s[k].toNat : Int) ≤ 126 := by assumption
        go_round
        case rel => exact ⟨k + 1, by omega, by go_num, all_step s k hlt HA.out hb.1 hb.2⟩
        case measure => simp [intOf]; omega
      · go_ret
        exact ⟨ret_bool (all_fails s k hlt (Or.inl (by assumption))).symm, rfl⟩
    · have hall : s.data.toList.all byteOk = true := by
        have := HA.out
        rwa [List.take_of_length_le (by simp; omega)] at this
      have HL : Hid (lineB s = decide (s.size ≤ 60)) := by simp [Hid, lineB, hall]
      clear hall
      go_wp2
      go_ret
      exact ⟨ret_bool (by rw [HL.out]; exact decide_eq_decide.2 (by omega)), rfl⟩
theorem conv_blk (x : Int) (h0 : 0 ≤ x) (h1 : x < 256) (X : World) (b : Nat) (hX : X.heap[b]? = some (.cells #[.int .u8 x] 5)) :
    (convert 51 9 (.slice (some ⟨b, 0, none⟩) 1 1)).run Tryd.prog X = .ok (.string ⟨#[UInt8.ofNat x.toNat]⟩) X := by
  refine run_convert_bytes_back X _ _ 5 ⟨b, 0, none⟩ 1 [UInt8.ofNat x.toNat] Tryd.underlying51 Tryd.underlying5 Tryd.underlying9 ?_
  intro j hj
  have hj0 : j = 0 := by simpa using hj
  subst hj0
  simp [World.cell?, Addr.add, hX]
  omega
def fitsR (v k : Int) (t : ByteArray) (m : Int) (n : Nat) : Bool := if v = 3 then true else if v = 2 then decide (n = 0) else (decide (n = 0) && (decide (m = 0) && (decide (k ≠ 4) && !dashB t)))
theorem fitsR_eq {v : Int} {e : Ev} (h : isVer v = true) : fitsR v e.kind e.task e.time e.tags.length = fitsB v e := by
  simp [isVer] at h
  have : v = 1 ∨ v = 2 ∨ v = 3 := by omega
  have hz : decide (e.tags.length = 0) = !decide (0 < e.tags.length) := by
    by_cases h0 : e.tags.length = 0 <;> simp [h0]; omega
  rcases this with rfl | rfl | rfl
  · simp only [fitsR, fitsB]; rw [if_neg (by omega), if_neg (by omega), hz]; simp
  · simp only [fitsR, fitsB]; rw [if_neg (by omega), if_pos trivial, hz]; simp
  · simp [fitsR, fitsB]
theorem fitsR_three {v k : Int} {t : ByteArray} {m : Int} {n : Nat} (h : (v == 3) = true) : fitsR v k t m n = true := by simp at h; simp [fitsR, h]
theorem fitsR_two {v k : Int} {t : ByteArray} {m : Int} {n : Nat} (h3 : (v == 3) = false) (h : (v == 2) = true) : fitsR v k t m n = ((n : Int) == 0) := by
  simp at h h3; rw [fitsR, if_neg h3, if_pos h, Bool.eq_iff_iff]; simp
theorem fitsR_one {v k : Int} {t : ByteArray} {m : Int} {n : Nat} (h3 : (v == 3) = false) (h : (v == 2) = false) : fitsR v k t m n = (((n : Int) == 0) && ((m == 0) && ((k != 4) && !(t.toList == [45])))) := by
  simp at h h3; rw [fitsR, if_neg h3, if_neg h, dashB, Bool.eq_iff_iff]; simp
end Go.Proofs.YtdjllnhahhjgmaaDoor
namespace Go.Proofs.YtdjllnhahhjgmaaDoor
open Go.RowKit Chron
theorem bytesLess_not : ∀ x y : List UInt8, (Op.bytesLess x y || x == y) = !Op.bytesLess y x
  | [], [] => rfl
  | [], _ :: _ => rfl
  | _ :: _, [] => rfl
  | a :: x, b :: y => by
    have ih := bytesLess_not x y
    simp only [Op.bytesLess]
    rcases Nat.lt_trichotomy a.toNat b.toNat with h | h | h
    · have h1 : a < b := UInt8.lt_iff_toNat_lt.2 h
      have h2 : ¬ b < a := fun h' => by have := UInt8.lt_iff_toNat_lt.1 h'; omega
      have h3 : ¬ b = a := fun h' => by subst h'; omega
      have h4 : ¬ a = b := fun h' => h3 h'.symm
      simp [h1, h2, h3]
    · have h1 : a = b := UInt8.toNat_inj.1 h
      subst h1
      have h2 : ¬ a < a := fun h' => by have := UInt8.lt_iff_toNat_lt.1 h'; omega
      have e : (a :: x == a :: y) = (x == y) := by simp
      simp only [h2, e]
      simpa using ih
    · have h1 : b < a := UInt8.lt_iff_toNat_lt.2 h
      have h2 : ¬ a < b := fun h' => by have := UInt8.lt_iff_toNat_lt.1 h'; omega
      have h3 : ¬ a = b := fun h' => by subst h'; omega
      simp [h1, h2, h3]
def frontR (k : Int) (t : ByteArray) (m : Int) (b : ByteArray) (n : Nat) : Bool :=
  lineB t && (lineB b && (!t.toList.isEmpty && (decide (1 ≤ k) && (decide (k ≤ 4) && (decide (0 ≤ m) && (decide (m ≤ 1125899906842624) && decide (n ≤ 4)))))))
theorem isB_front {k : Int} {t : ByteArray} {m : Int} {b : ByteArray} {ts : List ByteArray} (h : frontR k t m b ts.length = false) : isB ⟨k, t, m, b, ts⟩ = false := by
  rw [Bool.eq_false_iff] at h ⊢
  intro hi
  apply h
  simp only [isB, nameB, tagsB, frontR, Bool.and_eq_true, decide_eq_true_eq] at hi ⊢
  obtain ⟨h1, h2, ⟨h3, h4⟩, h5, h6, h7, h8, _⟩ := hi
  exact ⟨h4, h7, h3, h1, h2, h5, h6, h8⟩
theorem isB_tags {k : Int} {t : ByteArray} {m : Int} {b : ByteArray} {ts : List ByteArray} (h : frontR k t m b ts.length = true) : isB ⟨k, t, m, b, ts⟩ = tagsB ts := by
  simp only [isB, nameB, frontR, Bool.and_eq_true, decide_eq_true_eq] at h ⊢
  obtain ⟨h4, h7, h3, h1, h2, h5, h6, _⟩ := h
  simp only [h1, h2, h3, h4, h5, h6, h7]; simp
set_option maxRecDepth 100000 in
set_option maxHeartbeats 2000000 in
theorem good_any (k : Int) (t : ByteArray) (m : Int) (b : ByteArray) (a : Option Addr) (cap : Nat) (ts : List ByteArray) (w : World) (ht : Hid (TagsAt w a ts)) (hs : Hid (Short ts)) (_hl : ts.length ≤ maxLen)
    (htl : t.size ≤ maxLen) (hbl : b.size ≤ maxLen) :
    Calls Tryd.prog 12 #[.agg #[.int .i64 k, .string t, .int .i64 m, .string b, .slice a ts.length cap]] w fun e w' => e = .returned (.bool (isB ⟨k, t, m, b, ts⟩)) ∧ Below w.heap.size w w' := by
  by_cases hfr : frontR k t m b ts.length = true
  · have HI := hide0 (isB_tags hfr)
    simp only [frontR, Bool.and_eq_true, decide_eq_true_eq] at hfr
    obtain ⟨g1, g2, g3, g4, g5, g6, g7, g8⟩ := hfr
    have g3' : t.toList.isEmpty = false := by simpa using g3
    clear g3
    go_enter Tryd.func12, Tryd.ntmps12
    go_wp2_with (go_at_call 22; refine (lineOK_any _ _ ?_).mono ?_; first | exact htl | exact hbl
                 rintro e w' ⟨rfl, rfl⟩)
    go_loopw [5] (fun i wx => ∃ (n nq : Nat), n ≤ ts.length ∧ i = .int .i64 n ∧ wx = (w.alloc (.cells #[.int .i64 k, .string t, .int .i64 m, .string b, .slice a ts.length cap] 39)).drewN nq ∧ Hid (∀ j, j < n → tagOk ts j = true)) (fun i _ => ts.length - (intOf i).toNat)
    case atStart => exact ⟨0, 0, Nat.zero_le _, rfl, rfl, fun j hj => by omega⟩
    case round =>
      obtain ⟨n, nq, hn, rfl, rfl, HA⟩ := hrel
      by_cases hlt : n < ts.length
      · obtain ⟨q, off, rfl, hc⟩ := (TagsAt.alloc ht.out (.cells #[.int .i64 k, .string t, .int .i64 m, .string b, .slice a ts.length cap] 39)) (by omega)
        have hck := hc n hlt
        have hsk := hs.out n hlt
        have HC := hide0 hc
        clear hc
        have HO : Hid (tagOk ts n = (nameB (ts[n]?.getD ByteArray.empty) && (decide (n = 0) || Op.bytesLess (ts[n - 1]?.getD ByteArray.empty).toList (ts[n]?.getD ByteArray.empty).toList))) := rfl
        generalize ts[n]?.getD ByteArray.empty = x at hck hsk HO
        have i1 : (n : Int) < (ts.length : Int) := by omega
        have i0 : (0 : Int) ≤ (n : Int) := by omega
        by_cases hln : lineB x = true
        · by_cases hem : x.toList = []
          · have hemb : x.toList.isEmpty = true := by simp [hem]
            have HNM : Hid (nameB x = false) := by simp [Hid, nameB, hemb]
            clear hem
            go_wp2_with (go_at_call 22; refine (lineOK_any _ _ hsk).mono ?_; rintro e w' ⟨rfl, hw'⟩; have hw2 := hw'.symm; subst hw2; clear hw')
            go_quiet (fail)
            go_wp2
            go_ret
            exact ⟨ret_bool (by rw [HI.out]; exact (tags_not hlt (tag_bad HO.out HNM.out)).symm), below_drewN (below_drewN ((Below.refl _ _).alloc (Nat.le_refl _) _) _) _⟩
          · have hemb : x.toList.isEmpty = false := by simp [hem]
            have HNM : Hid (nameB x = true) := by simp [Hid, nameB, hemb, hln]
            clear hem
            by_cases hn0 : 0 < n
            · have hcp := HC.out (n - 1) (by omega)
              generalize ts[n - 1]?.getD ByteArray.empty = p at hcp HO
              have hd1 : decide ((0 : Int) < (n : Int)) = true := by simp; omega
              have hlq := bytesLess_not x.toList p.toList
              have i2 : (n : Int) - 1 < (ts.length : Int) := by omega
              rcases hbq : Op.bytesLess p.toList x.toList with _ | _
              · rw [hbq] at hlq
                have HBQ := hide0 hbq
                clear hbq
                simp only [Bool.not_false] at hlq
                go_wp2_with (go_at_call 22; refine (lineOK_any _ _ hsk).mono ?_; rintro e w' ⟨rfl, hw'⟩; have hw2 := hw'.symm; subst hw2; clear hw')
                go_quiet (fail)
                go_wp2
                go_ret
                exact ⟨ret_bool (by rw [HI.out]; exact (tags_not hlt (tag_fall HO.out hn0 (by rw [HBQ.out]; rfl))).symm), below_drewN (below_drewN ((Below.refl _ _).alloc (Nat.le_refl _) _) _) _⟩
              · rw [hbq] at hlq
                have HBQ := hide0 hbq
                clear hbq
                simp only [Bool.not_true] at hlq
                go_wp2_with (go_at_call 22; refine (lineOK_any _ _ hsk).mono ?_; rintro e w' ⟨rfl, hw'⟩; have hw2 := hw'.symm; subst hw2; clear hw')
                go_quiet (fail)
                go_wp2
                go_roundw
                case rel => exact ⟨n + 1, _, by omega, by go_num, rfl, tag_next HA.out (tag_rise HO.out HNM.out (by rw [HBQ.out]; rfl))⟩
                case measure => simp [intOf]; omega
            · have hd1 : decide ((0 : Int) < (n : Int)) = false := by simp; omega
              have hn1 : n = 0 := by omega
              clear hn1
              go_wp2_with (go_at_call 22; refine (lineOK_any _ _ hsk).mono ?_; rintro e w' ⟨rfl, hw'⟩; have hw2 := hw'.symm; subst hw2; clear hw')
              go_quiet (fail)
              go_wp2
              go_roundw
              case rel => exact ⟨n + 1, _, by omega, by go_num, rfl, tag_next HA.out (tag_first HO.out HNM.out hn0)⟩
              case measure => simp [intOf]; omega
        · have hlb : lineB x = false := by simpa using hln
          have HNM : Hid (nameB x = false) := by simp [Hid, nameB, hlb]
          clear hln
          go_wp2_with (go_at_call 22; refine (lineOK_any _ _ hsk).mono ?_; rintro e w' ⟨rfl, hw'⟩; have hw2 := hw'.symm; subst hw2; clear hw')
          go_quiet (fail)
          go_wp2
          go_ret
          exact ⟨ret_bool (by rw [HI.out]; exact (tags_not hlt (tag_bad HO.out HNM.out)).symm), below_drewN (below_drewN ((Below.refl _ _).alloc (Nat.le_refl _) _) _) _⟩
      · go_wp2
        go_ret
        exact ⟨ret_bool (by rw [HI.out]; exact (tags_all (by omega) (by omega) HA.out).symm), below_drewN ((Below.refl _ _).alloc (Nat.le_refl _) _) nq⟩
  · have HI := hide0 (isB_front (by simpa using hfr))
    have HF := hide0 hfr
    clear hfr
    go_enter Tryd.func12, Tryd.ntmps12
    go_wp2_with (go_at_call 22; refine (lineOK_any _ _ ?_).mono ?_; first | exact htl | exact hbl
                 rintro e w' ⟨rfl, rfl⟩)
    all_goals first
      | (go_ret; exact ⟨ret_bool HI.out.symm, (Below.refl _ _).alloc (Nat.le_refl _) _⟩)
      | (exfalso; apply HF.out; simp [frontR, *]; omega)
      | (exfalso; apply HF.out; simp_all [frontR]; omega)
end Go.Proofs.YtdjllnhahhjgmaaDoor
namespace Go.Proofs.YtdjllnhahhjgmaaDoor
open Go.RowKit Chron
theorem refLetter_eq {e b : ByteArray} {c : UInt8} {x : List UInt8} (he : e.data.toList = [c]) : e ++ ⟨x.toArray⟩ ++ b = ⟨(c :: x ++ b.data.toList).toArray⟩ := letter_eq he
theorem refFront_eq (j : Nat) (t : ByteArray) : (⟨#[1]⟩ ++ ⟨(num j).toArray⟩ ++ ⟨#[2]⟩ ++ ⟨(text t.data.toList).toArray⟩ : ByteArray) = ⟨(front j t).toArray⟩ := by
  apply bytes_inj
  have h1 : num 1 = [1] := rfl
  have h2 : num 2 = [2] := rfl
  simp [front, h1, h2]
theorem mk_push (l : List UInt8) (c : UInt8) (x : List UInt8) : (⟨l.toArray⟩ ++ ⟨#[c]⟩ ++ ⟨x.toArray⟩ : ByteArray) = ⟨(l ++ (c :: x)).toArray⟩ := by
  apply bytes_inj; simp
end Go.Proofs.YtdjllnhahhjgmaaDoor
namespace Go.Proofs.YtdjllnhahhjgmaaDoor
open Go.RowKit Chron
end Go.Proofs.YtdjllnhahhjgmaaDoor
