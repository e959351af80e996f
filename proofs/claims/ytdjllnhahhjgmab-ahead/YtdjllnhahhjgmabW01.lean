/- Walks and plain facts, in the order in which they lean on one another. -/
import Derived.Test.YtdjllnhahhjgmabProg
import Derived.Conc.RwLib
import Derived.Conc.MuData
import Derived.Conc.MuLone
import Derived.KernelRfl
import Derived.Lib.AppendStr
import Derived.Lib.UnsafeStr
import Derived.Lib.FrozenHead
import Derived.WalkKit
import Derived.Laws.BitsAllLaws
import Derived.Lib.Strings
import Derived.Lib.IndexBytes
import Derived.WalkSpells
import Derived.WalkLawsBesides
import Derived.BigQuiet
import Derived.Deep.QuietTactic
import Derived.Test.YtdjllnhahhjgmabShelf
namespace Go.Proofs
abbrev Try.muLink : Go.Conc.Locks.MuLink := { lock := 19, unlock := 20, ilock := 32, iunlock := 33, lockSlow := 51, unlockSlow := 54, disable := 47, enable := 49, acquire := 50, relMerge := 52, cas32 := 48, add32 := 53, tMutex := 53, tIMutex := 51, tPMutex := 72, tPIMutex := 88, tPI32 := 90, tUP := 92, tNoCopy := 48, tU32 := 49 }
theorem Try.muLib : Go.Conc.Locks.MuLib Try.prog Try.muLink :=
  ⟨Try.func19, Try.func20, Try.func32, Try.func33, Try.func47, Try.func49, Try.func50, Try.func52, Try.func48, Try.func53,
    Try.underlying51, Try.runUnderlying51, Try.sizeOf51, Try.isAgg51, Try.zeroValue51,
    Try.underlying53, Try.runUnderlying53, Try.sizeOf53, Try.isAgg53, Try.zeroValue53,
    Try.underlying72, Try.runUnderlying72, Try.sizeOf72, Try.isAgg72, Try.zeroValue72,
    Try.underlying88, Try.runUnderlying88, Try.sizeOf88, Try.isAgg88, Try.zeroValue88,
    Try.underlying90, Try.runUnderlying90, Try.sizeOf90, Try.isAgg90, Try.zeroValue90,
    Try.underlying92, Try.runUnderlying92, Try.sizeOf92, Try.isAgg92, Try.zeroValue92,
    Try.underlying48, Try.runUnderlying48, Try.sizeOf48, Try.isAgg48, Try.zeroValue48,
    Try.underlying21, Try.runUnderlying21, Try.sizeOf21, Try.isAgg21, Try.zeroValue21, (by kernel_rfl)⟩
end Go.Proofs
namespace Go.Proofs.Ytdjllnhahhjgmab
open Go.RowKit Go.Lib
/- a row of bytes that is owned; what is frozen of its block, if anything, lies behind it -/
def OwnB (w : World) (base : Nat) (e : TypeId) (v : Value) (n : Nat) (xs : List Value) : Prop :=
  xs.length = n ∧ ((v = .slice none 0 0 ∧ n = 0) ∨
    ∃ g cap cur fz, v = .slice (some ⟨g, 0, none⟩) n cap ∧ base ≤ g ∧ w.heap[g]? = some (.cells cur e fz) ∧ (∀ o, o < cur.size → ¬ (fz.1 ≤ o ∧ o < fz.2)) ∧ n ≤ cap ∧ cap ≤ maxLen ∧ cur.size = cap ∧ cur.toList.take n = xs)
theorem OwnB.of {w : World} {base : Nat} {e : TypeId} {v : Value} {n : Nat} {xs : List Value} (h : w.ownsRow base e 1 v n xs) : OwnB w base e v n xs := by
  refine ⟨by simpa using h.1, ?_⟩
  rcases h.2 with hn | ⟨g, cap, cur, hv, hb, hg, h1, h2, h3, h4⟩
  · exact .inl hn
  · exact .inr ⟨g, cap, cur, (0, 0), hv, hb, hg, fun o _ h => by simp at h, h1, h2, by simpa using h3, by simpa using h4⟩
theorem OwnB.lt {w : World} {base : Nat} {e : TypeId} {v : Value} {n : Nat} {xs : List Value} (h : OwnB w base e v n xs) : ∀ q, v.ownBlock = some q → base ≤ q ∧ q < w.heap.size := by
  intro q hq
  rcases h.2 with ⟨rfl, _⟩ | ⟨g, cap, cur, fz, rfl, hb, hg, _⟩
  · simp [Value.ownBlock] at hq
  · simp only [Value.ownBlock, Option.some.injEq] at hq
    subst hq
    exact ⟨hb, (Array.getElem?_eq_some_iff.1 hg).1⟩
theorem OwnB.block {w w' : World} {base : Nat} {e : TypeId} {v : Value} {n : Nat} {xs : List Value} (h : OwnB w base e v n xs) (hb : ∀ q, v.ownBlock = some q → w'.heap[q]? = w.heap[q]?) : OwnB w' base e v n xs := by
  refine ⟨h.1, ?_⟩
  rcases h.2 with hn | ⟨g, cap, cur, fz, hv, h1, hg, h2⟩
  · exact .inl hn
  · exact .inr ⟨g, cap, cur, fz, hv, h1, (hb g (by rw [hv]; rfl)).trans hg, h2⟩
theorem OwnB.mono {w : World} {base M : Nat} {e : TypeId} {v : Value} {n : Nat} {xs : List Value} (h : OwnB w base e v n xs) (hM : M ≤ base) : OwnB w M e v n xs := by
  refine ⟨h.1, ?_⟩
  rcases h.2 with hn | ⟨g, cap, cur, fz, hv, h1, h2⟩
  · exact .inl hn
  · exact .inr ⟨g, cap, cur, fz, hv, Nat.le_trans hM h1, h2⟩
theorem OwnB.shape {w : World} {base : Nat} {e : TypeId} {v : Value} {n : Nat} {xs : List Value} (h : OwnB w base e v n xs) : ∃ a c, v = .slice a n c ∧ n ≤ c := by
  rcases h.2 with ⟨hv, h0⟩ | ⟨g, cap, cur, fz, hv, _, _, _, h1, _⟩
  · exact ⟨none, 0, by rw [hv, h0], by omega⟩
  · exact ⟨_, cap, hv, h1⟩
theorem OwnB.cells {w : World} {base : Nat} {e : TypeId} {v : Value} {n : Nat} {xs : List Value} (h : OwnB w base e v n xs) {g : Nat} (hg : v.ownBlock = some g) : ∀ j u, xs[j]? = some u → w.cell? ((⟨g, 0, none⟩ : Addr).add j) = some u := by
  intro j u hu
  rcases h.2 with ⟨rfl, _⟩ | ⟨q, cap, cur, fz, rfl, _, hq, _, _, _, _, ht⟩
  · simp [Value.ownBlock] at hg
  · simp only [Value.ownBlock, Option.some.injEq] at hg
    subst hg
    have hadd : (⟨q, 0, none⟩ : Addr).add j = ⟨q, j, none⟩ := by unfold Addr.add; split <;> simp_all
    rw [hadd, cell_of_row w q j cur e fz hq]
    rw [← ht, List.getElem?_take] at hu
    split at hu
    · simpa using hu
    · cases hu
/- values written one behind the other into such a row -/
theorem stores_free (P : Program) (g o : Nat) (t : TypeId) (fz : Nat × Nat) (vs : List Value) : ∀ (i : Nat) (cur : Array Value) (w : World), w.heap[g]? = some (.cells cur t fz) → (∀ k, k < cur.size → ¬ (fz.1 ≤ k ∧ k < fz.2)) → o + i + vs.length ≤ cur.size → (∀ v ∈ vs, v.oneCell' = true) →
    (storeCells ⟨g, o, none⟩ vs i).run P w = .ok () (w.setRow g (cur.toList.take (o + i) ++ vs ++ cur.toList.drop (o + i + vs.length)).toArray) := by
  induction vs with
  | nil =>
    intro i cur w hg _ _ _
    have : (cur.toList.take (o + i) ++ [] ++ cur.toList.drop (o + i + ([] : List Value).length)).toArray = cur := by simp
    rw [this, setRow_self w g cur t fz hg]
    rfl
  | cons v rest ih =>
    intro i cur w hg hz hl h1
    have hi : o + i < cur.size := by simp at hl; omega
    have hadd : (⟨g, o, none⟩ : Addr).add i = ⟨g, o + i, none⟩ := by unfold Addr.add; split <;> simp_all
    have hcell : w.cell? ⟨g, o + i, none⟩ = some cur[o + i] := by simp [World.cell?, hg, hi]
    have hfro : w.frozen? ⟨g, o + i, none⟩ = false := by
      have hn := hz (o + i) hi
      obtain ⟨lo, up⟩ := fz
      simp only at hn
      simp only [World.frozen?, hg, Bool.and_eq_false_iff, decide_eq_false_iff_not]
      omega
    have hst : (store ((⟨g, o, none⟩ : Addr).add i) v).run P w = .ok () (w.setRow g (cur.setIfInBounds (o + i) v)) := by
      rw [hadd, run_store P w _ v _ (h1 v (by simp)), hcell]
      simp [hfro, setCell_eq_setRow w g (o + i) cur t fz v hg]
    have hnext := ih (i + 1) (cur.setIfInBounds (o + i) v) (w.setRow g (cur.setIfInBounds (o + i) v)) (setRow_heap w g cur _ t _ hg) (fun k hk => hz k (by simpa using hk)) (by simp at hl ⊢; omega) (fun x hx => h1 x (by simp [hx]))
    simp only [storeCells, Sem.run_bind, hst, Result.andThen_ok, hnext, setRow_setRow]
    congr 3
    simpa [Array.toList_setIfInBounds, Nat.add_assoc] using list_seg_step cur.toList (o + i) v rest (by simp at hl ⊢; omega)
theorem run_append_str {P : Program} (w : World) (base : Nat) (t u ty e : TypeId) (i : TypeInfo) (ht : P.underlying t = some (.slice e)) (hu : P.underlying u = some .string) (hi : P.info? e = some i) (hz : i.zero = some (.int .u8 0))
    (hsize : i.size = 1) (hby : i.bytes = 1) (v : Value) (n : Nat) (xs : List Value) (hown : OwnB w base e v n xs) (s : ByteArray) (h63 : n + s.size ≤ maxLen) (hbytes : n + s.size ≤ 140737488355328) (hbase : base ≤ w.heap.size) :
    ∃ v' w', (Builtin.append_ #[t, u] ty #[v, .string s]).run P w = .ok v' w' ∧ OwnB w' base e v' (n + s.size) (xs ++ strCells s) ∧ w.grownBy w' v.ownBlock ∧ (v'.ownBlock = v.ownBlock ∨ v'.ownBlock = some w.heap.size) := by
  have hsmall : n + s.size ≤ 9223372036854775807 := by simp only [maxLen] at h63; omega
  have hxl : xs.length = n := hown.1
  have hlen : (xs ++ strCells s).length = n + s.size := by rw [List.length_append, hxl, strCells_length]
  rcases hown.2 with ⟨rfl, rfl⟩ | ⟨g, cap, cur, fz, rfl, hbg, hg, hfz, hnc, hcm, hcs, htake⟩
  · obtain ⟨v', w', hr, h2, h3, h4⟩ := run_append_own_string (P := P) w base t u ty e i ht hu hi hz hsize hby (.slice none 0 0) 0 xs ⟨by simpa using hxl, .inl ⟨rfl, rfl⟩⟩ s h63 hbytes hbase
    refine ⟨v', w', hr, .of h2, h3, ?_⟩
    by_cases hm : s.size = 0
    · exact .inl (by rw [h4.2 ⟨rfl, hm⟩])
    · have := run_append_nil_string (P := P) w t u ty e i (.int .u8 0) ht hu hi hz s (by omega) (by omega) (by rw [hby]; omega)
      rw [hr] at this
      simp only [Result.ok.injEq] at this
      exact .inr (by rw [this.1]; rfl)
  · by_cases hroom : n + s.size ≤ cap
    · have hf := run_firstCells_string (P := P) w 1 s
      have hst := stores_free P g n e fz (strCells s) 0 cur w hg hfz (by simp only [strCells_length]; omega) (strCells_oneCell s)
      simp only [Nat.add_zero, strCells_length] at hst
      have hr : (Builtin.append_ #[t, u] ty #[.slice (some ⟨g, 0, none⟩) n cap, .string s]).run P w = .ok (.slice (some ⟨g, 0, none⟩) (n + s.size) cap) (w.setRow g (cur.toList.take n ++ strCells s ++ cur.toList.drop (n + s.size)).toArray) := by
        simp [Builtin.append_, run_underlying ht, run_underlying hu, sizeOf, typeInfo, hi, hsize, Builtin.lenOf, hroom, hf, Addr.add_lit, hst]
      have hsz : (cur.toList.take n ++ strCells s ++ cur.toList.drop (n + s.size)).toArray.size = cur.size := by
        simp only [List.size_toArray, List.length_append, List.length_take, List.length_drop, Array.length_toList, strCells_length]
        omega
      refine ⟨_, _, hr, ⟨hlen, .inr ⟨g, cap, _, fz, rfl, hbg, setRow_heap w g cur _ e _ hg, fun o ho => hfz o (by rw [hsz] at ho; exact ho), hroom, hcm, by rw [hsz]; exact hcs, ?_⟩⟩, ⟨rfl, rfl, rfl, by simp, fun k _ hk => setRow_other w g k _ (fun e => hk (by simp [Value.ownBlock, e]))⟩, .inl rfl⟩
      rw [htake, ← hlen]
      exact List.take_left
    · have holds : ∀ j u, xs[j]? = some u → w.cell? ((⟨g, 0, none⟩ : Addr).add j) = some u := hown.cells (g := g) rfl
      have hr := run_append_grow_string (P := P) w t u ty e i (.int .u8 0) ht hu hi hz ⟨g, 0, none⟩ n cap xs (by rw [hsize]; omega) holds s (by omega) (by omega) (by rw [hby]; exact growslice_fits (by omega) (by omega))
      have hge := grownCap_ge w (n + s.size) cap e
      have hcm2 : grownCap w (n + s.size) cap e ≤ maxLen := grownCap_le_maxLen w (n + s.size) cap e h63
      refine ⟨_, _, hr, ⟨hlen, .inr ⟨w.heap.size, _, _, (0, 0), rfl, hbase, heap_alloc_new w.drew _, fun o _ h => by simp at h, hge, hcm2, ?_, ?_⟩⟩, ⟨rfl, rfl, rfl, by simp, fun k hk _ => Below.heap_alloc w.drew _ k hk⟩, .inr rfl⟩
      · have hz1 : (Value.int IntKind.u8 0).cells.size = 1 := rfl
        simp only [Array.size_append, List.size_toArray, size_zeroCells, hz1, hxl, strCells_length]
        omega
      · simp only [Array.toList_append, List.append_assoc]
        rw [← List.append_assoc, ← hlen]
        exact List.take_left
theorem wp_append_str {P : Program} (w : World) {o : Oper} {a : Act} {K : Act → World → Prop} {Q : Exit → Act → World → Prop} (sl x : Operand) (t u : TypeId)
    (ho : o.op = .call { callee := .builtin .append, args := #[sl, x], argTypes := #[t, u] })
    (base : Nat) (e : TypeId) (i : TypeInfo) (ht : P.underlying t = some (.slice e)) (hu : P.underlying u = some .string) (hi : P.info? e = some i) (hz : i.zero = some (.int .u8 0))
    (hsize : i.size = 1) (hby : i.bytes = 1) (v : Value) (n : Nat) (xs : List Value) (hs : a.eval sl = v) (hown : OwnB w base e v n xs) (s : ByteArray) (hx : a.eval x = .string s)
    (h63 : n + s.size ≤ maxLen) (hbytes : n + s.size ≤ 140737488355328) (hbase : base ≤ w.heap.size)
    (h : ∀ fa fc w', OwnB w' base e (.slice fa (n + s.size) fc) (n + s.size) (xs ++ strCells s) → w.grownBy w' v.ownBlock → (Value.ownBlock (.slice fa (n + s.size) fc) = v.ownBlock ∨ Value.ownBlock (.slice fa (n + s.size) fc) = some w.heap.size) → K (a.put o.dst (.slice fa (n + s.size) fc)) w') : o.wp P a w K Q := by
  obtain ⟨v', w', hr, h2, h3, h4⟩ := run_append_str (P := P) w base t u o.type e i ht hu hi hz hsize hby v n xs hown s h63 hbytes hbase
  unfold Oper.wp execOp
  simp only [ho, resolve, invoke, builtin, Sem.run_bind, Sem.run_pure, Result.andThen_ok, List.map_toArray, List.map_cons, List.map_nil, hs, hx, hr]
  obtain ⟨fa, fc, rfl⟩ : ∃ fa fc, v' = .slice fa (n + s.size) fc := by
    rcases h2.2 with ⟨h1, h0⟩ | ⟨g, cap, _, _, h1, _⟩
    · exact ⟨none, 0, by rw [h1, h0]⟩
    · exact ⟨_, _, h1⟩
  exact h fa fc w' h2 h3 h4
theorem wpList_append_str {P : Program} (w : World) {ops : Array Oper} {rest : List Oper} {o : Oper} {a : Act} {Q : Exit → Act → World → Prop} (hgd : o.guard = none) (sl x : Operand) (t u : TypeId)
    (ho : o.op = .call { callee := .builtin .append, args := #[sl, x], argTypes := #[t, u] })
    (base : Nat) (e : TypeId) (i : TypeInfo) (ht : P.underlying t = some (.slice e)) (hu : P.underlying u = some .string) (hi : P.info? e = some i) (hz : i.zero = some (.int .u8 0))
    (hsize : i.size = 1) (hby : i.bytes = 1) (v : Value) (n : Nat) (xs : List Value) (hs : a.eval sl = v) (hown : OwnB w base e v n xs) (s : ByteArray) (hx : a.eval x = .string s)
    (h63 : n + s.size ≤ maxLen) (hbytes : n + s.size ≤ 140737488355328) (hbase : base ≤ w.heap.size)
    (h : ∀ fa fc w', OwnB w' base e (.slice fa (n + s.size) fc) (n + s.size) (xs ++ strCells s) → w.grownBy w' v.ownBlock → (Value.ownBlock (.slice fa (n + s.size) fc) = v.ownBlock ∨ Value.ownBlock (.slice fa (n + s.size) fc) = some w.heap.size) → wpList P ops Q rest (a.put o.dst (.slice fa (n + s.size) fc)) w') : wpList P ops Q (o :: rest) a w :=
  wpList_plain hgd fun _ hK => wp_append_str w sl x t u ho base e i ht hu hi hz hsize hby v n xs hs hown s hx h63 hbytes hbase fun fa fc w' h2 h3 h4 => hK _ _ (h fa fc w' h2 h3 h4)
theorem step_append_str {P : Program} (w : World) {ops : Array Oper} {o : Oper} {a : Act} {K : Act → World → Prop} {Q : Exit → Act → World → Prop} {E : Prop} (hgd : o.guard = none) (sl x : Operand) (t u : TypeId)
    (ho : o.op = .call { callee := .builtin .append, args := #[sl, x], argTypes := #[t, u] })
    (base : Nat) (e : TypeId) (i : TypeInfo) (ht : P.underlying t = some (.slice e)) (hu : P.underlying u = some .string) (hi : P.info? e = some i) (hz : i.zero = some (.int .u8 0))
    (hsize : i.size = 1) (hby : i.bytes = 1) (v : Value) (n : Nat) (xs : List Value) (hs : a.eval sl = v) (hown : OwnB w base e v n xs) (s : ByteArray) (hx : a.eval x = .string s)
    (h63 : n + s.size ≤ maxLen) (hbytes : n + s.size ≤ 140737488355328) (hbase : base ≤ w.heap.size)
    (h : ∀ fa fc w', OwnB w' base e (.slice fa (n + s.size) fc) (n + s.size) (xs ++ strCells s) → w.grownBy w' v.ownBlock → (Value.ownBlock (.slice fa (n + s.size) fc) = v.ownBlock ∨ Value.ownBlock (.slice fa (n + s.size) fc) = some w.heap.size) → K (a.put o.dst (.slice fa (n + s.size) fc)) w') :
    if Region.wanted o (yielded ops a.tmps) = true then Oper.wp P o a w K Q else E := by
  have hw : Region.wanted o (yielded ops a.tmps) = true := by simp [Region.wanted, hgd]
  rw [if_pos hw]
  exact wp_append_str w sl x t u ho base e i ht hu hi hz hsize hby v n xs hs hown s hx h63 hbytes hbase h
end Go.Proofs.Ytdjllnhahhjgmab
namespace Chron
open Go Go.RowKit

def isVer (v : Int) : Bool := decide (1 ≤ v) && decide (v ≤ 3)
def shift (v : Int) : Int := if v = 2 then 1 else 0
def byteOk (c : UInt8) : Bool := decide (32 ≤ (c.toNat : Int)) && decide ((c.toNat : Int) ≤ 126)
def lineB (s : ByteArray) : Bool := decide (s.size ≤ 60) && s.data.toList.all byteOk
def nameB (s : ByteArray) : Bool := !s.toList.isEmpty && lineB s

theorem isVer_eq {v : Int} : isVer v = decide (1 ≤ v ∧ v ≤ 3) := by simp [isVer]
theorem shift_two {v : Int} (h : v = 2) : shift v = 1 := by simp [shift, h]
theorem shift_not {v : Int} (h : ¬ v = 2) : shift v = 0 := by simp [shift, h]
theorem take_snoc (s : ByteArray) (k : Nat) (h : k < s.size) : s.data.toList.take (k + 1) = s.data.toList.take k ++ [s[k]] := by
  rw [List.take_succ_eq_append_getElem (by simpa using h)]; rfl
theorem all_step (s : ByteArray) (k : Nat) (h : k < s.size) (ha : (s.data.toList.take k).all byteOk = true) (h1 : 32 ≤ (s[k].toNat : Int)) (h2 : (s[k].toNat : Int) ≤ 126) :
    (s.data.toList.take (k + 1)).all byteOk = true := by
  rw [take_snoc s k h, List.all_append, ha]; simp [byteOk, h1, h2]
theorem all_fails (s : ByteArray) (k : Nat) (h : k < s.size) (h1 : (s[k].toNat : Int) < 32 ∨ 126 < (s[k].toNat : Int)) : lineB s = false := by
  have hm : s[k] ∈ s.data.toList := by
    have : s.data.toList[k]'(by simpa using h) = s[k] := rfl
    rw [← this]; exact List.getElem_mem _
  have hb : byteOk s[k] = false := by
    unfold byteOk; rcases h1 with h1 | h1
    · rw [decide_eq_false (by omega)]; rfl
    · rw [decide_eq_false (p := (s[k].toNat : Int) ≤ 126) (by omega)]; simp
  have : s.data.toList.all byteOk = false := by
    rw [List.all_eq_false]; exact ⟨_, hm, by simp [hb]⟩
  simp [lineB, this]
theorem line_long {s : ByteArray} (h : 60 < s.size) : lineB s = false := by
  simp [lineB]; omega
theorem line_done {s : ByteArray} {k : Nat} (h : s.size ≤ 60) (hk : s.size ≤ k) (ha : (s.data.toList.take k).all byteOk = true) : lineB s = true := by
  rw [List.take_of_length_le (by simpa using hk)] at ha
  simp only [lineB, ha, Bool.and_true, decide_eq_true_eq]; exact h


/- numbers as bytes -/
def numF : Nat → Nat → List UInt8
  | 0, _ => []
  | f + 1, n => if n < 128 then [UInt8.ofNat n] else UInt8.ofNat (128 + n % 128) :: numF f (n / 128)
def num (n : Nat) : List UInt8 := numF 10 n
def text (s : List UInt8) : List UInt8 := num s.length ++ s

theorem numF_small {f n : Nat} (h : n < 128) : numF (f + 1) n = [UInt8.ofNat n] := by simp [numF, h]
theorem numF_more {f n : Nat} (h : 128 ≤ n) : numF (f + 1) n = UInt8.ofNat (128 + n % 128) :: numF f (n / 128) := by
  simp [numF, Nat.not_lt.2 h]
theorem numF_len (f n : Nat) : (numF f n).length ≤ f := by
  induction f generalizing n with
  | zero => simp [numF]
  | succ f ih => unfold numF; split
                 · simp
                 · have := ih (n / 128); simp; omega
theorem num_len (n : Nat) : (num n).length ≤ 10 := numF_len 10 n
theorem or_fin : ∀ x : Fin 256, bits .or .u8 ((x.val : Nat) : Int) 128 = ((128 + x.val % 128 : Nat) : Int) := by decide +kernel
theorem or_byte (k : Int) (h : 0 ≤ k) : bits .or .u8 (k % 256) 128 = (((UInt8.ofNat (128 + k.toNat % 128)).toNat : Nat) : Int) := by
  obtain ⟨n, rfl⟩ := Int.eq_ofNat_of_zero_le h
  have := or_fin ⟨n % 256, by omega⟩
  simp only [] at this
  rw [show ((n : Int) % 256) = ((n % 256 : Nat) : Int) by omega, this]
  simp
  omega
/- one step of the loop that writes a number -/
theorem num_step {n : Nat} {k : Int} {acc : List UInt8} {f : Nat} (hk : 128 ≤ k) (hl : acc.length + f = 9) (hb : k.toNat < 128 ^ f) (he : acc ++ numF (f + 1) k.toNat = num n) :
    ∃ g, (acc ++ [UInt8.ofNat (128 + k.toNat % 128)]).length + g = 9 ∧ (k / 128).toNat < 128 ^ g ∧ (acc ++ [UInt8.ofNat (128 + k.toNat % 128)]) ++ numF (g + 1) (k / 128).toNat = num n := by
  match f, hb with
  | 0, hb => simp at hb; omega
  | g + 1, hb =>
    have hd : (k / 128).toNat = k.toNat / 128 := by omega
    refine ⟨g, by simp; omega, ?_, ?_⟩
    · rw [hd]; rw [Nat.pow_succ] at hb; exact Nat.div_lt_of_lt_mul (by omega)
    · rw [hd, ← he, numF_more (f := g + 1) (by omega)]; simp
theorem num_last {n : Nat} {k : Int} {acc : List UInt8} {f : Nat} (h0 : 0 ≤ k) (hk : k < 128) (he : acc ++ numF (f + 1) k.toNat = num n) : num n = acc ++ [UInt8.ofNat k.toNat] := by
  rw [← he, numF_small (by omega)]

/- numbers read from bytes: place by place, the lowest seven bits first -/
def readF : Nat → Bool → List UInt8 → Option (Nat × List UInt8)
  | 0, _, _ => none
  | _ + 1, _, [] => none
  | f + 1, first, c :: r =>
    if c.toNat < 128 then (if c.toNat = 0 ∧ first = false then none else some (c.toNat, r))
    else match readF f false r with
      | none => none
      | some (n, r') => some (c.toNat - 128 + 128 * n, r')
def readNum (l : List UInt8) : Option (Nat × List UInt8) := readF 9 true l
/- what is read behind n, which k bytes have told -/
def lift (n k : Nat) : Option (Nat × List UInt8) → Option (Nat × List UInt8)
  | none => none
  | some (m, r) => some (n + 128 ^ k * m, r)

theorem andNot_fin : ∀ x : Fin 256, bits .andNot .u8 ((x.val : Nat) : Int) 128 = ((x.val % 128 : Nat) : Int) := by decide +kernel
theorem andNot_byte (c : UInt8) : bits .andNot .u8 (c.toNat : Int) 128 = ((c.toNat % 128 : Nat) : Int) := andNot_fin ⟨c.toNat, c.toNat_lt⟩
theorem wrap_small {n : Int} (h0 : 0 ≤ n) (h1 : n < 9223372036854775808) : wrap64 n = n := by unfold wrap64; omega
theorem i64_or (a b : Nat) (ha : a < 9223372036854775808) (hb : b < 9223372036854775808) : bits .or .i64 (a : Int) (b : Int) = ((a ||| b : Nat) : Int) := by
  have hx : a ||| b < 2 ^ 63 := Nat.or_lt_two_pow (by omega) (by omega)
  show IntKind.i64.wrap ((BitVec.ofInt 64 (a : Int) ||| BitVec.ofInt 64 (b : Int)).toNat : Int) = _
  rw [BitVec.toNat_or, ofInt_u64 a (by omega), ofInt_u64 b (by omega)]
  simp [IntKind.wrap, IntKind.bits, IntKind.signed]
  omega
theorem pow_split (k : Nat) : (2 : Nat) ^ (7 * k) = 128 ^ k := by rw [Nat.pow_mul]
theorem pow_le8 {k : Nat} (h : k < 9) : (128 : Nat) ^ k ≤ 128 ^ 8 := Nat.pow_le_pow_right (by omega) (by omega)
theorem or_step {n k : Nat} (c : UInt8) (hk : k < 9) (hn : n < 128 ^ k) :
    bits .or .i64 (n : Int) (wrap64 (wrap64 (bits .andNot .u8 (c.toNat : Int) 128) * 2 ^ (7 * k))) = ((n + c.toNat % 128 * 128 ^ k : Nat) : Int) := by
  have h8 := pow_le8 hk
  have hc : c.toNat % 128 < 128 := Nat.mod_lt _ (by omega)
  have hm : c.toNat % 128 * 128 ^ k ≤ 127 * 128 ^ 8 := Nat.mul_le_mul (by omega) h8
  rw [andNot_byte, wrap_small (n := ((c.toNat % 128 : Nat) : Int)) (by omega) (by omega)]
  have e : ((c.toNat % 128 : Nat) : Int) * 2 ^ (7 * k) = ((c.toNat % 128 * 128 ^ k : Nat) : Int) := by
    rw [← pow_split k]; simp
  rw [e, wrap_small (by omega) (by omega), i64_or _ _ (by omega) (by omega)]
  have ho := Nat.shiftLeft_add_eq_or_of_lt (b := n) (i := 7 * k) (by rw [pow_split]; exact hn) (c.toNat % 128)
  rw [Nat.shiftLeft_eq, pow_split] at ho
  rw [Nat.or_comm, ← ho, Nat.add_comm]
theorem drop_cons (s : ByteArray) (k : Nat) (h : k < s.size) : s.data.toList.drop k = s[k] :: s.data.toList.drop (k + 1) := by
  rw [List.drop_eq_getElem_cons (by simpa using h)]; rfl
theorem bytes_inj {a b : ByteArray} (h : a.data.toList = b.data.toList) : a = b := by
  obtain ⟨⟨a⟩⟩ := a; obtain ⟨⟨b⟩⟩ := b; simp at h; rw [h]
theorem mk_append (l : List UInt8) (s : ByteArray) : (⟨l.toArray⟩ ++ s : ByteArray) = ⟨(l ++ s.data.toList).toArray⟩ := by
  apply bytes_inj; obtain ⟨⟨s⟩⟩ := s; simp
theorem extract_end (s : ByteArray) (k : Nat) : s.extract k s.size = ⟨(s.data.toList.drop k).toArray⟩ := by
  apply bytes_inj; rw [Lib.extract_to_end]
def first (k : Nat) : Bool := decide (k = 0)
def Reads (l : List UInt8) (n k : Nat) : Prop := n < 128 ^ k ∧ readNum l = lift n k (readF (9 - k) (first k) (l.drop k))
theorem reads_start (l : List UInt8) : Reads l 0 0 := by
  refine ⟨by simp, ?_⟩
  show readF 9 true l = lift 0 0 (readF 9 true l)
  rcases readF 9 true l with _ | ⟨m, r⟩ <;> simp [lift]
theorem reads_more {s : ByteArray} {n k : Nat} (h : Reads s.data.toList n k) (hk : k < 9) (hlt : k < s.size) (hc : 128 ≤ (s[k].toNat : Int)) :
    Reads s.data.toList (n + s[k].toNat % 128 * 128 ^ k) (k + 1) := by
  obtain ⟨h1, h2⟩ := h
  have hb : s[k].toNat < 256 := s[k].toNat_lt
  have hm : s[k].toNat % 128 = s[k].toNat - 128 := by omega
  refine ⟨?_, ?_⟩
  · rw [Nat.pow_succ]
    have : s[k].toNat % 128 * 128 ^ k ≤ 127 * 128 ^ k := Nat.mul_le_mul_right _ (by omega)
    omega
  · rw [h2, drop_cons s k hlt, show 9 - k = (8 - k) + 1 by omega, show 9 - (k + 1) = 8 - k by omega]
    rw [readF, if_neg (by omega), show first (k + 1) = false by simp [first]]
    rcases readF (8 - k) false (s.data.toList.drop (k + 1)) with _ | ⟨m, r⟩
    · rfl
    · simp only [lift]
      rw [hm, Nat.pow_succ]
      congr 2
      rw [Nat.mul_add, Nat.mul_comm (128 ^ k) (s[k].toNat - 128), ← Nat.mul_assoc, Nat.add_assoc]
theorem reads_zero {s : ByteArray} {n k : Nat} (h : Reads s.data.toList n k) (hk : k < 9) (hlt : k < s.size) (hc : s[k].toNat = 0) (h0 : 0 < k) : readNum s.data.toList = none := by
  rw [h.2, drop_cons s k hlt, show 9 - k = (8 - k) + 1 by omega, readF, if_pos (by omega), if_pos ⟨hc, by simp [first]; omega⟩]; rfl
theorem reads_last {s : ByteArray} {n k : Nat} (h : Reads s.data.toList n k) (hk : k < 9) (hlt : k < s.size) (hc : (s[k].toNat : Int) < 128) (h0 : ¬ (s[k].toNat = 0 ∧ 0 < k)) :
    readNum s.data.toList = some (n + s[k].toNat % 128 * 128 ^ k, s.data.toList.drop (k + 1)) := by
  rw [h.2, drop_cons s k hlt, show 9 - k = (8 - k) + 1 by omega, readF, if_pos (by omega), if_neg (by simp [first]; omega)]
  simp only [lift]
  rw [Nat.mod_eq_of_lt (by omega), Nat.mul_comm]
theorem reads_end {s : ByteArray} {n k : Nat} (h : Reads s.data.toList n k) (hk : ¬ (k < s.size ∧ k < 9)) : readNum s.data.toList = none := by
  rw [h.2]
  by_cases h9 : k < 9
  · rw [List.drop_of_length_le (by simp; omega), show 9 - k = (8 - k) + 1 by omega, readF]; rfl
  · rw [show 9 - k = 0 by omega, readF]; rfl
def readTx (l : List UInt8) : Option (List UInt8 × List UInt8) :=
  match readNum l with
  | none => none
  | some (n, r) => if n ≤ r.length then some (r.take n, r.drop n) else none
theorem readF_len : ∀ (f : Nat) (b : Bool) (l : List UInt8) (n : Nat) (r : List UInt8), readF f b l = some (n, r) → r.length < l.length
  | 0, _, _, _, _, h => by simp [readF] at h
  | f + 1, _, [], _, _, h => by simp [readF] at h
  | f + 1, b, c :: l, n, r, h => by
    unfold readF at h
    split at h
    · split at h
      · cases h
      · simp only [Option.some.injEq, Prod.mk.injEq] at h
        rw [← h.2]; simp
    · rcases hq : readF f false l with _ | ⟨m, r'⟩
      · rw [hq] at h; cases h
      · rw [hq] at h
        simp only [Option.some.injEq, Prod.mk.injEq] at h
        have := readF_len f false l m r' hq
        rw [← h.2]; simp; omega
theorem readNum_len {l : List UInt8} {n : Nat} {r : List UInt8} (h : readNum l = some (n, r)) : r.length ≤ l.length := Nat.le_of_lt (readF_len 9 true l n r h)
theorem readTx_some {l : List UInt8} {n : Nat} {r : List UInt8} (h : readNum l = some (n, r)) (hn : n ≤ r.length) : readTx l = some (r.take n, r.drop n) := by
  rw [readTx, h]; simp [hn]
theorem extract_mk_take (r : List UInt8) (n : Nat) : (⟨r.toArray⟩ : ByteArray).extract 0 n = ⟨(r.take n).toArray⟩ := by
  apply bytes_inj; rw [Lib.extract_data]; simp
theorem extract_mk_drop (r : List UInt8) (n : Nat) : (⟨r.toArray⟩ : ByteArray).extract n (⟨r.toArray⟩ : ByteArray).size = ⟨(r.drop n).toArray⟩ := by
  apply bytes_inj; rw [Lib.extract_to_end]
/- tags -/
def tagOk (ts : List ByteArray) (i : Nat) : Bool :=
  nameB (ts[i]?.getD ByteArray.empty) && (decide (i = 0) || Op.bytesLess (ts[i - 1]?.getD ByteArray.empty).toList (ts[i]?.getD ByteArray.empty).toList)
def tagsB (ts : List ByteArray) : Bool := decide (ts.length ≤ 4) && (List.range ts.length).all (tagOk ts)
theorem tags_many {ts : List ByteArray} (h : 4 < ts.length) : tagsB ts = false := by simp [tagsB]; omega
theorem tags_all {ts : List ByteArray} {k : Nat} (h4 : ts.length ≤ 4) (hk : ts.length ≤ k) (h : ∀ j, j < k → tagOk ts j = true) : tagsB ts = true := by
  simp only [tagsB, Bool.and_eq_true, decide_eq_true_eq, List.all_eq_true, List.mem_range]
  exact ⟨h4, fun j hj => h j (by omega)⟩
theorem tags_not {ts : List ByteArray} {k : Nat} (hk : k < ts.length) (h : tagOk ts k = false) : tagsB ts = false := by
  have : (List.range ts.length).all (tagOk ts) = false := by
    rw [List.all_eq_false]; exact ⟨k, by simpa using hk, by simp [h]⟩
  simp [tagsB, this]
theorem tag_first {ts : List ByteArray} {k : Nat} {t : ByteArray} {x : Bool} (h : tagOk ts k = (nameB t && (decide (k = 0) || x))) (hn : nameB t = true) (hk : ¬ 0 < k) : tagOk ts k = true := by
  rw [h, hn]; simp; left; omega
theorem tag_rise {ts : List ByteArray} {k : Nat} {t : ByteArray} {x : Bool} (h : tagOk ts k = (nameB t && (decide (k = 0) || x))) (hn : nameB t = true) (hx : (!x) = false) : tagOk ts k = true := by
  rw [h, hn]; simp at hx; simp [hx]
theorem tag_fall {ts : List ByteArray} {k : Nat} {t : ByteArray} {x : Bool} (h : tagOk ts k = (nameB t && (decide (k = 0) || x))) (hk : 0 < k) (hx : (!x) = true) : tagOk ts k = false := by
  rw [h]; simp at hx; simp [hx]; omega
theorem tag_bad {ts : List ByteArray} {k : Nat} {t : ByteArray} {x : Bool} (h : tagOk ts k = (nameB t && (decide (k = 0) || x))) (hn : nameB t = false) : tagOk ts k = false := by
  rw [h, hn]; simp
theorem tag_next {ts : List ByteArray} {k : Nat} (h : ∀ j, j < k → tagOk ts j = true) (hk : tagOk ts k = true) : ∀ j, j < k + 1 → tagOk ts j = true := by
  intro j hj
  rcases Nat.lt_or_ge j k with h1 | h1
  · exact h j h1
  · rw [show j = k by omega]; exact hk
/- an event -/
structure Ev where
  kind : Int
  task : ByteArray
  time : Int
  body : ByteArray
  tags : List ByteArray
def isB (e : Ev) : Bool :=
  decide (1 ≤ e.kind) && (decide (e.kind ≤ 4) && (nameB e.task && (decide (0 ≤ e.time) && (decide (e.time ≤ 1125899906842624) && (lineB e.body && tagsB e.tags)))))
def dashB (t : ByteArray) : Bool := t.toList == [45]
def fitsB (v : Int) (e : Ev) : Bool :=
  !(decide (v ≤ 2) && decide (0 < e.tags.length)) && (decide (1 < v) || (decide (e.time = 0) && (decide (e.kind ≠ 4) && !dashB e.task)))
def goesB (v : Int) (e : Ev) : Bool := isVer v && (isB e && fitsB v e)
theorem shift_bd (v : Int) : 0 ≤ shift v ∧ shift v ≤ 1 := by unfold shift; split <;> omega
theorem wrapI_small {n : Int} (h0 : -9223372036854775808 ≤ n) (h1 : n < 9223372036854775808) : IntKind.i64.wrap n = n := by
  simp [IntKind.wrap, IntKind.bits, IntKind.signed]; omega
end Chron
namespace Chron
open Go Go.RowKit
/- the bytes of an event -/
def timePart (m : Int) : List UInt8 := if m = 0 then [] else num 3 ++ num m.toNat
def bodyPart (b : ByteArray) : List UInt8 := if b.toList = [] then [] else num 4 ++ text b.data.toList
def tagPart (t : ByteArray) : List UInt8 := num 5 ++ text t.data.toList
def tagParts (ts : List ByteArray) : List UInt8 := (ts.map tagPart).flatten
def front (j : Nat) (t : ByteArray) : List UInt8 := num 1 ++ num j ++ (num 2 ++ text t.data.toList)
def fieldsB (v : Int) (e : Ev) : List UInt8 := front (e.kind - shift v).toNat e.task ++ timePart e.time ++ bodyPart e.body ++ tagParts e.tags
def Lines (ts : List ByteArray) : Prop := ∀ t ∈ ts, t.size ≤ 60
theorem text_len (l : List UInt8) : (text l).length ≤ l.length + 10 := by have := num_len l.length; simp [text]; omega
theorem front_len (j : Nat) (t : ByteArray) (h : t.size ≤ 60) : (front j t).length ≤ 100 := by
  have h1 := num_len 1; have h2 := num_len 2; have h3 := num_len j; have h4 := text_len t.data.toList
  have h5 : t.data.toList.length = t.size := by simp
  simp only [front, List.length_append]; omega
theorem timePart_len (m : Int) : (timePart m).length ≤ 20 := by
  have h1 := num_len 3; have h2 := num_len m.toNat
  unfold timePart; split <;> simp; omega
theorem bodyPart_len (b : ByteArray) (h : b.size ≤ 60) : (bodyPart b).length ≤ 80 := by
  have h1 := num_len 4; have h4 := text_len b.data.toList
  have h5 : b.data.toList.length = b.size := by simp
  unfold bodyPart; split
  · simp
  · simp only [List.length_append]; omega
theorem tagPart_len (t : ByteArray) (h : t.size ≤ 60) : (tagPart t).length ≤ 80 := by
  have h1 := num_len 5; have h4 := text_len t.data.toList
  have h5 : t.data.toList.length = t.size := by simp
  simp only [tagPart, List.length_append]; omega
theorem tagParts_len : ∀ (ts : List ByteArray), Lines ts → (tagParts ts).length ≤ 80 * ts.length
  | [], _ => by simp [tagParts]
  | t :: ts, h => by
    have h1 := tagPart_len t (h t (by simp))
    have h2 := tagParts_len ts (fun x hx => h x (by simp [hx]))
    simp only [tagParts, List.map_cons, List.flatten_cons, List.length_append, List.length_cons] at h2 ⊢
    omega
theorem tagParts_snoc (ts : List ByteArray) (k : Nat) (h : k < ts.length) : tagParts (ts.take (k + 1)) = tagParts (ts.take k) ++ tagPart (ts[k]?.getD ByteArray.empty) := by
  rw [List.take_succ_eq_append_getElem h]
  simp only [tagParts, List.map_append, List.map_cons, List.map_nil, List.flatten_append, List.flatten_cons, List.flatten_nil, List.append_nil]
  rw [List.getElem?_eq_getElem h]; rfl
theorem Lines.take {ts : List ByteArray} (h : Lines ts) (k : Nat) : Lines (ts.take k) := fun t ht => h t (List.mem_of_mem_take ht)
theorem Lines.get {ts : List ByteArray} (h : Lines ts) {i : Nat} (hi : i < ts.length) : (ts[i]?.getD ByteArray.empty).size ≤ 60 := by
  rw [List.getElem?_eq_getElem hi]; exact h _ (List.getElem_mem hi)
def letterOf (k : Int) : UInt8 := if k = 1 then 98 else if k = 2 then 100 else 102
def letterB (e : Ev) : List UInt8 := letterOf e.kind :: text e.task.data.toList ++ e.body.data.toList
def encB (v : Int) (e : Ev) : List UInt8 × Int :=
  if isVer v = false then ([], 1) else if goesB v e = false then ([], 2) else if v = 1 then (letterB e, 0) else (fieldsB v e, 0)
theorem letter_cases {k : Int} (h1 : 1 ≤ k) (h4 : k ≤ 4) (h : ¬ k = 4) : k = 1 ∧ letterOf k = 98 ∨ k = 2 ∧ letterOf k = 100 ∨ k = 3 ∧ letterOf k = 102 := by
  have : k = 1 ∨ k = 2 ∨ k = 3 := by omega
  rcases this with rfl | rfl | rfl <;> simp [letterOf]
theorem letter_eq {e b : ByteArray} {c : UInt8} {x : List UInt8} (he : e.data.toList = [c]) : e ++ ⟨x.toArray⟩ ++ b = ⟨(c :: x ++ b.data.toList).toArray⟩ := by
  apply bytes_inj
  obtain ⟨⟨e⟩⟩ := e; obtain ⟨⟨b⟩⟩ := b
  simp at he; subst he; simp
/- what is known of an event -/
structure Known (e : Ev) : Prop where
  k1 : 1 ≤ e.kind
  k4 : e.kind ≤ 4
  task : e.task.size ≤ 60
  named : e.task.toList ≠ []
  t0 : 0 ≤ e.time
  t1 : e.time ≤ 1125899906842624
  body : e.body.size ≤ 60
  few : e.tags.length ≤ 4
  lines : Lines e.tags
theorem line_size {s : ByteArray} (h : lineB s = true) : s.size ≤ 60 := by simp [lineB] at h; exact h.1
theorem name_size {s : ByteArray} (h : nameB s = true) : s.size ≤ 60 := by simp only [nameB, Bool.and_eq_true] at h; exact line_size h.2
theorem name_ne {s : ByteArray} (h : nameB s = true) : s.toList ≠ [] := by simp [nameB] at h; exact h.1
theorem tags_known {ts : List ByteArray} (h : tagsB ts = true) : ts.length ≤ 4 ∧ Lines ts := by
  simp only [tagsB, Bool.and_eq_true, decide_eq_true_eq, List.all_eq_true, List.mem_range] at h
  refine ⟨h.1, fun t ht => ?_⟩
  obtain ⟨i, hi, rfl⟩ := List.getElem_of_mem ht
  have := h.2 i hi
  simp only [tagOk, Bool.and_eq_true] at this
  have h1 := name_size this.1
  rw [List.getElem?_eq_getElem hi] at h1
  exact h1
theorem is_known {e : Ev} (h : isB e = true) : Known e := by
  simp only [isB, Bool.and_eq_true, decide_eq_true_eq] at h
  obtain ⟨h1, h2, h3, h4, h5, h6, h7⟩ := h
  exact ⟨h1, h2, name_size h3, name_ne h3, h4, h5, line_size h6, (tags_known h7).1, (tags_known h7).2⟩
theorem goes_is {v : Int} {e : Ev} (h : goesB v e = true) : isB e = true := by simp only [goesB, Bool.and_eq_true] at h; exact h.2.1
theorem goes_ver {v : Int} {e : Ev} (h : goesB v e = true) : isVer v = true := by simp only [goesB, Bool.and_eq_true] at h; exact h.1
theorem goes_one {e : Ev} (h : goesB 1 e = true) : ¬ e.kind = 4 ∧ e.time = 0 ∧ e.tags.length = 0 ∧ dashB e.task = false := by
  simp [goesB, fitsB] at h
  obtain ⟨_, _, h1, h2, h3, h4⟩ := h
  exact ⟨h3, h2, by rw [h1]; rfl, h4⟩
theorem time_small {m : Int} (h : m ≤ 1125899906842624) : m.toNat < 128 ^ 9 := by omega
end Chron
namespace Chron
open Go Go.RowKit
def numOf (l : List UInt8) : Nat := match readNum l with | none => 0 | some (n, _) => n
def numRest (l : List UInt8) : List UInt8 := match readNum l with | none => [] | some (_, r) => r
def txOf (l : List UInt8) : List UInt8 := match readTx l with | none => [] | some (t, _) => t
def txRest (l : List UInt8) : List UInt8 := match readTx l with | none => [] | some (_, r) => r
def nx (tag : Nat) (s : List UInt8) : List UInt8 := Lib.trimPrefix s (num tag)
def hp (tag : Nat) (s : List UInt8) : Bool := Lib.hasPrefix s (num tag)
def kindOf (v : Int) (s : List UInt8) : Int := if hp 1 s = true then wrap64 (numOf (nx 1 s) + shift v) else 0
def timeOf (s : List UInt8) : Int := if hp 3 s = true then numOf (nx 3 s) else 0
def textOf (tag : Nat) (s : List UInt8) : ByteArray := if hp tag s = true then ⟨(txOf (nx tag s)).toArray⟩ else ⟨#[]⟩
def behindNum (tag : Nat) (s : List UInt8) : List UInt8 := if hp tag s = true then numRest (nx tag s) else nx tag s
def behindText (tag : Nat) (s : List UInt8) : List UInt8 := if hp tag s = true then txRest (nx tag s) else nx tag s
def tagsF : Nat → List UInt8 → List ByteArray
  | 0, _ => []
  | f + 1, s => if hp 5 s = true then ⟨(txOf (nx 5 s)).toArray⟩ :: tagsF f (txRest (nx 5 s)) else []
def rdFields (v : Int) (s : List UInt8) : Ev :=
  { kind := kindOf v s, task := textOf 2 (behindNum 1 s), time := timeOf (behindText 2 (behindNum 1 s)),
    body := textOf 4 (behindNum 3 (behindText 2 (behindNum 1 s))), tags := tagsF 4 (behindText 4 (behindNum 3 (behindText 2 (behindNum 1 s)))) }
theorem nx_len (tag : Nat) (s : List UInt8) : (nx tag s).length ≤ s.length := by
  unfold nx Lib.trimPrefix; split <;> simp
theorem numRest_len (s : List UInt8) : (numRest s).length ≤ s.length := by
  unfold numRest; rcases h : readNum s with _ | ⟨n, r⟩
  · simp
  · exact readNum_len h
theorem readTx_len {s t r : List UInt8} (h : readTx s = some (t, r)) : t.length + r.length ≤ s.length := by
  unfold readTx at h
  rcases hq : readNum s with _ | ⟨n, q⟩
  · rw [hq] at h; cases h
  · rw [hq] at h
    simp only at h
    split at h
    · simp only [Option.some.injEq, Prod.mk.injEq] at h
      have := readNum_len hq
      rw [← h.1, ← h.2]; simp; omega
    · cases h
theorem txRest_len (s : List UInt8) : (txRest s).length ≤ s.length := by
  unfold txRest; rcases h : readTx s with _ | ⟨n, r⟩
  · simp
  · have := readTx_len h; simp only; omega
theorem txOf_len (s : List UInt8) : (txOf s).length ≤ s.length := by
  unfold txOf; rcases h : readTx s with _ | ⟨n, r⟩
  · simp
  · have := readTx_len h; simp only; omega
theorem behindNum_len (tag : Nat) (s : List UInt8) : (behindNum tag s).length ≤ s.length := by
  have h1 := nx_len tag s; have h2 := numRest_len (nx tag s)
  unfold behindNum; split <;> omega
theorem behindText_len (tag : Nat) (s : List UInt8) : (behindText tag s).length ≤ s.length := by
  have h1 := nx_len tag s; have h2 := txRest_len (nx tag s)
  unfold behindText; split <;> omega
def zeroEv : Ev := ⟨0, ⟨#[]⟩, 0, ⟨#[]⟩, []⟩
def letterKind (c : UInt8) : Int := Lib.indexByte [98, 100, 102] c + 1
def rdLetter : List UInt8 → Ev × Bool
  | [] => (zeroEv, false)
  | c :: r =>
    match readTx r with
    | none => (zeroEv, false)
    | some (t, b) =>
      if t = [] then (⟨letterKind c, ⟨#[45]⟩, 0, ⟨b.toArray⟩, []⟩, isB ⟨letterKind c, ⟨#[45]⟩, 0, ⟨b.toArray⟩, []⟩)
      else (⟨letterKind c, ⟨t.toArray⟩, 0, ⟨b.toArray⟩, []⟩, goesB 1 ⟨letterKind c, ⟨t.toArray⟩, 0, ⟨b.toArray⟩, []⟩)
theorem letterKind_fin : ∀ x : Fin 256, letterKind (UInt8.ofNat x.val) = if UInt8.ofNat x.val = 98 then 1 else if UInt8.ofNat x.val = 100 then 2 else if UInt8.ofNat x.val = 102 then 3 else 0 := by decide +kernel
theorem letterKind_eq (c : UInt8) : letterKind c = if c = 98 then 1 else if c = 100 then 2 else if c = 102 then 3 else 0 := by
  have := letterKind_fin ⟨c.toNat, c.toNat_lt⟩
  simpa using this
theorem letterKind_bd (c : UInt8) : 0 ≤ letterKind c ∧ letterKind c ≤ 3 := by
  rw [letterKind_eq]
  split
  · omega
  · split
    · omega
    · split <;> omega
theorem letterKind_wrap (c : UInt8) : wrap64 (Lib.indexByte [98, 100, 102] c + 1) = letterKind c := by
  have := letterKind_bd c
  unfold letterKind at *
  exact wrap_small (by omega) (by omega)
def okOf (v : Int) (s : List UInt8) : Bool := decide ((encB v (rdFields v s)).2 = 0) && ((encB v (rdFields v s)).1 == s)
def rdB (v : Int) (s : List UInt8) : Ev × Bool := if v = 1 then rdLetter s else (rdFields v s, okOf v s)
theorem textOf_size (tag : Nat) (s : List UInt8) : (textOf tag s).size ≤ s.length := by
  have h1 := nx_len tag s; have h2 := txOf_len (nx tag s)
  unfold textOf; split
  · show (txOf (nx tag s)).length ≤ _; omega
  · show 0 ≤ _; omega
theorem tagsF_size : ∀ (f : Nat) (s : List UInt8), (tagsF f s).length ≤ f ∧ ∀ t ∈ tagsF f s, t.size ≤ s.length
  | 0, s => ⟨by simp [tagsF], by simp [tagsF]⟩
  | f + 1, s => by
    have h1 := nx_len 5 s; have h2 := txOf_len (nx 5 s); have h3 := txRest_len (nx 5 s)
    have ih := tagsF_size f (txRest (nx 5 s))
    unfold tagsF; split
    · refine ⟨by simp; omega, fun t ht => ?_⟩
      rcases List.mem_cons.1 ht with rfl | ht
      · show (txOf (nx 5 s)).length ≤ _; omega
      · have := ih.2 t ht; omega
    · simp
structure Fits (e : Ev) (n : Nat) : Prop where
  task : e.task.size ≤ n
  body : e.body.size ≤ n
  few : e.tags.length ≤ 4
  tags : ∀ t ∈ e.tags, t.size ≤ n
theorem rdFields_fits (v : Int) (s : List UInt8) : Fits (rdFields v s) s.length := by
  have h1 := behindNum_len 1 s
  have h2 := behindText_len 2 (behindNum 1 s)
  have h3 := behindNum_len 3 (behindText 2 (behindNum 1 s))
  have h4 := behindText_len 4 (behindNum 3 (behindText 2 (behindNum 1 s)))
  refine ⟨Nat.le_trans (textOf_size _ _) h1, Nat.le_trans (textOf_size _ _) (by omega), (tagsF_size 4 _).1, fun t ht => Nat.le_trans ((tagsF_size 4 _).2 t ht) (by omega)⟩
end Chron
namespace Go.Proofs.Ytdjllnhahhjgmab
open Go.RowKit Chron

theorem ret_int {k : IntKind} {a b : Int} (h : a = b) : Ending.returned (.int k a) = .returned (.int k b) := by rw [h]
theorem ret_bool {a b : Bool} (h : a = b) : Ending.returned (.bool a) = .returned (.bool b) := by rw [h]
theorem ret_str {a b : ByteArray} (h : a = b) : Ending.returned (.string a) = .returned (.string b) := by rw [h]

set_option maxHeartbeats 400000 in
theorem isVersion_any (v : Int) (w : World) :
    Calls Try.prog 35 #[.int .i64 v] w fun e w' => e = .returned (.bool (isVer v)) ∧ w' = w := by
  go_enter Try.func35, Try.ntmps35
  go_wp2
  all_goals
    go_ret
    exact ⟨ret_bool (by unfold isVer; first | (rw [decide_eq_true (p := 1 ≤ v) ‹_›]; simp) | (rw [decide_eq_false (p := 1 ≤ v) (by omega)]; rfl)), rfl⟩

set_option maxHeartbeats 400000 in
theorem kindShift_any (v : Int) (w : World) :
    Calls Try.prog 80 #[.int .i64 v] w fun e w' => e = .returned (.int .i64 (shift v)) ∧ w' = w := by
  go_enter Try.func80, Try.ntmps80
  go_wp2
  · go_ret
    have h : (v == 2) = true := by assumption
    exact ⟨ret_int (shift_two (by simpa using h)).symm, rfl⟩
  · go_ret
    have h : (v == 2) = false := by assumption
    exact ⟨ret_int (shift_not (by simpa using h)).symm, rfl⟩

set_option maxHeartbeats 400000 in
theorem isPlain_any (c : Int) (w : World) :
    Calls Try.prog 84 #[.int .u8 c] w fun e w' => e = .returned (.bool (decide (32 ≤ c ∧ c ≤ 126))) ∧ w' = w := by
  go_enter Try.func84, Try.ntmps84
  go_wp2
  all_goals
    go_ret
    exact ⟨ret_bool (by rw [Bool.eq_iff_iff]; simp; omega), rfl⟩

set_option maxHeartbeats 400000 in
theorem isLine_any (s : ByteArray) (w : World) (hs : s.size ≤ maxLen) :
    Calls Try.prog 68 #[.string s] w fun e w' => e = .returned (.bool (lineB s)) ∧ w' = w := by
  unfold maxLen at hs
  go_enter Try.func68, Try.ntmps68
  go_wp2
  · go_ret
    have h : 60 < s.size := by omega
    exact ⟨ret_bool (line_long h).symm, rfl⟩
  · have h60 : s.size ≤ 60 := by omega
    go_loop [9] (fun i => ∃ k : Nat, k ≤ s.size ∧ i = .int .i64 k ∧ (s.data.toList.take k).all byteOk = true) (fun i => s.size - (intOf i).toNat)
    case atStart => exact ⟨0, Nat.zero_le _, rfl, rfl⟩
    case round =>
      obtain ⟨k, hk, rfl, hall⟩ := hrel
      have HA : Hid ((s.data.toList.take k).all byteOk = true) := hall
      clear hall
      by_cases hlt : k < s.size
      · have hP := fun w => isPlain_any (s[k].toNat : Int) w
        by_cases hb : 32 ≤ (s[k].toNat : Int) ∧ (s[k].toNat : Int) ≤ 126
        · rw [decide_eq_true hb] at hP
          have HB : Hid _ := hb
          clear hb
          go_wp2_with (go_at_call 84; refine (hP _).mono ?_; rintro e w' ⟨rfl, rfl⟩)
          go_round
          case rel => exact ⟨k + 1, by omega, by go_num, all_step s k hlt HA.out HB.out.1 HB.out.2⟩
          case measure => simp [intOf]; omega
        · rw [decide_eq_false hb] at hP
          have HB : Hid _ := hb
          clear hb
          go_wp2_with (go_at_call 84; refine (hP _).mono ?_; rintro e w' ⟨rfl, rfl⟩)
          go_ret
          exact ⟨ret_bool (all_fails s k hlt (by have h9 : ¬ (32 ≤ (s[k].toNat : Int) ∧ (s[k].toNat : Int) ≤ 126) := HB; omega)).symm, rfl⟩
      · go_wp2
        go_ret
        exact ⟨ret_bool (line_done h60 (by omega) HA.out).symm, rfl⟩

set_option maxHeartbeats 400000 in
theorem isName_any (s : ByteArray) (w : World) (hs : s.size ≤ maxLen) :
    Calls Try.prog 76 #[.string s] w fun e w' => e = .returned (.bool (nameB s)) ∧ w' = w := by
  go_enter Try.func76, Try.ntmps76
  go_wp2_with (go_at_call 68; refine (isLine_any _ _ hs).mono ?_; rintro e w' ⟨rfl, rfl⟩)
  · go_ret
    have h : s.toList = [] := by assumption
    exact ⟨ret_bool (by simp [nameB, h]), rfl⟩
  · go_ret
    exact ⟨rfl, rfl⟩
end Go.Proofs.Ytdjllnhahhjgmab
namespace Go.Proofs.Ytdjllnhahhjgmab
open Go.RowKit Chron
def rdVal : Option (Nat × List UInt8) → Value
  | none => .tuple #[.int .i64 0, .string ⟨#[]⟩, .bool false]
  | some (n, r) => .tuple #[.int .i64 n, .string ⟨r.toArray⟩, .bool true]
theorem ret_some {l : List UInt8} {n : Nat} {r : List UInt8} {x : Int} {y : ByteArray} (h : readNum l = some (n, r)) (hx : x = (n : Int)) (hy : y = ⟨r.toArray⟩) :
    Ending.returned (.tuple #[.int .i64 x, .string y, .bool true]) = .returned (rdVal (readNum l)) := by rw [h, hx, hy]; rfl
theorem ret_none {l : List UInt8} (h : readNum l = none) :
    Ending.returned (.tuple #[.int .i64 0, .string ⟨#[]⟩, .bool false]) = .returned (rdVal (readNum l)) := by rw [h]; rfl
set_option maxRecDepth 100000 in
set_option maxHeartbeats 400000 in
theorem readNumber_any (s : ByteArray) (w : World) (hs : s.size ≤ maxLen) :
    Calls Try.prog 62 #[.string s] w fun e w' => e = .returned (rdVal (readNum s.data.toList)) ∧ ∃ nq, w' = w.drewN nq := by
  unfold maxLen at hs
  go_enter Try.func62, Try.ntmps62
  go_wp2
  go_loop [2, 5] (fun m i => ∃ k : Nat, ∃ n : Nat, k ≤ 9 ∧ k ≤ s.size ∧ i = .int .i64 k ∧ m = .int .i64 n ∧ Hid (Reads s.data.toList n k)) (fun _ i => 9 - (intOf i).toNat)
  case atStart => exact ⟨0, 0, by omega, Nat.zero_le _, rfl, rfl, reads_start _⟩
  case round =>
    obtain ⟨k, n, hk9, hks, rfl, rfl, HR⟩ := hrel
    by_cases hlt : k < s.size ∧ k < 9
    · obtain ⟨hlt, hlt9⟩ := hlt
      by_cases hc : 128 ≤ (s[k].toNat : Int)
      · go_wp2
        go_round
        case rel => exact ⟨k + 1, _, by omega, by omega, by go_num, by rw [or_step s[k] hlt9 HR.out.1], reads_more HR.out hlt9 hlt hc⟩
        case measure => simp [intOf]; omega
      · by_cases hz : ((s[k].toNat : Int) == 0) = true ∧ 0 < k
        · obtain ⟨hz, hk0⟩ := hz
          go_wp2
          go_ret3
          exact ⟨ret_none (reads_zero HR.out hlt9 hlt (by have := hz; simpa using this) hk0), 0, rfl⟩
        · have hz' : ¬ (s[k].toNat = 0 ∧ 0 < k) := by simpa using hz
          have HL : Hid _ := reads_last HR.out hlt9 hlt (by omega) hz'
          have HO : Hid _ := or_step s[k] hlt9 HR.out.1
          by_cases hk0 : 0 < k
          · have hz1 : ((s[k].toNat : Int) == 0) = false := by simp; omega
            clear hz hz'
            go_wp2_with fail
            go_quiet (fail)
            go_wp2
            go_ret3
            exact ⟨ret_some HL.out HO.out (extract_end _ _), _, rfl⟩
          · have hk0' : k = 0 := by omega
            subst hk0'
            clear hz hz'
            by_cases hz1 : ((s[0].toNat : Int) == 0) = true
            · go_wp2_with fail
              go_quiet (fail)
              go_wp2
              go_ret3
              exact ⟨ret_some HL.out (by have := HO.out; simpa using this) (extract_end _ _), _, rfl⟩
            · have hz2 : ((s[0].toNat : Int) == 0) = false := by simpa using hz1
              clear hz1
              go_wp2_with fail
              go_quiet (fail)
              go_wp2
              go_ret3
              exact ⟨ret_some HL.out (by have := HO.out; simpa using this) (extract_end _ _), _, rfl⟩
    · have HE : Hid _ := reads_end HR.out hlt
      by_cases h9 : k < 9
      · have : ¬ k < s.size := by omega
        go_wp2
        go_ret3
        exact ⟨ret_none HE.out, 0, rfl⟩
      · go_wp2
        all_goals
          go_ret3
          exact ⟨ret_none HE.out, 0, rfl⟩

/- a text within bytes, and what is behind it -/
def txVal : Option (List UInt8 × List UInt8) → Value
  | none => .tuple #[.string ⟨#[]⟩, .string ⟨#[]⟩, .bool false]
  | some (t, r) => .tuple #[.string ⟨t.toArray⟩, .string ⟨r.toArray⟩, .bool true]
theorem ret_tx {l : List UInt8} {t r : List UInt8} {x y : ByteArray} (h : readTx l = some (t, r)) (hx : x = ⟨t.toArray⟩) (hy : y = ⟨r.toArray⟩) :
    Ending.returned (.tuple #[.string x, .string y, .bool true]) = .returned (txVal (readTx l)) := by rw [h, hx, hy]; rfl
set_option maxRecDepth 100000 in
set_option maxHeartbeats 400000 in
theorem readText_any (s : ByteArray) (w : World) (hs : s.size ≤ maxLen) :
    Calls Try.prog 87 #[.string s] w fun e w' => e = .returned (txVal (readTx s.data.toList)) ∧ ∃ nq, w' = w.drewN nq := by
  have hR := readNumber_any s w hs
  rcases hq : readNum s.data.toList with _ | ⟨n, r⟩
  · rw [hq] at hR
    have HQ : Hid _ := hq
    clear hq
    go_enter Try.func87, Try.ntmps87
    go_wp2_with fail
    refine hR.mono ?_
    rintro e w' ⟨rfl, nq, rfl⟩
    simp only [rdVal]
    go_wp2
    go_ret3
    exact ⟨by rw [readTx, HQ.out]; rfl, nq, rfl⟩
  · rw [hq] at hR
    have HQ : Hid _ := hq
    have hrl : r.length ≤ s.size := by have := readNum_len hq; simpa using this
    unfold maxLen at hs
    clear hq
    by_cases hn : n ≤ r.length
    · go_enter Try.func87, Try.ntmps87
      go_wp2_with fail
      refine hR.mono ?_
      rintro e w' ⟨rfl, nq, rfl⟩
      simp only [rdVal]
      go_wp2_with fail
      go_quiet (fail)
      go_wp2
      go_ret3
      exact ⟨ret_tx (readTx_some HQ.out hn) (extract_mk_take _ _) (extract_mk_drop _ _), _, World.drewN_drewN _ _ _⟩
    · go_enter Try.func87, Try.ntmps87
      go_wp2_with fail
      refine hR.mono ?_
      rintro e w' ⟨rfl, nq, rfl⟩
      simp only [rdVal]
      go_wp2
      go_ret3
      exact ⟨by rw [readTx, HQ.out]; simp [hn]; rfl, nq, rfl⟩
end Go.Proofs.Ytdjllnhahhjgmab
namespace Go.Proofs.Ytdjllnhahhjgmab
open Go.RowKit Chron
theorem infoByte : (Try.prog.info? 5).map (fun i => (i.zero, i.size, i.bytes)) = some (some (.int .u8 0), 1, 1) := by kernel_rfl
theorem byteCells_snoc (l : List UInt8) (b : UInt8) (x : Int) (h : x = (b.toNat : Int)) : Lib.byteCells l ++ [.int .u8 x] = Lib.byteCells (l ++ [b]) := by
  subst h; simp [Lib.byteCells]
theorem conv_owned {w : World} {B n : Nat} {v : Value} {l : List UInt8} (h : w.ownsRow B 5 1 v n (Lib.byteCells l)) (hne : l ≠ []) :
    (convert 46 9 v).run Try.prog w = .ok (.string ⟨l.toArray⟩) w := by
  obtain ⟨hl, h | ⟨g, cap, cur, rfl, hg, hh, hn, hcap, hsz, htake⟩⟩ := h
  · obtain ⟨rfl, rfl⟩ := h
    simp [Lib.byteCells] at hl; exact absurd hl hne
  · have hn' : n = l.length := by simp [Lib.byteCells] at hl; omega
    subst hn'
    refine run_convert_bytes_back w _ _ 5 ⟨g, 0, none⟩ cap l Try.underlying46 Try.underlying5 Try.underlying9 ?_
    intro j hj
    have h1 : World.ownsRow w B 5 1 (.slice (some ⟨g, 0, none⟩) l.length cap) l.length (Lib.byteCells l) := ⟨hl, .inr ⟨g, cap, cur, rfl, hg, hh, hn, hcap, hsz, htake⟩⟩
    refine h1.cells (g := g) rfl j _ ?_
    simp [Lib.byteCells, hj]
set_option maxRecDepth 100000 in
set_option maxHeartbeats 400000 in
theorem wireNumber_any (n : Int) (w : World) (h0 : 0 ≤ n) (h1 : Hid (n.toNat < 128 ^ 9)) :
    Calls Try.prog 38 #[.int .i64 n] w fun e w' => e = .returned (.string ⟨(num n.toNat).toArray⟩) ∧ Below w.heap.size w w' := by
  obtain ⟨i0, hi, hz0, hz1, hz2⟩ := info_parts infoByte
  go_enter Try.func38, Try.ntmps38
  go_wp2
  go_loopw [0, 3] (fun m v wr => ∃ k : Int, 0 ≤ k ∧ m = .int .i64 k ∧ ∃ acc : List UInt8, ∃ f : Nat, Hid (acc.length + f = 9 ∧ k.toNat < 128 ^ f ∧ acc ++ numF (f + 1) k.toNat = num n.toNat) ∧ wr.ownsRow w.heap.size 5 1 v acc.length (Lib.byteCells acc) ∧ Below w.heap.size w wr) (fun m _ _ => (intOf m).toNat)
  case atStart => exact ⟨n, h0, rfl, [], 9, ⟨rfl, h1, rfl⟩, World.ownsRow_nil _ _ _ _, Below.refl _ _⟩
  case round =>
    obtain ⟨k, hk0, rfl, acc, f, HR, hown, hbl⟩ := hrel
    have hal : acc.length ≤ 9 := by have := HR.out.1; omega
    have hsz := hbl.size
    by_cases hlt : 128 ≤ k
    · go_wp2_with (first | (at_builtin; refine wpList_append_own _ rfl _ _ 46 rfl w.heap.size 5 i0 (.int .u8 0) 1 1 Try.underlying46 hi hz0 hz1 hz2 rfl (by decide) _ _ _ rfl (hown.alloc _) ⟨wr.heap.size, 0, none⟩ 1 1 [_] rfl rfl (cell_one_new _ _ _) ?c2 ?c3 ?c4 ?c5 ?_))
      case c2 => first | (intro u hu; simp at hu; subst hu; rfl) | rfl
      case c3 => unfold maxLen; omega
      case c4 => omega
      case c5 => first | omega | (simp; omega)
      intro v' w1 hown' hgrow _
      rw [byteCells_snoc _ _ _ (or_byte k hk0)] at hown'
      go_wp2
      go_roundw
      case rel =>
        obtain ⟨g, hg1, hg2, hg3⟩ := num_step hlt HR.out.1 HR.out.2.1 HR.out.2.2
        exact ⟨k / 128, by omega, rfl, acc ++ [UInt8.ofNat (128 + k.toNat % 128)], g, ⟨hg1, hg2, hg3⟩, by simpa using hown', Below.grown (hbl.alloc (by omega) _) hgrow (by simp; omega) (fun j hj => by have := (hown.lt _ hj).1; omega)⟩
      case measure => simp [intOf]; omega
    · have hlast := num_last hk0 (by omega) HR.out.2.2
      have HL : Hid (num n.toNat = acc ++ [UInt8.ofNat k.toNat]) := hlast
      clear hlast
      go_wp2_with (first | (at_builtin; refine wpList_append_own _ rfl _ _ 46 rfl w.heap.size 5 i0 (.int .u8 0) 1 1 Try.underlying46 hi hz0 hz1 hz2 rfl (by decide) _ _ _ rfl (hown.alloc _) ⟨wr.heap.size, 0, none⟩ 1 1 [_] rfl rfl (cell_one_new _ _ _) ?c2 ?c3 ?c4 ?c5 ?_))
      case c2 => first | (intro u hu; simp at hu; subst hu; rfl) | rfl
      case c3 => unfold maxLen; omega
      case c4 => omega
      case c5 => first | omega | (simp; omega)
      intro v' w1 hown' hgrow _
      rw [byteCells_snoc _ (UInt8.ofNat k.toNat) _ (by simp; omega)] at hown'
      have hconv := conv_owned hown' (by simp)
      go_wp2
      go_ret
      exact ⟨by rw [HL.out]; rfl, Below.grown (hbl.alloc (by omega) _) hgrow (by simp; omega) (fun j hj => by have := (hown.lt _ hj).1; omega)⟩

set_option maxHeartbeats 400000 in
theorem wireText_any (s : ByteArray) (w : World) (hs : s.size ≤ 65536) :
    Calls Try.prog 41 #[.string s] w fun e w' => e = .returned (.string ⟨(text s.data.toList).toArray⟩) ∧ Below w.heap.size w w' := by
  have hN := wireNumber_any (s.size : Int) w (by omega) (by show (s.size : Int).toNat < 128 ^ 9; omega)
  rw [Int.toNat_natCast] at hN
  have HT : Hid (text s.data.toList = num s.size ++ s.data.toList) := by simp [text, Hid]
  go_enter Try.func41, Try.ntmps41
  go_wp2_with fail
  refine hN.mono ?_
  rintro e w' ⟨rfl, hb⟩
  have hnl := num_len s.size
  go_wp2
  go_ret
  exact ⟨ret_str (by rw [HT.out]; exact mk_append _ _), hb⟩
end Go.Proofs.Ytdjllnhahhjgmab
