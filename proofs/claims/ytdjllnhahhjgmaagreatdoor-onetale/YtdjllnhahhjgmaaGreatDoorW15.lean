/- Walks and plain facts, in the order in which they lean on one another. -/
import Derived.Lib.AppendStr
import Derived.Lib.UnsafeStr
import Derived.Lib.FrozenHead
import Derived.WalkKit
import Derived.Test.YtdjllnhahhjgmaaGreatDoorW14
import Derived.Test.YtdjllnhahhjgmaaGreatDoorW03
import Derived.Test.YtdjllnhahhjgmaaGreatDoorW04
import Derived.RangeFuncNested
import Derived.RangeFuncBound
import Derived.RangeFuncCalls
import Derived.RangeFuncLeaves
import Derived.Shelf.Abstract
import Derived.Shelf.RegionOpen
import Derived.OwnWalkIn
import Derived.TacticsInMore
import Derived.LoopNIn
import Derived.LoopIn
import Derived.Test.YtdjllnhahhjgmaaGreatDoorW11
import Derived.Test.YtdjllnhahhjgmaaGreatDoorW13
namespace Go.Proofs.YtdjllnhahhjgmaaGreatDoor
open Go.RowKit Go.Lib
/- a row of bytes that is owned; what is frozen of its block, if anything, lies behind it -/
def OwnB (w : World) (base : Nat) (e : TypeId) (v : Value) (n : Nat) (xs : List Value) : Prop :=
  xs.length = n ∧ ((v = .slice none 0 0 ∧ n = 0) ∨
    ∃ g cap cur fz, v = .slice (some ⟨g, 0, none⟩) n cap ∧ base ≤ g ∧ w.heap[g]? = some (.cells cur e fz) ∧ (∀ o, o < cur.size → ¬ (fz.1 ≤ o ∧ o < fz.2)) ∧ n ≤ cap ∧ cap ≤ maxLen ∧ cur.size = cap ∧ cur.toList.take n = xs)
theorem OwnB.of {w : World} {base : Nat} {e : TypeId} {v : Value} {n : Nat} {xs : List Value} (h : w.ownsRow base e 1 v n xs) : OwnB w base e v n xs := by
  refine ⟨by simpa using h.1, ?_⟩
  rcases h.2 with hn | ⟨g, cap, cur, hv, hb, hg, h1, h2, h3, h4⟩
  · exact .inl hn
  · exact .inr ⟨g, cap, cur, (0, 0), hv, hb, hg, fun o _ h => by simp at h, h1, h2, by simpa using h3, by simpa using h4⟩
theorem OwnB.lt {w : World} {base : Nat} {e : TypeId} {v : Value} {n : Nat} {xs : List Value} (h : OwnB w base e v n xs) : ∀ q, v.ownBlock = some q → base ≤ q ∧ q < w.heap.size := by
  intro q hq
  rcases h.2 with ⟨rfl, _⟩ | ⟨g, cap, cur, fz, rfl, hb, hg, _⟩
  · simp [Value.ownBlock] at hq
  · simp only [Value.ownBlock, Option.some.injEq] at hq
    subst hq
    exact ⟨hb, (Array.getElem?_eq_some_iff.1 hg).1⟩
theorem OwnB.block {w w' : World} {base : Nat} {e : TypeId} {v : Value} {n : Nat} {xs : List Value} (h : OwnB w base e v n xs) (hb : ∀ q, v.ownBlock = some q → w'.heap[q]? = w.heap[q]?) : OwnB w' base e v n xs := by
  refine ⟨h.1, ?_⟩
  rcases h.2 with hn | ⟨g, cap, cur, fz, hv, h1, hg, h2⟩
  · exact .inl hn
  · exact .inr ⟨g, cap, cur, fz, hv, h1, (hb g (by rw [hv]; rfl)).trans hg, h2⟩
theorem OwnB.mono {w : World} {base M : Nat} {e : TypeId} {v : Value} {n : Nat} {xs : List Value} (h : OwnB w base e v n xs) (hM : M ≤ base) : OwnB w M e v n xs := by
  refine ⟨h.1, ?_⟩
  rcases h.2 with hn | ⟨g, cap, cur, fz, hv, h1, h2⟩
  · exact .inl hn
  · exact .inr ⟨g, cap, cur, fz, hv, Nat.le_trans hM h1, h2⟩
theorem OwnB.shape {w : World} {base : Nat} {e : TypeId} {v : Value} {n : Nat} {xs : List Value} (h : OwnB w base e v n xs) : ∃ a c, v = .slice a n c ∧ n ≤ c := by
  rcases h.2 with ⟨hv, h0⟩ | ⟨g, cap, cur, fz, hv, _, _, _, h1, _⟩
  · exact ⟨none, 0, by rw [hv, h0], by omega⟩
  · exact ⟨_, cap, hv, h1⟩
theorem OwnB.cells {w : World} {base : Nat} {e : TypeId} {v : Value} {n : Nat} {xs : List Value} (h : OwnB w base e v n xs) {g : Nat} (hg : v.ownBlock = some g) : ∀ j u, xs[j]? = some u → w.cell? ((⟨g, 0, none⟩ : Addr).add j) = some u := by
  intro j u hu
  rcases h.2 with ⟨rfl, _⟩ | ⟨q, cap, cur, fz, rfl, _, hq, _, _, _, _, ht⟩
  · simp [Value.ownBlock] at hg
  · simp only [Value.ownBlock, Option.some.injEq] at hg
    subst hg
    have hadd : (⟨q, 0, none⟩ : Addr).add j = ⟨q, j, none⟩ := by unfold Addr.add; split <;> simp_all
    rw [hadd, cell_of_row w q j cur e fz hq]
    rw [← ht, List.getElem?_take] at hu
    split at hu
    · simpa using hu
    · cases hu
/- values written one behind the other into such a row -/
theorem stores_free (P : Program) (g o : Nat) (t : TypeId) (fz : Nat × Nat) (vs : List Value) : ∀ (i : Nat) (cur : Array Value) (w : World), w.heap[g]? = some (.cells cur t fz) → (∀ k, k < cur.size → ¬ (fz.1 ≤ k ∧ k < fz.2)) → o + i + vs.length ≤ cur.size → (∀ v ∈ vs, v.oneCell' = true) →
    (storeCells ⟨g, o, none⟩ vs i).run P w = .ok () (w.setRow g (cur.toList.take (o + i) ++ vs ++ cur.toList.drop (o + i + vs.length)).toArray) := by
  induction vs with
  | nil =>
    intro i cur w hg _ _ _
    have : (cur.toList.take (o + i) ++ [] ++ cur.toList.drop (o + i + ([] : List Value).length)).toArray = cur := by simp
    rw [this, setRow_self w g cur t fz hg]
    rfl
  | cons v rest ih =>
    intro i cur w hg hz hl h1
    have hi : o + i < cur.size := by simp at hl; omega
    have hadd : (⟨g, o, none⟩ : Addr).add i = ⟨g, o + i, none⟩ := by unfold Addr.add; split <;> simp_all
    have hcell : w.cell? ⟨g, o + i, none⟩ = some cur[o + i] := by simp [World.cell?, hg, hi]
    have hfro : w.frozen? ⟨g, o + i, none⟩ = false := by
      have hn := hz (o + i) hi
      obtain ⟨lo, up⟩ := fz
      simp only at hn
      simp only [World.frozen?, hg, Bool.and_eq_false_iff, decide_eq_false_iff_not]
      omega
    have hst : (store ((⟨g, o, none⟩ : Addr).add i) v).run P w = .ok () (w.setRow g (cur.setIfInBounds (o + i) v)) := by
      rw [hadd, run_store P w _ v _ (h1 v (by simp)), hcell]
      simp [hfro, setCell_eq_setRow w g (o + i) cur t fz v hg]
    have hnext := ih (i + 1) (cur.setIfInBounds (o + i) v) (w.setRow g (cur.setIfInBounds (o + i) v)) (setRow_heap w g cur _ t _ hg) (fun k hk => hz k (by simpa using hk)) (by simp at hl ⊢; omega) (fun x hx => h1 x (by simp [hx]))
    simp only [storeCells, Sem.run_bind, hst, Result.andThen_ok, hnext, setRow_setRow]
    congr 3
    simpa [Array.toList_setIfInBounds, Nat.add_assoc] using list_seg_step cur.toList (o + i) v rest (by simp at hl ⊢; omega)
theorem run_append_str {P : Program} (w : World) (base : Nat) (t u ty e : TypeId) (i : TypeInfo) (ht : P.underlying t = some (.slice e)) (hu : P.underlying u = some .string) (hi : P.info? e = some i) (hz : i.zero = some (.int .u8 0))
    (hsize : i.size = 1) (hby : i.bytes = 1) (v : Value) (n : Nat) (xs : List Value) (hown : OwnB w base e v n xs) (s : ByteArray) (h63 : n + s.size ≤ maxLen) (hbytes : n + s.size ≤ 140737488355328) (hbase : base ≤ w.heap.size) :
    ∃ v' w', (Builtin.append_ #[t, u] ty #[v, .string s]).run P w = .ok v' w' ∧ OwnB w' base e v' (n + s.size) (xs ++ strCells s) ∧ w.grownBy w' v.ownBlock ∧ (v'.ownBlock = v.ownBlock ∨ v'.ownBlock = some w.heap.size) := by
  have hsmall : n + s.size ≤ 9223372036854775807 := by simp only [maxLen] at h63; omega
  have hxl : xs.length = n := hown.1
  have hlen : (xs ++ strCells s).length = n + s.size := by rw [List.length_append, hxl, strCells_length]
  rcases hown.2 with ⟨rfl, rfl⟩ | ⟨g, cap, cur, fz, rfl, hbg, hg, hfz, hnc, hcm, hcs, htake⟩
  · obtain ⟨v', w', hr, h2, h3, h4⟩ := run_append_own_string (P := P) w base t u ty e i ht hu hi hz hsize hby (.slice none 0 0) 0 xs ⟨by simpa using hxl, .inl ⟨rfl, rfl⟩⟩ s h63 hbytes hbase
    refine ⟨v', w', hr, .of h2, h3, ?_⟩
    by_cases hm : s.size = 0
    · exact .inl (by rw [h4.2 ⟨rfl, hm⟩])
    · have := run_append_nil_string (P := P) w t u ty e i (.int .u8 0) ht hu hi hz s (by omega) (by omega) (by rw [hby]; omega)
      rw [hr] at this
      simp only [Result.ok.injEq] at this
      exact .inr (by rw [this.1]; rfl)
  · by_cases hroom : n + s.size ≤ cap
    · have hf := run_firstCells_string (P := P) w 1 s
      have hst := stores_free P g n e fz (strCells s) 0 cur w hg hfz (by simp only [strCells_length]; omega) (strCells_oneCell s)
      simp only [Nat.add_zero, strCells_length] at hst
      have hr : (Builtin.append_ #[t, u] ty #[.slice (some ⟨g, 0, none⟩) n cap, .string s]).run P w = .ok (.slice (some ⟨g, 0, none⟩) (n + s.size) cap) (w.setRow g (cur.toList.take n ++ strCells s ++ cur.toList.drop (n + s.size)).toArray) := by
        simp [Builtin.append_, run_underlying ht, run_underlying hu, sizeOf, typeInfo, hi, hsize, Builtin.lenOf, hroom, hf, Addr.add_lit, hst]
      have hsz : (cur.toList.take n ++ strCells s ++ cur.toList.drop (n + s.size)).toArray.size = cur.size := by
        simp only [List.size_toArray, List.length_append, List.length_take, List.length_drop, Array.length_toList, strCells_length]
        omega
      refine ⟨_, _, hr, ⟨hlen, .inr ⟨g, cap, _, fz, rfl, hbg, setRow_heap w g cur _ e _ hg, fun o ho => hfz o (by rw [hsz] at ho; exact ho), hroom, hcm, by rw [hsz]; exact hcs, ?_⟩⟩, ⟨rfl, rfl, rfl, by simp, fun k _ hk => setRow_other w g k _ (fun e => hk (by simp [Value.ownBlock, e]))⟩, .inl rfl⟩
      rw [htake, ← hlen]
      exact List.take_left
    · have holds : ∀ j u, xs[j]? = some u → w.cell? ((⟨g, 0, none⟩ : Addr).add j) = some u := hown.cells (g := g) rfl
      have hr := run_append_grow_string (P := P) w t u ty e i (.int .u8 0) ht hu hi hz ⟨g, 0, none⟩ n cap xs (by rw [hsize]; omega) holds s (by omega) (by omega) (by rw [hby]; exact growslice_fits (by omega) (by omega))
      have hge := grownCap_ge w (n + s.size) cap e
      have hcm2 : grownCap w (n + s.size) cap e ≤ maxLen := grownCap_le_maxLen w (n + s.size) cap e h63
      refine ⟨_, _, hr, ⟨hlen, .inr ⟨w.heap.size, _, _, (0, 0), rfl, hbase, heap_alloc_new w.drew _, fun o _ h => by simp at h, hge, hcm2, ?_, ?_⟩⟩, ⟨rfl, rfl, rfl, by simp, fun k hk _ => Below.heap_alloc w.drew _ k hk⟩, .inr rfl⟩
      · have hz1 : (Value.int IntKind.u8 0).cells.size = 1 := rfl
        simp only [Array.size_append, List.size_toArray, size_zeroCells, hz1, hxl, strCells_length]
        omega
      · simp only [Array.toList_append, List.append_assoc]
        rw [← List.append_assoc, ← hlen]
        exact List.take_left
theorem wp_append_str {P : Program} (w : World) {o : Oper} {a : Act} {K : Act → World → Prop} {Q : Exit → Act → World → Prop} (sl x : Operand) (t u : TypeId)
    (ho : o.op = .call { callee := .builtin .append, args := #[sl, x], argTypes := #[t, u] })
    (base : Nat) (e : TypeId) (i : TypeInfo) (ht : P.underlying t = some (.slice e)) (hu : P.underlying u = some .string) (hi : P.info? e = some i) (hz : i.zero = some (.int .u8 0))
    (hsize : i.size = 1) (hby : i.bytes = 1) (v : Value) (n : Nat) (xs : List Value) (hs : a.eval sl = v) (hown : OwnB w base e v n xs) (s : ByteArray) (hx : a.eval x = .string s)
    (h63 : n + s.size ≤ maxLen) (hbytes : n + s.size ≤ 140737488355328) (hbase : base ≤ w.heap.size)
    (h : ∀ fa fc w', OwnB w' base e (.slice fa (n + s.size) fc) (n + s.size) (xs ++ strCells s) → w.grownBy w' v.ownBlock → (Value.ownBlock (.slice fa (n + s.size) fc) = v.ownBlock ∨ Value.ownBlock (.slice fa (n + s.size) fc) = some w.heap.size) → K (a.put o.dst (.slice fa (n + s.size) fc)) w') : o.wp P a w K Q := by
  obtain ⟨v', w', hr, h2, h3, h4⟩ := run_append_str (P := P) w base t u o.type e i ht hu hi hz hsize hby v n xs hown s h63 hbytes hbase
  unfold Oper.wp execOp
  simp only [ho, resolve, invoke, builtin, Sem.run_bind, Sem.run_pure, Result.andThen_ok, List.map_toArray, List.map_cons, List.map_nil, hs, hx, hr]
  obtain ⟨fa, fc, rfl⟩ : ∃ fa fc, v' = .slice fa (n + s.size) fc := by
    rcases h2.2 with ⟨h1, h0⟩ | ⟨g, cap, _, _, h1, _⟩
    · exact ⟨none, 0, by rw [h1, h0]⟩
    · exact ⟨_, _, h1⟩
  exact h fa fc w' h2 h3 h4
theorem wpList_append_str {P : Program} (w : World) {ops : Array Oper} {rest : List Oper} {o : Oper} {a : Act} {Q : Exit → Act → World → Prop} (hgd : o.guard = none) (sl x : Operand) (t u : TypeId)
    (ho : o.op = .call { callee := .builtin .append, args := #[sl, x], argTypes := #[t, u] })
    (base : Nat) (e : TypeId) (i : TypeInfo) (ht : P.underlying t = some (.slice e)) (hu : P.underlying u = some .string) (hi : P.info? e = some i) (hz : i.zero = some (.int .u8 0))
    (hsize : i.size = 1) (hby : i.bytes = 1) (v : Value) (n : Nat) (xs : List Value) (hs : a.eval sl = v) (hown : OwnB w base e v n xs) (s : ByteArray) (hx : a.eval x = .string s)
    (h63 : n + s.size ≤ maxLen) (hbytes : n + s.size ≤ 140737488355328) (hbase : base ≤ w.heap.size)
    (h : ∀ fa fc w', OwnB w' base e (.slice fa (n + s.size) fc) (n + s.size) (xs ++ strCells s) → w.grownBy w' v.ownBlock → (Value.ownBlock (.slice fa (n + s.size) fc) = v.ownBlock ∨ Value.ownBlock (.slice fa (n + s.size) fc) = some w.heap.size) → wpList P ops Q rest (a.put o.dst (.slice fa (n + s.size) fc)) w') : wpList P ops Q (o :: rest) a w :=
  wpList_plain hgd fun _ hK => wp_append_str w sl x t u ho base e i ht hu hi hz hsize hby v n xs hs hown s hx h63 hbytes hbase fun fa fc w' h2 h3 h4 => hK _ _ (h fa fc w' h2 h3 h4)
theorem step_append_str {P : Program} (w : World) {ops : Array Oper} {o : Oper} {a : Act} {K : Act → World → Prop} {Q : Exit → Act → World → Prop} {E : Prop} (hgd : o.guard = none) (sl x : Operand) (t u : TypeId)
    (ho : o.op = .call { callee := .builtin .append, args := #[sl, x], argTypes := #[t, u] })
    (base : Nat) (e : TypeId) (i : TypeInfo) (ht : P.underlying t = some (.slice e)) (hu : P.underlying u = some .string) (hi : P.info? e = some i) (hz : i.zero = some (.int .u8 0))
    (hsize : i.size = 1) (hby : i.bytes = 1) (v : Value) (n : Nat) (xs : List Value) (hs : a.eval sl = v) (hown : OwnB w base e v n xs) (s : ByteArray) (hx : a.eval x = .string s)
    (h63 : n + s.size ≤ maxLen) (hbytes : n + s.size ≤ 140737488355328) (hbase : base ≤ w.heap.size)
    (h : ∀ fa fc w', OwnB w' base e (.slice fa (n + s.size) fc) (n + s.size) (xs ++ strCells s) → w.grownBy w' v.ownBlock → (Value.ownBlock (.slice fa (n + s.size) fc) = v.ownBlock ∨ Value.ownBlock (.slice fa (n + s.size) fc) = some w.heap.size) → K (a.put o.dst (.slice fa (n + s.size) fc)) w') :
    if Region.wanted o (yielded ops a.tmps) = true then Oper.wp P o a w K Q else E := by
  have hw : Region.wanted o (yielded ops a.tmps) = true := by simp [Region.wanted, hgd]
  rw [if_pos hw]
  exact wp_append_str w sl x t u ho base e i ht hu hi hz hsize hby v n xs hs hown s hx h63 hbytes hbase h
end Go.Proofs.YtdjllnhahhjgmaaGreatDoor
namespace Go.Proofs.YtdjllnhahhjgmaaGreatDoor
open Go.RowKit Go.MuLone Chron
theorem set_back {w : World} {b o : Nat} {x : Value} (y : Value) (h : w.cell? ⟨b, o, none⟩ = some x) : (w.setCell ⟨b, o, none⟩ y).setCell ⟨b, o, none⟩ x = w := by
  have hh : ((w.setCell ⟨b, o, none⟩ y).setCell ⟨b, o, none⟩ x).heap = w.heap := by
    apply Array.ext_getElem?
    intro k
    by_cases hk : k = b
    · subst hk
      simp only [World.cell?] at h
      simp only [World.setCell, Array.getElem?_modify, if_true]
      rcases hh : w.heap[k]? with _ | z
      · rfl
      · rw [hh] at h
        cases z with
        | cells c elem fr =>
          simp at h
          simp only [Option.map_some, Option.some.injEq, Obj.cells.injEq, and_true]
          show (c.setIfInBounds o y).setIfInBounds o x = c
          apply Array.ext_getElem?
          intro i
          rw [Array.getElem?_setIfInBounds]
          split
          · rename_i hi
            subst hi
            split
            · exact h.symm
            · rename_i hn
              simp only [Array.size_setIfInBounds] at hn
              rw [Array.getElem?_eq_none (by omega)] at h; cases h
          · rename_i hi
            rw [Array.getElem?_setIfInBounds, if_neg hi]
        | _ => cases h
    · rw [Below.heap_setCell _ _ _ _ hk, Below.heap_setCell _ _ _ _ hk]
  cases w
  simp only [World.setCell] at hh ⊢
  simp only [World.mk.injEq, and_true]
  exact hh
theorem four_cells {w : World} {p : Nat} {a b c d : Value} {t : TypeId} (h : w.heap[p]? = some (.cells #[a, b, c, d] t)) :
    w.cell? ⟨p, 0, none⟩ = some a ∧ w.cell? ⟨p, 1, none⟩ = some b ∧ w.cell? ⟨p, 2, none⟩ = some c ∧ w.cell? ⟨p, 3, none⟩ = some d ∧ ∀ o, w.frozen? ⟨p, o, none⟩ = false := by
  simp [World.cell?, World.frozen?, h]
set_option maxRecDepth 100000 in
theorem now_any (p : Nat) (fv ev : Value) (w : World) (hb : w.heap[p]? = some (.cells #[.int .i32 0, .int .u32 0, fv, ev] 78)) :
    Calls Tryz.prog 56 #[.pointer (some ⟨p, 0, none⟩)] w fun e w' => e = .returned ev ∧ w' = w := by
  obtain ⟨c0, c1, c2, c3, cz⟩ := four_cells hb
  go_enter_defers Tryz.func56, Tryz.ntmps56
  go_wp2_with (go_at_call 36; refine (lock_free Tryz.muLib ⟨p, 0, none⟩ _ c0 (cz 0)).mono ?_; rintro e w' ⟨rfl, rfl⟩)
  refine leaves_cons (f := 37) (args := #[.pointer (some ⟨p, 0, none⟩)]) (by simp) (by simp [go_sem]) ?_
  refine (unlock_deferred Tryz.muLib ⟨p, 0, none⟩ .returning _ (World.cell?_setCell_same w ⟨p, 0, none⟩ (.int .i32 1) c0) (by simp [cz])).mono ?_
  rintro e u' w'' ⟨rfl, rfl, rfl⟩
  exact ⟨_, results_tmp rfl _ _ _, rfl, set_back _ c0⟩
set_option maxRecDepth 100000 in
theorem len_any (p : Nat) (fv : Value) (ea : Option Addr) (n cap : Nat) (w : World) (hb : w.heap[p]? = some (.cells #[.int .i32 0, .int .u32 0, fv, .slice ea n cap] 78)) :
    Calls Tryz.prog 34 #[.pointer (some ⟨p, 0, none⟩)] w fun e w' => e = .returned (.int .i64 n) ∧ w' = w := by
  go_enter Tryz.func34, Tryz.ntmps34
  go_wp2_with (go_at_call 56; refine (now_any p fv _ _ hb).mono ?_; rintro e w' ⟨rfl, rfl⟩)
  go_ret
  exact ⟨rfl, rfl⟩
/- a row of bytes, told as a text -/
theorem conv_any {w : World} {B n : Nat} {v : Value} {l : List UInt8} (h : w.ownsRow B 5 1 v n (Lib.byteCells l)) : (convert 63 9 v).run Tryz.prog w = .ok (.string ⟨l.toArray⟩) w := by
  by_cases hl : l = []
  · subst hl
    obtain ⟨h0, h | ⟨g, cap, cur, rfl, hg, hh, hn, hcap, hsz, htake⟩⟩ := h
    · obtain ⟨rfl, rfl⟩ := h
      rw [run_convert_bytes_string w 63 9 5 none 0 0 Tryz.underlying63 Tryz.underlying5 Tryz.underlying9]
      simp [Conv.bytesToString]; rfl
    · have hn' : n = 0 := by simp [Lib.byteCells] at h0; omega
      subst hn'
      exact run_convert_bytes_back w _ _ 5 ⟨g, 0, none⟩ cap [] Tryz.underlying63 Tryz.underlying5 Tryz.underlying9 (fun j hj => by simp at hj)
  · exact conv_owned h hl
theorem conv_B {w : World} {B : Nat} {v : Value} {l : List UInt8} (h : OwnB w B 5 v l.length (Lib.byteCells l)) : (convert 63 9 v).run Tryz.prog w = .ok (.string ⟨l.toArray⟩) w := by
  rcases h.2 with ⟨rfl, hl⟩ | ⟨g, cap, cur, fz, rfl, _⟩
  · have : l = [] := List.eq_nil_of_length_eq_zero hl
    subst this
    exact conv_any (B := B) (n := 0) ⟨rfl, .inl ⟨rfl, rfl⟩⟩
  · refine run_convert_bytes_back w _ _ 5 ⟨g, 0, none⟩ cap l Tryz.underlying63 Tryz.underlying5 Tryz.underlying9 (fun j hj => h.cells rfl j _ ?_)
    simp [Lib.byteCells, hj]
set_option maxRecDepth 100000 in
theorem file_any (p : Nat) (fv ev : Value) (N : Nat) (file : List UInt8) (w : World) (hb : w.heap[p]? = some (.cells #[.int .i32 0, .int .u32 0, fv, ev] 78)) (hf : OwnB w N 5 fv file.length (Lib.byteCells file)) (hp : fv.ownBlock ≠ some p) :
    Calls Tryz.prog 20 #[.pointer (some ⟨p, 0, none⟩)] w fun e w' => e = .returned (.string ⟨file.toArray⟩) ∧ w' = w := by
  obtain ⟨c0, c1, c2, c3, cz⟩ := four_cells hb
  have hc := conv_B (hf.block (w' := w.setCell ⟨p, 0, none⟩ (.int .i32 1)) (fun q hq => Below.heap_setCell _ _ _ _ (fun e => hp (by rw [hq, e]))))
  go_enter_defers Tryz.func20, Tryz.ntmps20
  go_wp2_with (go_at_call 36; refine (lock_free Tryz.muLib ⟨p, 0, none⟩ _ c0 (cz 0)).mono ?_; rintro e w' ⟨rfl, rfl⟩)
  refine leaves_cons (f := 37) (args := #[.pointer (some ⟨p, 0, none⟩)]) (by simp) (by simp [go_sem]) ?_
  refine (unlock_deferred Tryz.muLib ⟨p, 0, none⟩ .returning _ (World.cell?_setCell_same w ⟨p, 0, none⟩ (.int .i32 1) c0) (by simp [cz])).mono ?_
  rintro e u' w'' ⟨rfl, rfl, rfl⟩
  exact ⟨_, results_tmp rfl _ _ _, rfl, set_back _ c0⟩
end Go.Proofs.YtdjllnhahhjgmaaGreatDoor
namespace Go.Proofs.YtdjllnhahhjgmaaGreatDoor
open Go.RowKit Go.Shelf
/- the iterator: J holds between its rounds, with true while the loop goes on -/
def Tells {α : Type} (P : Program) (g : Nat) (lb : Array Value) (encs : α → Array Value) (H : α → Nat → World → Prop) (Kp : World → World → Prop) (S Sp : List α → Prop) (w : World) : Prop :=
  ∀ (l : Nat) (J : Bool → List α → World → Prop) (W : World), Below w.heap.size w W →
    (∀ go xs A B, J go xs A → A.grownBy B none → J go xs B) →
    (∀ xs x A0 A, J true xs A0 → A0.grownBy A none → H x A0.heap.size A → Sp (xs ++ [x]) → YieldAt Fence.wide 0 P l (encs x) A fun e W' =>
      ∃ go, e = .returned (.bool go) ∧ J go (xs ++ [x]) W' ∧ (go = true → Kp A W')) →
    J true [] W →
    CallsIn Fence.wide 0 P g (#[.func (.yield l) #[] #[]] ++ lb) W fun e W' => (∃ v, e = .returned v) ∧ ((∃ xs, S xs ∧ J true xs W') ∨ ∃ xs, Sp xs ∧ J false xs W')
/- how the body of a round may be left -/
def LeftBy {α : Type} (B : Nat) (Kp : World → World → Prop) (I : Option Code → List α → Nat → World → Prop) (xs : List α) (W : World) : Exit → Act → World → Prop
  | .normal, _, W' => KeepsFrom B W W' ∧ Kp W W' ∧ I none xs W'.heap.size W'
  | .ret, _, W' => KeepsFrom B W W' ∧ I (some .ret) xs W'.heap.size W'
  | .exit id, _, W' => KeepsFrom B W W' ∧ I (some (.exit id)) xs W'.heap.size W'
  | .goto t, _, W' => KeepsFrom B W W' ∧ I (some (.goto t)) xs W'.heap.size W'
  | .panic _, _, _ => False
  | .outgrown, _, _ => False
/- what abides new memory, and the loop's own records -/
def Abide (B : Nat) (I : World → Prop) : Prop := ∀ W W' row, I W → W.grownBy W' row → (∀ r, row = some r → B ≤ r ∧ ∃ o : Obj, W.heap[r]? = some o ∧ o.isCells = false) → I W'
theorem Abide.put {B : Nat} {I : World → Prop} (h : Abide B I) {W : World} {l : Nat} {o : Obj} (o' : Obj) (hs : I W) (hB : B ≤ l) (hl : W.heap[l]? = some o) (ho : o.isCells = false) : I (W.putObj l o') :=
  h W _ (some l) hs (grownBy_putObj' W l o') (fun r e => by cases e; exact ⟨hB, o, hl, ho⟩)
theorem Abide.new {B : Nat} {I : World → Prop} (h : Abide B I) {W W' : World} (hs : I W) (hg : W.grownBy W' none) : I W' := h W W' none hs hg (fun r e => by cases e)
theorem grown_at {A B : World} (h : A.grownBy B none) {k : Nat} {o : Obj} (hk : A.heap[k]? = some o) : B.heap[k]? = some o :=
  (h.block k (Array.getElem?_eq_some_iff.1 hk).1 (fun e => by cases e)).trans hk
theorem KeepsFrom.put {B l : Nat} {W : World} (hl : l < B) (o : Obj) : KeepsFrom B W (W.putObj l o) :=
  KeepsFrom.of_grownBy (grownBy_putObj' W l o) (fun j e => by cases e; exact hl)
theorem wp_tells {α : Type} {P : Program} {g : Operand} {ps : Array Tmp} {assign body : Code} {Q : Exit → Act → World → Prop} {a : Act} {w w0 : World} {gf : Nat} {lb : Array Value}
    (hg : a.eval g = .func (.func gf) #[] lb) (eg : Enters P gf) {encs : α → Array Value} {H : α → Nat → World → Prop} {Kp : World → World → Prop} {S Sp : List α → Prop}
    (hseq : Tells P gf lb encs H Kp S Sp w0) (hb0 : Below w0.heap.size w0 w) (hps : ∀ x, (encs x).size = ps.size)
    (hKt : ∀ {A B C : World}, Kp A B → Kp B C → Kp A C) (hKb : ∀ (W : World) (l : Nat) (o o' : Obj), w.heap.size ≤ l → W.heap[l]? = some o → o.isCells = false → Kp W (W.putObj l o'))
    (I : Option Code → List α → Nat → World → Prop) (Ax : List α → α → Act → World → Prop)
    (hI : ∀ c xs m, Abide w.heap.size (I c xs m)) (hAx : ∀ xs x a', Abide w.heap.size (Ax xs x a')) (h0 : I none [] w.heap.size w)
    (hassign : ∀ (l : Nat) (xs : List α) (x : α) (m h : Nat) (W : World) (K : Act → World → Prop), I none xs m W → w.heap.size ≤ h → m ≤ h → h ≤ W.heap.size → H x h W → Sp (xs ++ [x]) →
      (∀ a' W', KeepsFrom w.heap.size W W' → Kp W W' → Ax xs x a' W' → K a' W') →
      assign.wpIn (Fence.wide.inRound l) 0 P (Exit.then K (fun _ _ _ => False)) { tmps := (ps.zip (encs x)).foldl (fun t (p, v) => t.setIfInBounds p v) a.tmps, defers := [] } W)
    (hbody : ∀ (l : Nat) (xs : List α) (x : α) (a' : Act) (W : World), Ax xs x a' W → body.wpIn (Fence.wide.inRound l) 0 P (LeftBy w.heap.size Kp I (xs ++ [x]) W) a' W)
    (hdone : ∀ (D : Nat) (xs : List α) (m : Nat) (W : World), w.heap.size ≤ D → S xs → m ≤ W.heap.size → I none xs m W → W.heap[D]? = some (.deferred (some [])) → Q .normal { a with defers := { target := .collected D, args := #[] } :: a.defers } W)
    (hstop : ∀ (D : Nat) (c : Code) (xs : List α) (m : Nat) (W : World), w.heap.size ≤ D → Sp xs → m ≤ W.heap.size → I (some c) xs m W → W.heap[D]? = some (.deferred (some [])) → c.wpIn Fence.wide 0 P Q { a with defers := { target := .collected D, args := #[] } :: a.defers } W) :
    (Code.rangeFunc g ps assign body).wpIn Fence.wide 0 P Q a w := by
  refine wpIn_rangeFunc (fun fn hfn => ?_)
  obtain ⟨rec, hrec⟩ : ∃ rec : LoopState → Option Code → Loop, rec = fun st pe => { state := st, pending := pe, fn, tmps := a.tmps, params := ps, assign, body, defers := w.heap.size } := ⟨_, rfl⟩
  obtain ⟨L, hL⟩ : ∃ L, L = w.heap.size + 1 := ⟨_, rfl⟩
  obtain ⟨W1, hW1⟩ : ∃ W1, W1 = (w.alloc (.deferred (some []))).alloc (.loop (rec .ready none)) := ⟨_, rfl⟩
  have gW : w.grownBy W1 none := by
    rw [hW1]
    exact ⟨rfl, rfl, rfl, by simp; omega, fun k hk _ => (Below.heap_alloc _ _ _ (by simp; omega)).trans (Below.heap_alloc _ _ _ hk)⟩
  have lW : W1.heap[L]? = some (.loop (rec .ready none)) := by
    have := heap_alloc_new (w.alloc (.deferred (some []))) (.loop (rec .ready none))
    rw [World.size_alloc] at this; rw [hW1, hL]; exact this
  have dW : W1.heap[w.heap.size]? = some (.deferred (some [])) := by
    rw [hW1, Below.heap_alloc _ _ _ (by simp)]; exact heap_alloc_new w _
  refine ⟨L, [{ target := .collected w.heap.size, args := #[] }], W1, { target := .fn (.func gf) lb, args := #[.func (.yield L) #[] #[]] }, W1, gf, #[.func (.yield L) #[] #[]] ++ lb, W1, ?_, ?_, ?_, ?_, (fun h => by cases h), ?_⟩
  · have := run_enterLoop_outer (P := P) (w := w) fn a.tmps ps assign body
    rw [hW1, hL, hrec]
    exact this
  · simp only [resolve, hg]
    simp [go_sem]
  · exact fun _ _ => trivial
  · simp only [invoke]
    have := eg (#[.func (.yield L) #[] #[]] ++ lb) W1
    simp [go_sem, this]
  refine CallsIn.mono (hseq L (fun go xs W => W.heap[w.heap.size]? = some (.deferred (some [])) ∧ ∃ m c, m ≤ W.heap.size ∧ (go = true → c = none) ∧ (go = false → c ≠ none) ∧ I c xs m W ∧ W.heap[L]? = some (.loop (rec (if go = true then .ready else .done) c)))
    W1 (hb0.trans ⟨gW.os, gW.tape, gW.output, gW.size, fun k hk => gW.block k (Nat.lt_of_lt_of_le hk hb0.size) (fun e => by cases e)⟩) ?_ ?_ ⟨dW, w.heap.size, none, gW.size, fun _ => rfl, fun h => (by cases h), (hI none [] _).new h0 gW, lW⟩) ?_
  · rintro go xs A B ⟨hd, m, c, hm, h1, h2, hi, hl⟩ hg
    exact ⟨grown_at hg hd, m, c, Nat.le_trans hm hg.size, h1, h2, (hI c xs m).new hi hg, grown_at hg hl⟩
  · rintro xs x A0 A ⟨hd0, m, c, hm, h1, _, hi0, hl0⟩ hg hx hsp
    obtain rfl := h1 rfl
    have hl := grown_at hg hl0
    have hd := grown_at hg hd0
    have hi := (hI none xs m).new hi0 hg
    have hw0 : w.heap.size ≤ A0.heap.size := Nat.le_of_lt (Array.getElem?_eq_some_iff.1 hd0).1
    have hy := run_yield (P := P) (args := encs x) hl (by rw [hrec]; exact hps x)
    rw [hrec] at hy
    refine ⟨fn, _, assign, body, hy, roundIn_of_wpIn hfn (hassign L xs x m _ A _ hi hw0 hm hg.size hx hsp ?_)⟩
    intro a' A2 hk2 hp2 hax
    have hl2 := hk2.same L _ (by omega) hl rfl
    have hd2 := hk2.same _ _ (Nat.le_refl _) hd rfl
    refine ⟨_, run_beginRound hl2 (by rw [hrec]; rfl), ?_⟩
    obtain ⟨busy, hbusy⟩ : ∃ busy : Loop, busy = { rec .ready none with state := .busy } := ⟨_, rfl⟩
    have hL2 : L < A2.heap.size := (Array.getElem?_eq_some_iff.1 hl2).1
    have hp3 : Kp A2 (A2.putObj L (.loop busy)) := hKb _ _ _ _ (by omega) hl2 rfl
    have hl3 : (A2.putObj L (.loop busy)).heap[L]? = some (.loop busy) := World.putObj_heap_same hL2
    have hd3 : (A2.putObj L (.loop busy)).heap[w.heap.size]? = some (.deferred (some [])) := (World.putObj_heap_other (by omega)).trans hd2
    have hend : ∀ (jump : Option Code) (W3 : World), KeepsFrom w.heap.size (A2.putObj L (.loop busy)) W3 → ∃ W4, (Instr.endRound L jump).run P W3 = .ok (.bool jump.isNone) W4 ∧ W4 = W3.putObj L (.loop (rec (if jump.isNone = true then .ready else .done) jump)) ∧
        W3.heap[L]? = some (.loop busy) ∧ W4.heap[L]? = some (.loop (rec (if jump.isNone = true then .ready else .done) jump)) ∧ W4.heap[w.heap.size]? = some (.deferred (some [])) ∧ W4.heap.size = W3.heap.size := by
      intro jump W3 hk
      have q := hk.same L _ (by omega) hl3 rfl
      have r := run_endRound (P := P) jump q
      refine ⟨_, r, ?_, q, ?_, (World.putObj_heap_other (by omega)).trans (hk.same _ _ (Nat.le_refl _) hd3 rfl), by simp⟩
      · rw [hbusy, hrec]
      · rw [World.putObj_heap_same (Array.getElem?_eq_some_iff.1 q).1, hbusy, hrec]
    show Code.wpIn _ 0 P body _ a' (A2.putObj L (.loop { rec .ready none with state := .busy }))
    rw [← hbusy]
    refine wpIn_mono (hbody L xs x a' _ ((hAx xs x a').put _ hax (by omega) hl2 rfl)) ?_
    have away : ∀ (c : Code) (W3 : World), KeepsFrom w.heap.size (A2.putObj L (.loop busy)) W3 → I (some c) (xs ++ [x]) W3.heap.size W3 → ∃ v w', (Instr.endRound L (some c)).run P W3 = .ok v w' ∧
        ∃ go, (Ending.returned v) = .returned (.bool go) ∧ (w'.heap[w.heap.size]? = some (.deferred (some [])) ∧ ∃ m c, m ≤ w'.heap.size ∧ (go = true → c = none) ∧ (go = false → c ≠ none) ∧ I c (xs ++ [x]) m w' ∧ w'.heap[L]? = some (.loop (rec (if go = true then .ready else .done) c))) ∧ (go = true → Kp A w') := by
      intro c W3 hk hi3
      obtain ⟨W4, r, e4, q3, q4, d4, s4⟩ := hend (some c) W3 hk
      exact ⟨_, W4, r, false, rfl, ⟨d4, W3.heap.size, some c, by omega, (fun h => by cases h), (fun _ => by simp), (by rw [e4]; exact (hI _ _ _).put _ hi3 (by omega) q3 rfl), q4⟩, (fun h => by cases h)⟩
    intro e a3 W3 hp
    cases e with
    | normal =>
      obtain ⟨hk, hkp, hi3⟩ := hp
      obtain ⟨W4, r, e4, q3, q4, d4, s4⟩ := hend none W3 hk
      exact ⟨_, W4, r, true, rfl, ⟨d4, W3.heap.size, none, by omega, (fun _ => rfl), (fun h => by cases h), (by rw [e4]; exact (hI _ _ _).put _ hi3 (by omega) q3 rfl), q4⟩,
        fun _ => hKt hp2 (hKt hp3 (hKt hkp (by rw [e4]; exact hKb _ _ _ _ (by omega) q3 rfl)))⟩
    | ret => exact away .ret W3 hp.1 hp.2
    | exit id => exact away (.exit id) W3 hp.1 hp.2
    | goto t => exact away (.goto t) W3 hp.1 hp.2
    | panic ch => exact hp.elim
    | outgrown => exact hp.elim
  · rintro e W2 ⟨⟨v, rfl⟩, ⟨xs, hs, hd, m, c, hm, h1, _, hi, hl⟩ | ⟨xs, hs, hd, m, c, hm, _, h2, hi, hl⟩⟩
    · obtain rfl := h1 rfl
      have r := run_endLoop (P := P) hl (by rw [hrec]; simp)
      refine ⟨none, _, by rw [hrec] at r; exact r, ?_⟩
      refine hdone _ xs m _ (Nat.le_refl _) hs (by simpa using hm) ?_ ((World.putObj_heap_other (by omega)).trans hd)
      exact (hI _ _ _).put _ hi (by omega) hl rfl
    · cases c with
      | none => exact absurd rfl (h2 rfl)
      | some c =>
        have r := run_endLoop (P := P) hl (by rw [hrec]; simp)
        refine ⟨some c, _, by rw [hrec] at r; exact r, ?_⟩
        refine hstop _ c xs m _ (Nat.le_refl _) hs (by simpa using hm) ?_ ((World.putObj_heap_other (by omega)).trans hd)
        exact (hI _ _ _).put _ hi (by omega) hl rfl
end Go.Proofs.YtdjllnhahhjgmaaGreatDoor
namespace Go.Proofs.YtdjllnhahhjgmaaGreatDoor
open Go.RowKit Go.Shelf Chron
set_option maxRecDepth 100000 in
theorem seq_any (p : Nat) (w : World) : Calls Tryz.prog 35 #[.pointer (some ⟨p, 0, none⟩)] w fun e w' => e = .returned (.func (.func 57) #[] #[.pointer (some ⟨w.heap.size, 0, none⟩)]) ∧ w' = w.alloc (.cells #[.pointer (some ⟨p, 0, none⟩)] 46) := by
  go_enter Tryz.func35, Tryz.ntmps35
  go_wp2
  go_ret
  exact ⟨rfl, rfl⟩
/- what is told in a round -/
structure Told where
  i : Nat
  it : Item
def encTold (x : Told) : Array Value := #[.int .i64 x.i, x.it.val]
def ownTold (x : Told) (h : Nat) (A : World) : Prop := A.ownsRow h 9 1 x.it.tv x.it.ev.tags.length (x.it.ev.tags.map Value.string)
def toldEvs (xs : List Told) : List Ev := xs.map (·.it.ev)
def allTold (l : List Ev) (xs : List Told) : Prop := toldEvs xs = l ∧ ∀ (k : Nat) (x : Told), xs[k]? = some x → x.i = k
def someTold (l : List Ev) (xs : List Told) : Prop := toldEvs xs = l.take xs.length ∧ xs.length ≤ l.length ∧ ∀ (k : Nat) (x : Told), xs[k]? = some x → x.i = k
theorem someTold.push {l : List Ev} {xs : List Told} {x : Told} (h : someTold l xs) (hx : l[xs.length]? = some x.it.ev) (hi : x.i = xs.length) : someTold l (xs ++ [x]) := by
  obtain ⟨h1, h2, h3⟩ := h
  have hlt := (List.getElem?_eq_some_iff.1 hx).1
  refine ⟨?_, by simp; omega, fun k y hk => ?_⟩
  · have e : toldEvs (xs ++ [x]) = toldEvs xs ++ [x.it.ev] := by simp [toldEvs]
    rw [e, h1, List.length_append, List.length_singleton, List.take_add_one, hx]; rfl
  · by_cases hlt : k < xs.length
    · rw [List.getElem?_append_left hlt] at hk; exact h3 k y hk
    · rw [List.getElem?_append_right (by omega)] at hk
      have h0 : k - xs.length = 0 := by
        have := (List.getElem?_eq_some_iff.1 hk).1; simp at this; omega
      rw [h0] at hk
      simp only [List.getElem?_cons_zero, Option.some.injEq] at hk
      rw [← hk, hi]; omega
theorem someTold.all {l : List Ev} {xs : List Told} (h : someTold l xs) (hl : xs.length = l.length) : allTold l xs := by
  obtain ⟨h1, h2, h3⟩ := h
  exact ⟨by rw [h1, hl, List.take_length], h3⟩
/- what a round that goes on must keep: the events that were there when the ranging began -/
def Kept (ev : Value) (its : List Item) (W W' : World) : Prop := ∀ b o v, ((ev.ownBlock = some b ∧ o < 5 * its.length) ∨ b ∈ tagBs its) → W.cell? ⟨b, o, none⟩ = some v → W'.cell? ⟨b, o, none⟩ = some v
theorem Kept.trans {ev : Value} {its : List Item} {A B C : World} (h : Kept ev its A B) (k : Kept ev its B C) : Kept ev its A C := fun b o v hq hv => k b o v hq (h b o v hq hv)
theorem Kept.put {ev : Value} {its : List Item} {W : World} {l : Nat} {o : Obj} (o' : Obj) (hl : W.heap[l]? = some o) (ho : o.isCells = false) : Kept ev its W (W.putObj l o') := by
  intro b off v _ hv
  by_cases hb : b = l
  · subst hb
    simp only [World.cell?, hl] at hv
    cases o <;> simp_all [Obj.isCells]
  · rw [World.cell?_of_block (World.putObj_heap_other hb)]; exact hv
theorem Kept.below {ev : Value} {its : List Item} {W W' : World} (h : Below W.heap.size W W') : Kept ev its W W' := fun b o _ _ hv =>
  (h.cell (p := ⟨b, o, none⟩) (World.block_lt_of_cell? W _ hv)).trans hv
theorem EvsAt.kept {W W' : World} {a : Option Addr} {cap : Nat} {its : List Item} (h : EvsAt W a its) (h0 : ∀ b off, a = some ⟨b, off, none⟩ → off = 0) (hk : Kept (.slice a its.length cap) its W W') : EvsAt W' a its := by
  intro hp
  obtain ⟨b, off, rfl, hc⟩ := h hp
  obtain rfl := h0 b off rfl
  refine ⟨b, 0, rfl, fun k i hi => ?_⟩
  obtain ⟨c, ok⟩ := hc k i hi
  have hlt := (List.getElem?_eq_some_iff.1 hi).1
  have key : ∀ j v, j < 5 → W.cell? ⟨b, 0 + k * 5 + j, none⟩ = some v → W'.cell? ⟨b, 0 + k * 5 + j, none⟩ = some v := fun j v hj hv => hk b _ v (.inl ⟨rfl, by omega⟩) hv
  refine ⟨⟨key 0 _ (by omega) c.c0, key 1 _ (by omega) c.c1, key 2 _ (by omega) c.c2, key 3 _ (by omega) c.c3, key 4 _ (by omega) c.c4⟩, ⟨fun ht => ?_, ok.short, ok.few, ok.task, ok.body⟩⟩
  obtain ⟨q, o, hq, hx⟩ := ok.tags ht
  refine ⟨q, o, hq, fun j hj => hk q _ _ (.inr (tagBs_mem.2 ⟨i, List.mem_of_getElem? hi, ?_⟩)) (hx j hj)⟩
  simp only [Item.tv, hq, Value.ownBlock]
set_option maxRecDepth 100000 in
set_option maxHeartbeats 1000000 in
theorem tells_any (p Bn : Nat) (fv : Value) (a : Option Addr) (cap : Nat) (its : List Item) (w : World) (hbox : w.cell? ⟨Bn, 0, none⟩ = some (.pointer (some ⟨p, 0, none⟩))) (hb : w.heap[p]? = some (.cells #[.int .i32 0, .int .u32 0, fv, .slice a its.length cap] 78))
    (hE : EvsAt w a its) (h0 : ∀ b off, a = some ⟨b, off, none⟩ → off = 0) (hok : ∀ it ∈ its, isB it.ev = true) (hl : its.length ≤ 200) :
    Tells Tryz.prog 57 #[.pointer (some ⟨Bn, 0, none⟩)] encTold ownTold (Kept (.slice a its.length cap) its) (allTold (evs its)) (someTold (evs its)) w := by
  intro l J W hW hJ hY hst
  have hbW := (hW.block p (Array.getElem?_eq_some_iff.1 hb).1).trans hb
  have hxW : W.cell? ⟨Bn, 0, none⟩ = some (.pointer (some ⟨p, 0, none⟩)) := (hW.cell (p := ⟨Bn, 0, none⟩) (World.block_lt_of_cell? w _ hbox)).trans hbox
  have hEW := hE.below hW (Nat.le_refl _)
  refine callsIn_of_wp Tryz.func57 rfl trivial ?_
  simp only [Tryz.ntmps57, List.size_toArray, List.length_cons, List.length_nil, Nat.reduceAdd, Nat.reduceSub, Array.replicate_succ, Array.replicate_zero, List.push_toArray, List.append_toArray, List.nil_append, List.cons_append]
  gi_wp2_with fail
  refine ⟨trivial, rfl, (callsIn_wide.2 (now_any p fv _ _ hbW)).mono ?_⟩
  rintro e w' ⟨rfl, rfl⟩
  gi_wp2_with fail
  gi_loopw [8] (fun i wr => ∃ (xs : List Told), i = .int .i64 xs.length ∧ xs.length ≤ its.length ∧ Hid (someTold (evs its) xs) ∧ Hid (J true xs wr) ∧ Hid (EvsAt wr a its)) (fun i _ => its.length - (intOf i).toNat)
  case atStart => exact ⟨[], rfl, Nat.zero_le _, ⟨by simp [toldEvs], by simp, fun k x h => by simp at h⟩, hst, hEW⟩
  case round =>
    obtain ⟨xs, rfl, hxl, HS, HJ, HE⟩ := hrel
    by_cases hlt : xs.length < its.length
    · obtain ⟨g, off, rfl, hc⟩ := HE.out (by omega)
      obtain rfl := h0 g off rfl
      obtain ⟨hcell, hitem⟩ := hc xs.length its[xs.length] (List.getElem?_eq_getElem hlt)
      have hgood := hok its[xs.length] (List.getElem_mem hlt)
      have HX : Hid ((evs its)[xs.length]? = some its[xs.length].ev) := by simp [evs, hlt, Hid]
      generalize its[xs.length] = it at hcell hitem hgood HX
      obtain ⟨⟨k, t, m, b, ts⟩, ia, ic⟩ := it
      obtain ⟨c0, c1, c2, c3, c4⟩ := hcell
      have hK := is_known hgood
      simp only [Nat.zero_add] at c0 c1 c2 c3 c4
      have hlti : (xs.length : Int) < (its.length : Int) := by omega
      clear hc
      gi_wp2_with fail
      have hT := TagsAt.alloc hitem.tags (.cells #[.int .i64 k, .string t, .int .i64 m, .string b, .slice ia ts.length ic] 29)
      refine ⟨trivial, rfl, (callsIn_wide.2 (copy_any k t m b ia ic ts _ hT hK.lines hK.few hK.task hK.body)).mono ?_⟩
      rintro e w5 ⟨x, rfl, hox, hb5⟩
      obtain ⟨xa, xc, rfl, _⟩ := own_shape hox
      have hg5 : wr.grownBy w5 none := by
        have h1 := (Below.refl wr.heap.size wr).alloc (Nat.le_refl _) (.cells #[.int .i64 k, .string t, .int .i64 m, .string b, .slice ia ts.length ic] 29)
        have h2 := h1.trans (hb5.mono (by simp))
        exact ⟨h2.os, h2.tape, h2.output, h2.size, fun q hq _ => h2.block q hq⟩
      have HE5 : Hid (EvsAt w5 (some ⟨g, 0, none⟩) its) := HE.out.below (w' := w5) ⟨hg5.os, hg5.tape, hg5.output, hg5.size, fun q hq => hg5.block q hq (fun e => by cases e)⟩ (Nat.le_refl _)
      have HSP : Hid (someTold (evs its) (xs ++ [⟨xs.length, ⟨⟨k, t, m, b, ts⟩, xa, xc⟩⟩])) := someTold.push HS.out HX.out rfl
      obtain ⟨fn, tmps, assign, body, hy, hR⟩ := hY xs ⟨xs.length, ⟨⟨k, t, m, b, ts⟩, xa, xc⟩⟩ wr w5 HJ.out hg5 (own_mono hox (by simp)) HSP.out
      simp only [encTold, Item.val] at hy
      clear hY hox hb5 hg5 hT
      gi_wp2
      refine ⟨rfl, hR.mono ?_⟩
      rintro e W3 ⟨go, rfl, hJ3, hk3⟩
      cases go
      · gi_wp2
        refine bodyPost_ret (results_none rfl _ _ _) rfl ?_
        exact ⟨⟨_, rfl⟩, .inr ⟨_, HSP.out, hJ3⟩⟩
      · have HE3 : Hid (EvsAt W3 (some ⟨g, 0, none⟩) its) := HE5.out.kept h0 (hk3 rfl)
        gi_wp2
        go_roundw
        case rel => exact ⟨xs ++ [⟨xs.length, ⟨⟨k, t, m, b, ts⟩, xa, xc⟩⟩], by simp, by simp; omega, HSP, hide0 hJ3, HE3⟩
        case measure => simp [intOf]; omega
    · gi_wp2
      go_end0
      exact ⟨⟨_, rfl⟩, .inl ⟨_, HS.out.all (by simp [evs]; omega), HJ.out⟩⟩
end Go.Proofs.YtdjllnhahhjgmaaGreatDoor
namespace Chron
open Go Go.RowKit
/- an event without its body -/
def bareEv (e : Ev) : Ev := ⟨e.kind, e.task, e.time, ⟨#[]⟩, e.tags⟩
def chgB (old new : ByteArray) : List UInt8 := (makeB old.data.toList new.data.toList).1
def evB (v : Int) (old : ByteArray) (e : Ev) : List UInt8 := text (encB v (bareEv e)).1 ++ text (chgB old e.body)
def evsB (v : Int) : ByteArray → List Ev → List UInt8
  | _, [] => []
  | old, e :: r => evB v old e ++ evsB v e.body r
def lastB (old : ByteArray) : List Ev → ByteArray
  | [] => old
  | e :: r => lastB e.body r
def headB (v : Int) (n : Nat) : List UInt8 := num v.toNat ++ num n
def entryB (v : Int) (old : ByteArray) (l : List Ev) : List UInt8 := headB v l.length ++ evsB v old l
def noB : ByteArray := ⟨#[]⟩
/- one entry behind the other -/
abbrev Chunk := Int × List Ev
def evsOf : List Chunk → List Ev
  | [] => []
  | c :: r => c.2 ++ evsOf r
def fileB : ByteArray → List Chunk → List UInt8
  | _, [] => []
  | old, c :: r => entryB c.1 old c.2 ++ fileB (lastB old c.2) r
def anewC (l : List Ev) : List Chunk := l.map fun e => (3, [e])
theorem lastB_append : ∀ (old : ByteArray) (a b : List Ev), lastB old (a ++ b) = lastB (lastB old a) b
  | _, [], _ => rfl
  | _, e :: r, b => lastB_append e.body r b
theorem evsB_append (v : Int) : ∀ (old : ByteArray) (a b : List Ev), evsB v old (a ++ b) = evsB v old a ++ evsB v (lastB old a) b
  | _, [], _ => rfl
  | old, e :: r, b => by simp [evsB, lastB, evsB_append v e.body r b]
theorem evsOf_append : ∀ (a b : List Chunk), evsOf (a ++ b) = evsOf a ++ evsOf b
  | [], _ => rfl
  | c :: r, b => by simp [evsOf, evsOf_append r b]
theorem fileB_append : ∀ (old : ByteArray) (a b : List Chunk), fileB old (a ++ b) = fileB old a ++ fileB (lastB old (evsOf a)) b
  | _, [], _ => rfl
  | old, c :: r, b => by simp [fileB, evsOf, fileB_append (lastB old c.2) r b, lastB_append]
theorem evsOf_anew : ∀ (l : List Ev), evsOf (anewC l) = l
  | [] => rfl
  | e :: r => by
    have := evsOf_anew r
    simp only [anewC] at this
    simp [anewC, evsOf, this]
/- reading, with what is left -/
structure Rdr where
  rest : List UInt8
  cut : Bool
  wrong : Bool
def Rdr.stop (r : Rdr) : Bool := r.cut || r.wrong
def Rdr.over (r : Rdr) : Rdr := ⟨[], true, r.wrong⟩
def Rdr.fail (r : Rdr) : Rdr := ⟨[], r.cut, true⟩
def cutNumR (most : Int) (r : Rdr) : Rdr :=
  match readNum (r.rest ++ [1]) with
  | none => r.fail
  | some (n, _) => if most < (n : Int) then r.fail else r.over
def numR (least most : Int) (r : Rdr) : Nat × Rdr :=
  if r.stop = true then (0, r) else
  match readNum r.rest with
  | none => (0, cutNumR most r)
  | some (n, rest) => if (n : Int) < least ∨ most < (n : Int) then (0, r.fail) else (n, ⟨rest, r.cut, r.wrong⟩)
def textR (most : Int) (r : Rdr) : List UInt8 × Rdr :=
  if (numR 0 most r).2.rest.length < (numR 0 most r).1 then ([], (numR 0 most r).2.over)
  else ((numR 0 most r).2.rest.take (numR 0 most r).1, ⟨(numR 0 most r).2.rest.drop (numR 0 most r).1, (numR 0 most r).2.cut, (numR 0 most r).2.wrong⟩)
def bareOk (d : Ev × Int) : Bool := decide (d.2 = 0) && d.1.body.toList.isEmpty
def bareR (v : Int) (r : Rdr) : Ev × Rdr :=
  if (textR 321 r).2.stop = true then (zeroEv, (textR 321 r).2)
  else ((decB v (textR 321 r).1).1, if bareOk (decB v (textR 321 r).1) = true then (textR 321 r).2 else (textR 321 r).2.fail)
def bodyOk (d : List UInt8 × Int) : Bool := decide (d.2 = 0) && lineB ⟨d.1.toArray⟩
def bodyR (old : ByteArray) (r : Rdr) : ByteArray × Rdr :=
  if (textR 62 r).2.stop = true then (noB, (textR 62 r).2)
  else (⟨(applyB old.data.toList (textR 62 r).1).1.toArray⟩, if bodyOk (applyB old.data.toList (textR 62 r).1) = true then (textR 62 r).2 else (textR 62 r).2.fail)
def evR (v : Int) (old : ByteArray) (r : Rdr) : Ev × Rdr :=
  (⟨(bareR v r).1.kind, (bareR v r).1.task, (bareR v r).1.time, (bodyR old (bareR v r).2).1, (bareR v r).1.tags⟩, (bodyR old (bareR v r).2).2)
def evsR (v : Int) : Nat → List Ev → Rdr → List Ev × Rdr
  | 0, l, r => (l, r)
  | n + 1, l, r => evsR v n (l ++ [(evR v (lastB noB l) r).1]) (evR v (lastB noB l) r).2
def entryR (l : List Ev) (r : Rdr) : List Ev × Rdr :=
  evsR (numR 1 3 r).1 (numR 1 (200 - (l.length : Int)) (numR 1 3 r).2).1 l (numR 1 (200 - (l.length : Int)) (numR 1 3 r).2).2
/- what is told of a file: its events, how many bytes their entries have, and whether nothing is wrong -/
def readR (size : Nat) : Nat → List Ev → Nat → Rdr → List Ev × Nat × Bool
  | 0, l, whole, r => (l, whole, !r.wrong)
  | f + 1, l, whole, r =>
    if r.rest = [] then (l, whole, !r.wrong)
    else if (entryR l r).2.stop = true then (l, whole, !(entryR l r).2.wrong)
    else readR size f (entryR l r).1 (size - (entryR l r).2.rest.length) (entryR l r).2
def readB (file : List UInt8) : List Ev × Nat × Bool := readR file.length file.length [] 0 ⟨file, false, false⟩
end Chron
namespace Chron
open Go Go.RowKit
theorem bare_goes {v : Int} {e : Ev} (h : goesB v e = true) : goesB v (bareEv e) = true := by
  simp only [goesB, isB, fitsB, bareEv, Bool.and_eq_true] at h ⊢
  obtain ⟨h1, ⟨a, b, c, d, f, g, i⟩, h3⟩ := h
  exact ⟨h1, ⟨a, b, c, d, f, by decide, i⟩, h3⟩
theorem num_one {k : Nat} (h : k < 128) : (num k).length = 1 := by rw [num, numF_small h]; rfl
theorem num_fuel {f k : Nat} (hf : 0 < f) (h10 : f ≤ 10) (h : k < 128 ^ f) : (num k).length ≤ f := by
  rw [num, numF_fuel f 10 k hf h10 h]; exact numF_len f k
theorem num_pos (k : Nat) : 0 < (num k).length := by
  unfold num numF; split <;> simp
theorem tagParts_sum : ∀ (ts : List ByteArray), Lines ts → (tagParts ts).length = 2 * ts.length + (ts.map ByteArray.size).sum
  | [], _ => rfl
  | t :: r, h => by
    have h1 := tagParts_sum r (fun x hx => h x (List.mem_cons_of_mem _ hx))
    have h2 := h t List.mem_cons_self
    simp only [tagParts] at h1
    simp only [tagParts, List.map_cons, List.flatten_cons, List.length_append, h1, List.length_cons, List.sum_cons, tagPart, text]
    have e : t.data.toList.length = t.size := by simp
    rw [num_one (by omega), num_one (by rw [e]; omega), e]
    omega
theorem sum_lines : ∀ (ts : List ByteArray), Lines ts → (ts.map ByteArray.size).sum ≤ 60 * ts.length
  | [], _ => by simp
  | t :: r, h => by
    have h1 := sum_lines r (fun x hx => h x (List.mem_cons_of_mem _ hx))
    have h2 := h t List.mem_cons_self
    simp only [List.map_cons, List.sum_cons, List.length_cons]; omega
def tagSum (e : Ev) : Nat := (e.tags.map ByteArray.size).sum
theorem bare_len {v : Int} {e : Ev} (h : goesB v e = true) : (encB v (bareEv e)).1.length ≤ 21 + e.task.size + tagSum e ∧ (encB v (bareEv e)).1.length ≤ 321 := by
  have hg := bare_goes h
  have hv := goes_ver hg
  obtain ⟨k1, k4, ht, _, t0, t1, _, hf, hl⟩ := is_known (goes_is h)
  rw [encB, if_neg (by simp [hv]), if_neg (by simp [hg])]
  have e1 : e.task.data.toList.length = e.task.size := by simp
  have h1 : (text e.task.data.toList).length = 1 + e.task.size := by simp only [text, List.length_append]; rw [num_one (by omega)]; omega
  have h5 : (timePart e.time).length ≤ 9 := by
    unfold timePart; split
    · simp
    · have := num_fuel (f := 8) (k := e.time.toNat) (by omega) (by omega) (by omega)
      rw [List.length_append, num_one (by omega)]; omega
  have h6 := tagParts_sum e.tags hl
  have h7 := sum_lines e.tags hl
  have h8 := shift_bd v
  unfold tagSum
  split
  · simp only [letterB, bareEv, List.cons_append, List.length_cons, List.length_append]
    show (text e.task.data.toList).length + 0 + 1 ≤ _ ∧ (text e.task.data.toList).length + 0 + 1 ≤ _
    omega
  · have h9 : (num (e.kind - shift v).toNat).length = 1 := num_one (by omega)
    have h10 : (num 1).length = 1 := num_one (by omega)
    have h11 : (num 2).length = 1 := num_one (by omega)
    simp only [fieldsB, bareEv, front, List.length_append, h9, h1, h10, h11]
    have h12 : (bodyPart ⟨#[]⟩).length = 0 := by decide +kernel
    rw [h12]
    omega
theorem chg_len {a b : ByteArray} (ha : a.size ≤ 60) (hb : b.size ≤ 60) : (chgB a b).length ≤ 62 := by
  have e1 : a.data.toList.length = a.size := by simp
  have e2 : b.data.toList.length = b.size := by simp
  have h1 := en_le a.data.toList b.data.toList
  have h2 := fr_le a.data.toList b.data.toList
  have h3 := mid_len a.data.toList b.data.toList
  rw [chgB, makeB, if_neg (by omega)]
  simp only [List.length_append]
  rw [num_one (by omega), num_one (by omega)]
  omega
theorem chg_back {a b : ByteArray} (ha : a.size ≤ 60) (hb : b.size ≤ 60) : applyB a.data.toList (chgB a b) = (b.data.toList, 0) := by
  have e1 : a.data.toList.length = a.size := by simp
  have e2 : b.data.toList.length = b.size := by simp
  have := chg_len ha hb
  exact apply_make (by omega) (by omega) (by unfold chgB at this; omega)
theorem numR_go {least most : Int} {n : Nat} (h1 : least ≤ n) (h2 : (n : Int) ≤ most) (h3 : n < 128 ^ 9) (r : List UInt8) : numR least most ⟨num n ++ r, false, false⟩ = (n, ⟨r, false, false⟩) := by
  simp only [numR, Rdr.stop, Bool.or_self, Bool.false_eq_true, if_false, readNum_of h3]
  rw [if_neg (by omega)]
theorem textR_go {most : Int} {t : List UInt8} (h1 : (t.length : Int) ≤ most) (h2 : t.length < 128 ^ 9) (r : List UInt8) : textR most ⟨text t ++ r, false, false⟩ = (t, ⟨r, false, false⟩) := by
  unfold textR text
  rw [List.append_assoc, numR_go (by omega) h1 h2]
  simp only [List.length_append]
  rw [if_neg (by omega)]
  simp
theorem evR_go {v : Int} {old : ByteArray} {e : Ev} (h : goesB v e = true) (ho : old.size ≤ 60) (r : List UInt8) : evR v old ⟨evB v old e ++ r, false, false⟩ = (e, ⟨r, false, false⟩) := by
  have hk := is_known (goes_is h)
  have hl : lineB e.body = true := by have := goes_is h; simp only [isB, Bool.and_eq_true] at this; exact this.2.2.2.2.2.1
  have h1 := (bare_len h).2
  have h2 := chg_len ho hk.body
  have h3 := (dec_of (bare_goes h)).2
  have ht : textR 321 ⟨evB v old e ++ r, false, false⟩ = ((encB v (bareEv e)).1, ⟨text (chgB old e.body) ++ r, false, false⟩) := by
    rw [evB, List.append_assoc]; exact textR_go (by omega) (by omega) _
  have hb : bareR v ⟨evB v old e ++ r, false, false⟩ = (bareEv e, ⟨text (chgB old e.body) ++ r, false, false⟩) := by
    unfold bareR
    rw [ht, h3]
    simp [Rdr.stop, bareOk, bareEv]
  have hd : bodyR old ⟨text (chgB old e.body) ++ r, false, false⟩ = (e.body, ⟨r, false, false⟩) := by
    unfold bodyR
    rw [textR_go (by omega) (by omega), chg_back ho hk.body]
    simp only [Rdr.stop, bodyOk, Bool.or_self, Bool.false_eq_true, if_false]
    rw [mk_data, hl]
    simp
  unfold evR
  rw [hb, hd]
  rfl
/- what is read of a list of events -/
theorem lastB_size {old : ByteArray} (ho : old.size ≤ 60) : ∀ (l : List Ev), (∀ e ∈ l, isB e = true) → (lastB old l).size ≤ 60
  | [], _ => ho
  | e :: r, h => lastB_size (is_known (h e List.mem_cons_self)).body r (fun x hx => h x (List.mem_cons_of_mem _ hx))
theorem evsR_go {v : Int} : ∀ (l l0 : List Ev) (r : List UInt8), (∀ e ∈ l, goesB v e = true) → (lastB noB l0).size ≤ 60 → evsR v l.length l0 ⟨evsB v (lastB noB l0) l ++ r, false, false⟩ = (l0 ++ l, ⟨r, false, false⟩)
  | [], l0, r, _, _ => by simp [evsR, evsB]
  | e :: l, l0, r, h, ho => by
    have he := h e List.mem_cons_self
    have hb : lastB noB (l0 ++ [e]) = e.body := by rw [lastB_append]; rfl
    simp only [List.length_cons, evsR, evsB, List.append_assoc]
    rw [evR_go he ho]
    simp only
    have := evsR_go l (l0 ++ [e]) r (fun x hx => h x (List.mem_cons_of_mem _ hx)) (by rw [hb]; exact (is_known (goes_is he)).body)
    rw [hb] at this
    rw [this]
    simp
/- a list of events that one entry takes, behind so many others -/
structure Good (n : Nat) (c : Chunk) : Prop where
  goes : ∀ e ∈ c.2, goesB c.1 e = true
  some : c.2 ≠ []
  few : n + c.2.length ≤ 200
theorem Good.ver {n : Nat} {c : Chunk} (h : Good n c) : 1 ≤ c.1 ∧ c.1 ≤ 3 := by
  obtain ⟨v, l⟩ := c
  cases l with
  | nil => exact absurd rfl h.some
  | cons e r => have := goes_ver (h.goes e List.mem_cons_self); simpa [isVer] using this
theorem entryR_go {c : Chunk} {l0 : List Ev} (h : Good l0.length c) (ho : (lastB noB l0).size ≤ 60) (r : List UInt8) : entryR l0 ⟨entryB c.1 (lastB noB l0) c.2 ++ r, false, false⟩ = (l0 ++ c.2, ⟨r, false, false⟩) := by
  have hv := h.ver
  have hl : 1 ≤ c.2.length := List.length_pos_iff.2 h.some
  have hf := h.few
  unfold entryR entryB headB
  have e1 : numR 1 3 ⟨num c.1.toNat ++ num c.2.length ++ evsB c.1 (lastB noB l0) c.2 ++ r, false, false⟩ = (c.1.toNat, ⟨num c.2.length ++ (evsB c.1 (lastB noB l0) c.2 ++ r), false, false⟩) := by
    rw [List.append_assoc, List.append_assoc]; exact numR_go (by omega) (by omega) (by omega) _
  rw [e1]
  simp only
  rw [numR_go (by omega) (by omega) (by omega)]
  simp only
  rw [show ((c.1.toNat : Nat) : Int) = c.1 by omega]
  exact evsR_go c.2 l0 r h.goes ho
end Chron
