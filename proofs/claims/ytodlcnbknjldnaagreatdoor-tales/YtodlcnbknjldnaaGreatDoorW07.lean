/- Walks and plain facts, in the order in which they lean on one another. -/
import Derived.Test.YtodlcnbknjldnaaGreatDoorW06
import Derived.Test.YtodlcnbknjldnaaGreatDoorW04
import Derived.Test.YtodlcnbknjldnaaGreatDoorW05
import Derived.Deep.QuietTactic
import Derived.BigQuiet
namespace Go.Proofs.YtodlcnbknjldnaaGreatDoor
open Go.RowKit Chron
def EvR (s : ByteArray) (o : Option (List UInt8)) (E : Ev) (p : Int) : Prop :=
  match o.bind eventL with
  | some (e', r) => capE E = e' ∧ p = pos s (some r) ∧ Suf s r
  | none => p = -1
theorem step_mem (c : UInt8) (e : Ev) (l : List UInt8) : stepL c e l = (signL c l).bind (memL e) := by
  unfold stepL memL
  cases signL c l with
  | none => rfl
  | some r => rfl
structure Hb (N : Nat) (w wx : World) (e : Ev) (x : Value) (hb : List Bool) : Prop where
  res : wx.heap[N]? = some (.cells #[.int .i64 0, .string ⟨#[]⟩, .int .i64 0, .string ⟨#[]⟩, .slice none 0 0] 29)
  box : wx.heap[N + 1]? = some (.cells #[.int .i64 e.kind, .string e.task, .int .i64 e.time, .string e.body, x] 29)
  had : wx.heap[N + 2]? = some (.cells (hb.map Value.bool).toArray 78)
  own : wx.ownsRow N 9 1 x e.tags.length (e.tags.map Value.string)
  ap : x.ownBlock ≠ some N ∧ x.ownBlock ≠ some (N + 1) ∧ x.ownBlock ≠ some (N + 2)
  bel : Below N w wx
  len : hb.length = 6
theorem Hb.big {N : Nat} {w wx : World} {e : Ev} {x : Value} {hb : List Bool} (h : Hb N w wx e x hb) : N + 3 ≤ wx.heap.size := (Array.getElem?_eq_some_iff.1 h.had).1
theorem Hb.more {N : Nat} {w wx wy : World} {e : Ev} {x : Value} {hb : List Bool} (h : Hb N w wx e x hb) (hB : Below wx.heap.size wx wy) : Hb N w wy e x hb := by
  have := h.big
  exact ⟨(hB.block N (by omega)).trans h.res, (hB.block (N + 1) (by omega)).trans h.box, (hB.block (N + 2) (by omega)).trans h.had, own_below h.own hB, h.ap, h.bel.trans (hB.mono (by omega)), h.len⟩
/- a new event in its place -/
theorem Hb.put {N : Nat} {w wx : World} {e e' : Ev} {x y : Value} {hb : List Bool} (h : Hb N w wx e x hb) (hy : wx.ownsRow N 9 1 y e'.tags.length (e'.tags.map Value.string)) (hap : y.ownBlock ≠ some N ∧ y.ownBlock ≠ some (N + 1) ∧ y.ownBlock ≠ some (N + 2)) :
    Hb N w (((((wx.setCell ⟨N + 1, 0, none⟩ (.int .i64 e'.kind)).setCell ⟨N + 1, 1, none⟩ (.string e'.task)).setCell ⟨N + 1, 2, none⟩ (.int .i64 e'.time)).setCell ⟨N + 1, 3, none⟩ (.string e'.body)).setCell ⟨N + 1, 4, none⟩ y) e' y hb := by
  have hoth : ∀ q, q ≠ N + 1 → (((((wx.setCell ⟨N + 1, 0, none⟩ (.int .i64 e'.kind)).setCell ⟨N + 1, 1, none⟩ (.string e'.task)).setCell ⟨N + 1, 2, none⟩ (.int .i64 e'.time)).setCell ⟨N + 1, 3, none⟩ (.string e'.body)).setCell ⟨N + 1, 4, none⟩ y).heap[q]? = wx.heap[q]? := fun q hq => by
    rw [Below.heap_setCell _ _ _ _ hq, Below.heap_setCell _ _ _ _ hq, Below.heap_setCell _ _ _ _ hq, Below.heap_setCell _ _ _ _ hq, Below.heap_setCell _ _ _ _ hq]
  refine ⟨(hoth N (by omega)).trans h.res, ?_, (hoth (N + 2) (by omega)).trans h.had, own_of_block hy fun q hq => hoth q ?_, hap, below_set5 h.bel (by omega), h.len⟩
  · exact loan_set (i := 4) (loan_set (i := 3) (loan_set (i := 2) (loan_set (i := 1) (loan_set (i := 0) h.box))))
  · rintro rfl; exact hap.2.1 hq
theorem Hb.mark {N : Nat} {w wx : World} {e : Ev} {x : Value} {hb : List Bool} {i : Nat} (h : Hb N w wx e x hb) : Hb N w (wx.setCell ⟨N + 2, i, none⟩ (.bool true)) e x (hb.set i true) := by
  have hoth : ∀ q, q ≠ N + 2 → (wx.setCell ⟨N + 2, i, none⟩ (.bool true)).heap[q]? = wx.heap[q]? := fun q hq => Below.heap_setCell _ _ _ _ hq
  refine ⟨(hoth N (by omega)).trans h.res, (hoth (N + 1) (by omega)).trans h.box, ?_, own_of_block h.own fun q hq => hoth q (by rintro rfl; exact h.ap.2.2 hq), h.ap, h.bel.setCell (by show N ≤ N + 2; omega) _, by rw [List.length_set]; exact h.len⟩
  have := set_row (i := i) (u := .bool true) h.had
  rw [this, List.map_set]
theorem Hb.out {N : Nat} {w wx : World} {e : Ev} {x x0 x1 x2 x3 x4 : Value} {hb : List Bool} (h : Hb N w wx e x hb) :
    (((((wx.setCell ⟨N, 0, none⟩ x0).setCell ⟨N, 1, none⟩ x1).setCell ⟨N, 2, none⟩ x2).setCell ⟨N, 3, none⟩ x3).setCell ⟨N, 4, none⟩ x4).ownsRow N 9 1 x e.tags.length (e.tags.map Value.string) ∧
    Below N w (((((wx.setCell ⟨N, 0, none⟩ x0).setCell ⟨N, 1, none⟩ x1).setCell ⟨N, 2, none⟩ x2).setCell ⟨N, 3, none⟩ x3).setCell ⟨N, 4, none⟩ x4) := by
  refine ⟨own_of_block h.own fun q hq => ?_, below_set5 h.bel (Nat.le_refl _)⟩
  have hq1 : q ≠ N := by rintro rfl; exact h.ap.1 hq
  rw [Below.heap_setCell _ _ _ _ hq1, Below.heap_setCell _ _ _ _ hq1, Below.heap_setCell _ _ _ _ hq1, Below.heap_setCell _ _ _ _ hq1, Below.heap_setCell _ _ _ _ hq1]
/- which names there were -/
def Marks6 (hb : List Bool) (ns : List (List UInt8)) : Prop := ∀ i : Nat, hb[i]? = some true ↔ ∃ nm ∈ ns, idx nm = (i : Int)
def okName (nm : List UInt8) : Prop := nm = nBody ∨ nm = nKind ∨ nm = nTags ∨ nm = nTask ∨ nm = nTime
theorem field_name {nm l r : List UInt8} {e e' : Ev} (h : fieldL nm e l = some (e', r)) : okName nm := by
  unfold fieldL at h
  split at h
  · exact .inl ‹_›
  · split at h
    · exact .inr (.inl ‹_›)
    · split at h
      · exact .inr (.inr (.inl ‹_›))
      · split at h
        · exact .inr (.inr (.inr (.inl ‹_›)))
        · split at h
          · exact .inr (.inr (.inr (.inr ‹_›)))
          · cases h
theorem mem_name {nm l r : List UInt8} {e e' : Ev} (h : memL e l = some (nm, e', r)) : okName nm := by
  unfold memL at h
  split at h
  · cases h
  · split at h
    · cases h
    · rename_i nm' _ _ _ r2 _
      cases hf : fieldL nm' e r2 with
      | none => rw [hf] at h; cases h
      | some p =>
        rw [hf] at h
        simp only [Option.map_some, Option.some.injEq, Prod.mk.injEq] at h
        obtain ⟨rfl, _⟩ := h
        exact field_name (e' := p.1) (r := p.2) hf
theorem idx_inj {a b : List UInt8} (ha : okName a) (hb : okName b) (h : idx a = idx b) : a = b := by
  rcases ha with rfl | rfl | rfl | rfl | rfl <;> rcases hb with rfl | rfl | rfl | rfl | rfl <;> first | rfl | exact absurd h (by decide)
theorem idx_bd {a : List UInt8} (ha : okName a) : ∃ n : Nat, idx a = n ∧ n < 6 := by
  rcases ha with rfl | rfl | rfl | rfl | rfl
  · exact ⟨1, rfl, by decide⟩
  · exact ⟨2, rfl, by decide⟩
  · exact ⟨3, rfl, by decide⟩
  · exact ⟨4, rfl, by decide⟩
  · exact ⟨5, rfl, by decide⟩
/- where the reading of an event stands -/
structure Now (s : ByteArray) (o : Option (List UInt8)) (n : Nat) (c : UInt8) (E : Ev) (ns : List (List UInt8)) (hb : List Bool) (q : Option (List UInt8)) : Prop where
  goal : (o.bind fun l => stepsL 5 123 evZero [] l) = q.bind fun t => stepsL n c (capE E) ns t
  nodup : ns.Nodup
  oks : ∀ nm ∈ ns, okName nm
  marks : Marks6 hb ns
  suf : ∀ r, q = some r → Suf s r
theorem event_bind (o : Option (List UInt8)) : o.bind eventL = (o.bind fun l => stepsL 5 123 evZero [] l).bind fun x => if x.2.1.Nodup then (signL 125 x.2.2).map fun r2 => (x.1, r2) else none := by
  cases o with
  | none => rfl
  | some l =>
    simp only [Option.bind_some, eventL]
    cases stepsL 5 123 evZero [] l with
    | none => rfl
    | some x => rfl
theorem Now.none {s : ByteArray} {o q : Option (List UInt8)} {n : Nat} {c : UInt8} {E : Ev} {ns : List (List UInt8)} {hb : List Bool} (h : Now s o (n + 1) c E ns hb q) (hq : q.bind (signL c) = .none) : o.bind eventL = .none := by
  rw [event_bind, h.goal]
  cases q with
  | none => rfl
  | some t =>
    simp only [Option.bind_some] at hq ⊢
    rw [stepsL, step_mem, hq]; rfl
theorem Now.bad {s : ByteArray} {o q : Option (List UInt8)} {n : Nat} {c : UInt8} {E : Ev} {ns : List (List UInt8)} {hb : List Bool} {t1 : List UInt8} (h : Now s o (n + 1) c E ns hb q) (hq : q.bind (signL c) = some t1) (hm : memL (capE E) t1 = .none) : o.bind eventL = .none := by
  rw [event_bind, h.goal]
  cases q with
  | none => rfl
  | some t =>
    simp only [Option.bind_some] at hq ⊢
    rw [stepsL, step_mem, hq, Option.bind_some, hm]; rfl
theorem Now.twice {s : ByteArray} {o q : Option (List UInt8)} {n : Nat} {c : UInt8} {E e' : Ev} {ns : List (List UInt8)} {hb : List Bool} {t1 nm r : List UInt8} (h : Now s o (n + 1) c E ns hb q) (hq : q.bind (signL c) = some t1) (hm : memL (capE E) t1 = some (nm, e', r)) (hin : nm ∈ ns) : o.bind eventL = .none := by
  rw [event_bind, h.goal]
  cases q with
  | none => rfl
  | some t =>
    simp only [Option.bind_some] at hq ⊢
    rw [stepsL, step_mem, hq, Option.bind_some, hm]
    simp only
    cases hs : stepsL n 44 e' (ns ++ [nm]) r with
    | none => rfl
    | some x =>
      obtain ⟨_, _, _, hp⟩ := steps_suf n (e' := x.1) (had' := x.2.1) (r := x.2.2) hs
      simp only [Option.bind_some]
      rw [if_neg]
      intro hnd
      have := hnd.sublist hp.sublist
      rw [List.nodup_append] at this
      exact this.2.2 nm hin nm (by simp) rfl
theorem Now.next {s : ByteArray} {o q : Option (List UInt8)} {n : Nat} {c : UInt8} {E E' e' : Ev} {ns : List (List UInt8)} {hb : List Bool} {t1 nm r : List UInt8} {i : Nat} (h : Now s o (n + 1) c E ns hb q) (hq : q.bind (signL c) = some t1) (hm : memL (capE E) t1 = some (nm, e', r)) (hE : capE E' = e') (hr : Suf s r) (hi : idx nm = (i : Int)) (hl : hb.length = 6) (hno : ¬ hb[i]? = some true) :
    Now s o n 44 E' (ns ++ [nm]) (hb.set i true) (some r) := by
  have hok := mem_name hm
  have hnin : nm ∉ ns := fun hin => hno ((h.marks i).2 ⟨nm, hin, hi⟩)
  obtain ⟨j, hj1, hj2⟩ := idx_bd hok
  have hij : i = j := by omega
  refine ⟨?_, ?_, ?_, ?_, fun x hx => by rw [← Option.some.inj hx]; exact hr⟩
  · rw [h.goal]
    cases q with
    | none => cases hq
    | some t =>
      simp only [Option.bind_some] at hq ⊢
      rw [stepsL, step_mem, hq, Option.bind_some, hm, hE]
  · rw [List.nodup_append]
    exact ⟨h.nodup, by simp, fun a ha b hb => by simp only [List.mem_singleton] at hb; rintro rfl; rw [hb] at ha; exact hnin ha⟩
  · intro a ha
    rcases List.mem_append.1 ha with ha | ha
    · exact h.oks a ha
    · simp only [List.mem_singleton] at ha; rw [ha]; exact hok
  · intro a
    by_cases hai : a = i
    · subst hai
      constructor
      · intro _; exact ⟨nm, by simp, hi⟩
      · intro _; rw [List.getElem?_set_self (by omega)]
    · rw [List.getElem?_set_ne (Ne.symm hai), h.marks a]
      constructor
      · rintro ⟨x, hx, hxi⟩; exact ⟨x, by simp [hx], hxi⟩
      · rintro ⟨x, hx, hxi⟩
        rcases List.mem_append.1 hx with hx | hx
        · exact ⟨x, hx, hxi⟩
        · simp only [List.mem_singleton] at hx
          rw [hx, hi] at hxi
          omega
theorem Now.done {s : ByteArray} {o : Option (List UInt8)} {c : UInt8} {E : Ev} {ns : List (List UInt8)} {hb : List Bool} {t : List UInt8} (h : Now s o 0 c E ns hb (some t)) : EvR s o E (pos s (signL 125 t)) := by
  unfold EvR
  rw [event_bind, h.goal]
  simp only [Option.bind_some, stepsL]
  rw [if_pos h.nodup]
  cases hc : signL 125 t with
  | none => rfl
  | some r => exact ⟨rfl, rfl, (h.suf t rfl).trans (sign_suf hc).1⟩
theorem EvR.no {s : ByteArray} {o : Option (List UInt8)} {E : Ev} (h : o.bind eventL = .none) : EvR s o E (-1) := by unfold EvR; rw [h]
end Go.Proofs.YtodlcnbknjldnaaGreatDoor
namespace Chron
open Go Go.RowKit
theorem perm_of {α : Type} [DecidableEq α] : ∀ {a b : List α}, a.Nodup → (∀ x ∈ a, x ∈ b) → b.length ≤ a.length → a.Perm b
  | [], b, _, _, hl => by
    have : b = [] := List.eq_nil_of_length_eq_zero (by simpa using hl)
    rw [this]
  | x :: a, b, hn, hs, hl => by
    have hx : x ∈ b := hs x (by simp)
    have hn2 := List.nodup_cons.1 hn
    have h1 : a.Perm (b.erase x) := perm_of hn2.2 (fun y hy => (List.mem_erase_of_ne (by rintro rfl; exact hn2.1 hy)).2 (hs y (by simp [hy]))) (by
      rw [List.length_erase_of_mem hx]; simp at hl; omega)
    exact (h1.cons x).trans (List.perm_cons_erase hx).symm
def namesL : List (List UInt8) := [nBody, nKind, nTags, nTask, nTime]
def leL (x y : List UInt8) : Bool := decide (x ≤ y)
theorem names_sorted : namesL.Pairwise (fun a b => leL a b = true) := by decide
theorem leL_trans (a b c : List UInt8) : leL a b = true → leL b c = true → leL a c = true := by
  simp only [leL, decide_eq_true_eq]; exact List.le_trans
theorem leL_total (a b : List UInt8) : (leL a b || leL b a) = true := by
  simp only [leL, Bool.or_eq_true, decide_eq_true_eq]; exact List.le_total a b
theorem sort_names {ns : List (List UInt8)} (h : ns.Perm namesL) : ns.mergeSort leL = namesL := by
  have h1 : (ns.mergeSort leL).Perm namesL := (List.mergeSort_perm ns leL).trans h
  have h2 := List.pairwise_mergeSort leL_trans leL_total ns
  exact h1.eq_of_pairwise (fun a b _ _ hab hba => List.le_antisymm (of_decide_eq_true hab) (of_decide_eq_true hba)) h2 names_sorted
theorem names_iff {ns : List (List UInt8)} (hl : ns.length = 5) (hn : ∀ x ∈ ns, x ∈ namesL) : ns.mergeSort leL = namesL ↔ ns.Nodup := by
  constructor
  · intro h
    have h1 := List.mergeSort_perm ns leL
    rw [h] at h1
    exact h1.nodup_iff.1 (by decide)
  · intro h
    exact sort_names (perm_of h hn (by simp [namesL, hl]))
end Chron
namespace Go.Proofs.YtodlcnbknjldnaaGreatDoor
open Go.RowKit Chron
def nameAt (i : Nat) : List UInt8 := namesL.getD i []
/- the tables that start-up code lays, below a place -/
structure Glob (B : Nat) (w : World) : Prop where
  err : ErrV w
  kinds : Kinds w
  names : ∀ i, i < 5 → w.cell? ⟨0, i, none⟩ = some (.string (ba (nameAt i)))
  below : B ≤ w.heap.size
  e : 8 < B
  k : 1 < B
  n : 0 < B
theorem Glob.more {B : Nat} {w w' : World} (h : Glob B w) (hb : Below B w w') : Glob B w' := by
  obtain ⟨⟨te, pe, e1⟩, k1, n1, hB, he, hk, hn⟩ := h
  refine ⟨⟨te, pe, (hb.cell (p := ⟨_, 0, none⟩) he).trans e1⟩, ?_, fun i hi => (hb.cell (p := ⟨_, i, none⟩) hn).trans (n1 i hi), Nat.le_trans hB hb.size, he, hk, hn⟩
  intro i hi
  exact (hb.cell (p := ⟨_, i, none⟩) hk).trans (k1 i hi)
theorem Glob.far {B R : Nat} {w w' : World} (h : Glob B w) (hR : B ≤ R) (hf : Far w w' [some R]) : Glob B w' :=
  h.more (hf.below h.below (fun q hq => by simp at hq; omega))
theorem ext_mid (z y a b : UInt8) (r : List UInt8) : (ba (z :: y :: a :: b :: r)).extract 2 4 = ⟨#[a, b]⟩ := by
  apply bytes_inj
  simp [ba, ByteArray.extract, ByteArray.copySlice]
theorem ext_front (z y a b : UInt8) (r : List UInt8) : (ba (z :: y :: a :: b :: r)).extract 0 2 = ⟨#[z, y]⟩ := by
  apply bytes_inj
  simp [ba, ByteArray.extract, ByteArray.copySlice]
theorem ext_rest (z y a b : UInt8) (r : List UInt8) : (ba (z :: y :: a :: b :: r)).extract 4 (ba (z :: y :: a :: b :: r)).size = ba r := by
  have := extract_mk_drop (z :: y :: a :: b :: r) 4
  exact this
theorem coded_less {l : List UInt8} (h : l.length < 4) : codedL l = none := by
  match l, h with
  | [], _ => rfl
  | [_], _ => rfl
  | [_, _], _ => rfl
  | [_, _, _], _ => rfl
  | _ :: _ :: _ :: _ :: _, h => simp at h; omega
theorem four_of {l : List UInt8} (h : ¬ l.length < 4) : ∃ z y a d r, l = z :: y :: a :: d :: r := by
  match l, h with
  | [], h => simp at h
  | [_], h => simp at h
  | [_, _], h => simp at h
  | [_, _, _], h => simp at h
  | z :: y :: a :: d :: r, _ => exact ⟨z, y, a, d, r, rfl⟩
theorem coded_hex (a b : UInt8) (r : List UInt8) : codedL (48 :: 48 :: a :: b :: r) = (hexN 0 [a, b]).map fun n => (UInt8.ofNat n, r) := by
  simp only [codedL, hexN]
  cases ha : hexD a with
  | none => rfl
  | some m =>
    cases hb : hexD b with
    | none => rfl
    | some n => simp
theorem hexN_lt {a b : UInt8} {n : Nat} (h : hexN 0 [a, b] = some n) : n < 256 := by
  simp only [hexN] at h
  cases ha : hexD a with
  | none => rw [ha] at h; cases h
  | some m =>
    rw [ha] at h
    simp only at h
    cases hb : hexD b with
    | none => rw [hb] at h; cases h
    | some k =>
      rw [hb] at h
      have := hex_lt ha
      have := hex_lt hb
      simp at h
      omega
set_option maxRecDepth 100000 in
set_option maxHeartbeats 2000000 in
theorem coded_any (B R : Nat) (l : List UInt8) (b : Bool) (w : World) (G : Hid (Glob B w)) (hBR : B ≤ R) (h : Hid (Rd R w l b)) (hl : l.length ≤ 1048576) :
    Calls Tryz.prog 93 #[.pointer (some ⟨R, 0, none⟩)] w fun e w' => e = .returned (.int .u8 ((oC (codedL l)).toNat : Int)) ∧ Hid (St R w' b (oR (codedL l))) ∧ Hid (Far w w' [some R]) := by
  have HBR := hide0 hBR
  clear hBR
  by_cases hsh : l.length < 4
  · have HQ := hide0 (coded_less hsh)
    obtain ⟨c0, c1, cf⟩ := h.out.cells
    have hs : ((ba l).size : Int) < 4 := by rw [ba_len]; omega
    clear hsh
    go_enter Tryz.func93, Tryz.ntmps93
    go_wp2_with fail
    refine (fail_any R _ _ _ h).mono ?_
    rintro e w1 ⟨rfl, H1, HF1⟩
    go_wp2
    go_ret
    exact ⟨ret_u8 (by rw [HQ.out]; rfl), by rw [HQ.out]; exact H1, HF1⟩
  · obtain ⟨z, y, a, d, r, rfl⟩ := four_of hsh
    clear hsh
    obtain ⟨c0, c1, cf⟩ := h.out.cells
    obtain ⟨S, T0, T1, HSE, hge, hle, hx0, hx1, hx2, HT0, HT1⟩ : ∃ S T0 T1, Hid (ba (z :: y :: a :: d :: r) = S) ∧ 4 ≤ S.size ∧ S.size ≤ 1048576 ∧ S.extract 0 2 = T0 ∧ S.extract 2 4 = T1 ∧ S.extract 4 S.size = ba r ∧ Hid (T0.toList = [z, y]) ∧ Hid (T1.data.toList = [a, d] ∧ T1.size = 2) :=
      ⟨ba (z :: y :: a :: d :: r), ⟨#[z, y]⟩, ⟨#[a, d]⟩, rfl, by rw [ba_len]; simp, by rw [ba_len]; omega, ext_front .., ext_mid .., ext_rest .., by rw [Hid, ByteArray.toList_eq], ⟨rfl, rfl⟩⟩
    rw [HSE.out] at c0
    have hbd : 2 ≤ S.size := by omega
    by_cases hzy : z = 48 ∧ y = 48
    · obtain ⟨rfl, rfl⟩ := hzy
      have hP := fun X hX => parseUint_any T1 X (by rw [HT1.out.2]; decide) (by rw [HT1.out.2]; decide) hX
      have HC := hide0 (coded_hex a d r)
      rw [HT1.out.1] at hP
      have hcm : (T0.toList == [48, 48]) = true := by rw [HT0.out]; rfl
      cases hq : hexN 0 [a, d] with
      | some n =>
        have hn := hexN_lt hq
        have HQ : Hid (codedL (48 :: 48 :: a :: d :: r) = some (UInt8.ofNat n, r) ∧ (UInt8.ofNat n).toNat = n) := by
          refine ⟨by rw [HC.out, hq]; rfl, ?_⟩
          rw [UInt8.toNat_ofNat_of_lt' (by omega)]
        rw [hq] at hP
        simp only at hP
        have hnI : (n : Int) < 256 := by omega
        go_enter Tryz.func93, Tryz.ntmps93
        go_wp2_with fail
        refine (hP _ G.out.err).mono ?_
        rintro e w1 ⟨rfl, hb1⟩
        have H1 := hide0 (h.out.more hb1)
        have H2 := hide0 (H1.out.set (l' := r))
        have HF1 : Hid (Far w w1 [some R]) := Far.of_below hb1 (Nat.le_refl _)
        clear c0 c1 cf hb1
        obtain ⟨c0, c1, cf⟩ := H1.out.cells
        rw [HSE.out] at c0
        go_wp2
        go_ret
        exact ⟨ret_u8 (by rw [HQ.out.1]; show _ = (((UInt8.ofNat n).toNat : Nat) : Int); rw [HQ.out.2]), by rw [HQ.out.1]; exact H2, HF1.out.setCell (p := ⟨R, 0, none⟩) (.inl (by simp)) _⟩
      | none =>
        have HQ : Hid (codedL (48 :: 48 :: a :: d :: r) = none) := by rw [Hid, HC.out, hq]; rfl
        rw [hq] at hP
        simp only at hP
        go_enter Tryz.func93, Tryz.ntmps93
        go_wp2_with fail
        refine (hP _ G.out.err).mono ?_
        rintro e w1 ⟨⟨x, te, pe, rfl⟩, hb1⟩
        have H1 := hide0 (h.out.more hb1)
        have HF1 : Hid (Far w w1 [some R]) := Far.of_below hb1 (Nat.le_refl _)
        clear c0 c1 cf hb1
        go_wp2_with fail
        refine (fail_any R _ _ _ H1).mono ?_
        rintro e w2 ⟨rfl, H2, HF2⟩
        go_wp2
        go_ret
        exact ⟨ret_u8 (by rw [HQ.out]; rfl), by rw [HQ.out]; exact H2, HF1.out.trans HF2.out⟩
    · have HQ : Hid (codedL (z :: y :: a :: d :: r) = none) := by rw [Hid, codedL, if_neg hzy]
      have hcm : (T0.toList == [48, 48]) = false := by
        rw [beq_eq_false_iff_ne, HT0.out]
        intro he
        simp at he
        exact hzy he
      clear hzy
      go_enter Tryz.func93, Tryz.ntmps93
      go_wp2_with fail
      refine (fail_any R _ _ _ h).mono ?_
      rintro e w1 ⟨rfl, H1, HF1⟩
      go_wp2
      go_ret
      exact ⟨ret_u8 (by rw [HQ.out]; rfl), by rw [HQ.out]; exact H1, HF1⟩
end Go.Proofs.YtodlcnbknjldnaaGreatDoor
namespace Go.Proofs.YtodlcnbknjldnaaGreatDoor
open Go.RowKit Chron
theorem Far.loose {R : List (Option Nat)} {a b : World} (h : Far a b []) : Far a b R := ⟨h.os, h.tape, h.output, h.size, fun k hk _ => h.block k hk (fun r hr => by cases hr)⟩
set_option maxRecDepth 100000 in
set_option maxHeartbeats 2000000 in
theorem escaped_any (B R : Nat) (l : List UInt8) (b : Bool) (w : World) (G : Hid (Glob B w)) (hBR : B ≤ R) (h : Hid (Rd R w l b)) (hl : l.length ≤ 1048576) :
    Calls Tryz.prog 74 #[.pointer (some ⟨R, 0, none⟩)] w fun e w' => e = .returned (.int .u8 ((oC (escL l)).toNat : Int)) ∧ Hid (St R w' b (oR (escL l))) ∧ Hid (Far w w' [some R]) := by
  have hN := rnext_any R l b w h hl
  have HBR := hide0 hBR
  clear hBR
  cases l with
  | nil =>
    have e0 : ((oC (nextL [])).toNat : Int) = 0 := rfl
    rw [e0] at hN
    go_enter Tryz.func74, Tryz.ntmps74
    go_wp2_with fail
    refine hN.mono ?_
    rintro e w1 ⟨rfl, H1, HF1⟩
    go_wp2_with fail
    refine (fail_any R _ _ _ H1).mono ?_
    rintro e w2 ⟨rfl, H2, HF2⟩
    go_wp2
    go_ret
    exact ⟨rfl, H2, HF1.out.trans HF2.out⟩
  | cons c r =>
    by_cases h3 : c = 34 ∨ c = 92 ∨ c = 47
    · have HQ : Hid (escL (c :: r) = some (c, r)) := by rw [Hid, escL]; simp [h3]
      have key : ∀ z : Int, z = 34 ∨ z = 92 ∨ z = 47 → ((oC (nextL (c :: r))).toNat : Int) = z → Calls Tryz.prog 74 #[.pointer (some ⟨R, 0, none⟩)] w fun e w' => e = .returned (.int .u8 z) ∧ Hid (St R w' b (some r)) ∧ Hid (Far w w' [some R]) := by
        intro z hz e0
        rw [e0] at hN
        rcases hz with rfl | rfl | rfl
        all_goals
          go_enter Tryz.func74, Tryz.ntmps74
          go_wp2_with fail
          refine hN.mono ?_
          rintro e w1 ⟨rfl, H1, HF1⟩
          go_wp2
          go_ret
          exact ⟨rfl, H1, HF1⟩
      rw [HQ.out]
      refine (key ((c.toNat : Nat) : Int) ?_ rfl)
      rcases h3 with rfl | rfl | rfl
      · exact .inl rfl
      · exact .inr (.inl rfl)
      · exact .inr (.inr rfl)
    · by_cases hu : c = 117
      · have HQ : Hid (escL (c :: r) = plainL (codedL r)) := by rw [Hid, escL]; simp [hu]
        subst hu
        have e0 : ((oC (nextL (117 :: r))).toNat : Int) = 117 := rfl
        rw [e0] at hN
        have hr : r.length ≤ 1048576 := by simp at hl; omega
        clear h3
        go_enter Tryz.func74, Tryz.ntmps74
        go_wp2_with fail
        refine hN.mono ?_
        rintro e w1 ⟨rfl, H1, HF1⟩
        have G1 := hide0 (G.out.far HBR.out HF1.out)
        go_wp2_with fail
        refine (coded_any B R r b _ G1 HBR.out H1 hr).mono ?_
        rintro e w2 ⟨rfl, H2, HF2⟩
        go_wp2_with fail
        refine (plain_any R _ _ _ (oC (codedL r)) rfl _ H2).mono ?_
        rintro e w3 ⟨rfl, H3, HF3⟩
        go_wp2
        go_ret
        have HQ2 : escL (117 :: r) = plainL (codedL r) := HQ.out
        rw [HQ2]
        cases hc : codedL r with
        | none =>
          rw [hc] at H3
          exact ⟨rfl, H3, (HF1.out.trans HF2.out).trans HF3.out⟩
        | some p =>
          obtain ⟨d, r2⟩ := p
          rw [hc] at H3
          exact ⟨rfl, H3, (HF1.out.trans HF2.out).trans HF3.out⟩
      · have HQ : Hid (escL (c :: r) = none) := by rw [Hid, escL]; simp [h3, hu]
        obtain ⟨z, e0, HZ⟩ : ∃ z : Int, ((oC (nextL (c :: r))).toNat : Int) = z ∧ Hid (z = (c.toNat : Int)) := ⟨_, rfl, rfl⟩
        have ne : ∀ d : UInt8, c ≠ d → (z == (d.toNat : Int)) = false := by
          intro d hd
          rw [beq_eq_false_iff_ne, HZ.out]
          intro h
          exact hd (UInt8.toNat_inj.1 (by omega))
        have n1 : (z == 34) = false := ne 34 (fun h => h3 (.inl h))
        have n2 : (z == 92) = false := ne 92 (fun h => h3 (.inr (.inl h)))
        have n3 : (z == 47) = false := ne 47 (fun h => h3 (.inr (.inr h)))
        have n4 : (z == 117) = false := ne 117 hu
        rw [e0] at hN
        clear h3 hu ne e0
        go_enter Tryz.func74, Tryz.ntmps74
        go_wp2_with fail
        refine hN.mono ?_
        rintro e w1 ⟨rfl, H1, HF1⟩
        go_wp2_with fail
        refine (fail_any R _ _ _ H1).mono ?_
        rintro e w2 ⟨rfl, H2, HF2⟩
        go_wp2
        go_ret
        exact ⟨ret_u8 (by rw [HQ.out]; rfl), by rw [HQ.out]; exact H2, HF1.out.trans HF2.out⟩
set_option maxRecDepth 100000 in
set_option maxHeartbeats 2000000 in
theorem rquoted_any (B R : Nat) (x : UInt8) (r : List UInt8) (b : Bool) (w : World) (G : Hid (Glob B w)) (hBR : B ≤ R) (h : Hid (Rd R w (x :: r) b)) (hl : (x :: r).length ≤ 1048576) :
    Calls Tryz.prog 56 #[.pointer (some ⟨R, 0, none⟩)] w fun e w' => e = .returned (.int .u8 ((oC (letterL (x :: r))).toNat : Int)) ∧ Hid (St R w' b (oR (letterL (x :: r)))) ∧ Hid (Far w w' [some R]) := by
  have hN := rnext_any R (x :: r) b w h hl
  have HBR := hide0 hBR
  have hr : r.length ≤ 1048576 := by simp at hl; omega
  clear hBR
  by_cases hx : x = 92
  · have HQ : Hid (letterL (x :: r) = escL r) := by rw [Hid, letter_esc, if_pos hx]
    subst hx
    have e0 : ((oC (nextL (92 :: r))).toNat : Int) = 92 := rfl
    rw [e0] at hN
    go_enter Tryz.func56, Tryz.ntmps56
    go_wp2_with fail
    refine hN.mono ?_
    rintro e w1 ⟨rfl, H1, HF1⟩
    have G1 := hide0 (G.out.far HBR.out HF1.out)
    go_wp2_with fail
    refine (escaped_any B R r b _ G1 HBR.out H1 hr).mono ?_
    rintro e w2 ⟨rfl, H2, HF2⟩
    go_wp2
    go_ret
    exact ⟨ret_u8 (by rw [HQ.out]), by rw [HQ.out]; exact H2, HF1.out.trans HF2.out⟩
  · have HQ : Hid (letterL (x :: r) = plainL (some (x, r))) := by rw [Hid, letter_esc, if_neg hx]
    obtain ⟨z, e0, HZ⟩ : ∃ z : Int, ((oC (nextL (x :: r))).toNat : Int) = z ∧ Hid (z = (x.toNat : Int)) := ⟨_, rfl, rfl⟩
    have n1 : (z == 92) = false := by
      rw [beq_eq_false_iff_ne, HZ.out]
      intro h
      exact hx (UInt8.toNat_inj.1 (by show x.toNat = 92; omega))
    rw [e0] at hN
    clear e0 hx
    go_enter Tryz.func56, Tryz.ntmps56
    go_wp2_with fail
    refine hN.mono ?_
    rintro e w1 ⟨rfl, H1, HF1⟩
    go_wp2_with fail
    refine (plain_any R r b z x HZ.out _ H1).mono ?_
    rintro e w2 ⟨rfl, H2, HF2⟩
    go_wp2
    go_ret
    exact ⟨ret_u8 (by rw [HQ.out]), by rw [HQ.out]; exact H2, HF1.out.trans HF2.out⟩
end Go.Proofs.YtodlcnbknjldnaaGreatDoor
namespace Go.Proofs.YtodlcnbknjldnaaGreatDoor
open Go.RowKit Chron
theorem builder_far {T e : TypeId} {b R : Nat} {bs : List Value} {w w' : World} (h : Lib.IsBuilderF T e b b bs w) (hf : Far w w' [some R]) (hR : R < b) : Lib.IsBuilderF T e b b bs w' := by
  have one : ∀ p, Lib.BuilderAtF T e b b p bs w → Lib.BuilderAtF T e b b p bs w' := by
    intro p h
    have hlt := h.lt
    obtain ⟨hB, v, hv, hown, hne⟩ := h
    refine ⟨hB, v, (hf.block b hlt (by simp; omega)).trans hv, hown.kept (row := some R) ⟨hf.os, hf.tape, hf.output, hf.size, fun k hk hne => hf.block k hk (by simpa using Ne.symm hne)⟩ ?_, hne⟩
    rcases hown.2 with hn | ⟨g, cap, cur, fz, hv', hb', _⟩
    · exact .inl (by rw [hn.1]; rfl)
    · exact .inr (by rw [hv']; simp only [Value.ownBlock, ne_eq, Option.some.injEq]; omega)
  exact h.elim (fun x => .inl (one _ x)) (fun x => .inr (one _ x))
theorem Far.low {R : List (Option Nat)} {a b c : World} (h : Far a b R) (hb : Below a.heap.size b c) : Far a c R :=
  ⟨hb.os.trans h.os, hb.tape.trans h.tape, hb.output.trans h.output, Nat.le_trans h.size hb.size, fun k hk hR => (hb.block k hk).trans (h.block k hk hR)⟩
def restLen (R : Nat) (w : World) : Nat := match w.cell? ⟨R, 0, none⟩ with | some (.string s) => s.size | _ => 0
theorem restLen_of {R : Nat} {w : World} {l : List UInt8} {b : Bool} (h : Rd R w l b) : restLen R w = l.length := by
  rw [restLen, h.cells.1]; rfl
theorem Rd.far {R : Nat} {w w' : World} {l : List UInt8} {b : Bool} {B : Nat} (h : Rd R w l b) (hb : Below B w w') (hR : R < B) : Rd R w' l b := (hb.block R hR).trans h
def qR (o : Option (List UInt8 × List UInt8)) : Option (List UInt8) := o.map (·.2)
/- where the reading of what stands in quotes has come to -/
def TextR (l : List UInt8) (b : Bool) (acc lr : List UInt8) (br : Bool) : Prop :=
  (br = b ∧ quoteL l = (inL lr).map fun p => (acc ++ p.1, p.2)) ∨ (quoteL l = none ∧ lr = [] ∧ br = true)
theorem TextR.start (l : List UInt8) (b : Bool) : TextR l b [] (stL (signL 34 l)) (stB b (signL 34 l)) := by
  unfold TextR quoteL
  cases h : signL 34 l with
  | none => exact .inr ⟨rfl, rfl, rfl⟩
  | some r =>
    refine .inl ⟨rfl, ?_⟩
    show inL r = _
    simp [stL]
theorem TextR.step {l acc rr : List UInt8} {b br : Bool} {x : UInt8} (h : TextR l b acc (x :: rr) br) (hx : x ≠ 34) : TextR l b (acc ++ [oC (letterL (x :: rr))]) (stL (oR (letterL (x :: rr)))) (stB br (oR (letterL (x :: rr)))) := by
  rcases h with ⟨h1, h2⟩ | ⟨_, h2, _⟩
  · cases hl : letterL (x :: rr) with
    | none =>
      refine .inr ⟨?_, rfl, rfl⟩
      rw [h2, in_bad hx hl]; rfl
    | some p =>
      obtain ⟨c, r2⟩ := p
      refine .inl ⟨h1, ?_⟩
      rw [h2, in_step hx hl, Option.map_map]
      congr 1
      funext p
      simp [oC]
  · cases h2
theorem TextR.none {l acc : List UInt8} {b br : Bool} (h : TextR l b acc [] br) : quoteL l = none := by
  rcases h with ⟨_, h2⟩ | ⟨h2, _⟩
  · rw [h2, in_nil]; rfl
  · exact h2
theorem TextR.done {l acc rr : List UInt8} {b br : Bool} (h : TextR l b acc (34 :: rr) br) : quoteL l = some (acc, rr) ∧ br = b := by
  rcases h with ⟨h1, h2⟩ | ⟨_, h2, _⟩
  · rw [h2, in_end]; exact ⟨by simp, h1⟩
  · cases h2
theorem sign_34 (rr : List UInt8) : signL 34 (34 :: rr) = some rr := by
  unfold signL skipL
  rw [List.dropWhile_cons_of_neg (by decide)]
  rfl
theorem letter_len {x : UInt8} {rr : List UInt8} : (stL (oR (letterL (x :: rr)))).length < (x :: rr).length := by
  cases h : letterL (x :: rr) with
  | none => simp [oR, stL]
  | some p => exact (letter_suf (c := p.1) (r := p.2) h).2
theorem put_long (b : Nat) (l : List UInt8) (X : World) (hX : Lib.IsBuilderF 83 5 b b (Lib.byteCells l) X) (hl : l.length ≤ 2000000) (z : Int) (c : UInt8) (hz : z = (c.toNat : Int)) :
    Calls Tryz.prog 50 #[.pointer (some ⟨b, 0, none⟩), .int .u8 z] X fun e X' => e = .returned .nilIface ∧ Hid (Lib.IsBuilderF 83 5 b b (Lib.byteCells (l ++ [c])) X') ∧ Below b X X' := by
  subst hz
  refine (Tryz.Builder_WriteByte_k b b _ _ _ hX (by rw [Lib.byteCells_length]; omega) (Nat.le_of_lt (builder_lt hX))).mono ?_
  rintro e w1 ⟨rfl, hB1, hb1, _⟩
  rw [byteCells_push] at hB1
  exact ⟨rfl, .inr hB1, hb1⟩
set_option maxRecDepth 100000 in
set_option maxHeartbeats 2000000 in
theorem rtext_any (B R : Nat) (l : List UInt8) (b : Bool) (w : World) (G : Hid (Glob B w)) (hBR : Hid (B ≤ R)) (h : Hid (Rd R w l b)) (hl : l.length ≤ 1048576) :
    Calls Tryz.prog 41 #[.pointer (some ⟨R, 0, none⟩)] w fun e w' => ∃ s : ByteArray, e = .returned (.string s) ∧ Hid (St R w' b (qR (quoteL l))) ∧ Hid (∀ p, quoteL l = some p → s = ba p.1) ∧ Hid (Far w w' [some R]) := by
  have HBN := hide0 (builder_new 83 5 w)
  have hRw := h.out.lt
  have H0 : Hid (Rd R (w.alloc (.cells #[.pointer none, .slice none 0 0] 83)) l b) := h.out.more ((Below.refl _ _).alloc (Nat.le_refl _) _)
  have hS : (stL (signL 34 l)).length ≤ 1048576 := by
    cases hq : signL 34 l with
    | none => simp [stL]
    | some r => have := (sign_suf hq).2; simp only [stL]; omega
  go_enter Tryz.func41, Tryz.ntmps41
  go_wp2_with fail
  refine (need_any R l b 34 34 rfl _ H0 hl).mono ?_
  rintro e w1 ⟨rfl, H1, HF1⟩
  have HB1 := hide0 (builder_far HBN.out HF1.out hRw)
  have HW1 : Hid (Far w w1 [some R]) := (Far.alloc (Far.refl w _) _).trans HF1.out
  have HT0 := hide0 (TextR.start l b)
  clear HBN H0 HF1
  go_wp2_with fail
  go_loopw [18] (fun _ wx => ∃ (acc lr : List UInt8) (br : Bool), acc.length + lr.length ≤ 1048577 ∧ lr.length ≤ 1048576 ∧ Hid (TextR l b acc lr br) ∧ Hid (Rd R wx lr br) ∧ Hid (Lib.IsBuilderF 83 5 w.heap.size w.heap.size (Lib.byteCells acc) wx) ∧ Hid (Far w wx [some R])) (fun _ wx => restLen R wx)
  case atStart => exact ⟨[], _, _, by simp; omega, hS, HT0, H1, HB1, HW1⟩
  case round =>
    obtain ⟨acc, lr, br, hsum, hlr, HT, HR, HB, HW⟩ := hrel
    have hsz := HW.out.size
    have HG : Hid (Glob B wr) := G.out.far hBR.out HW.out
    cases lr with
    | nil =>
      obtain ⟨c0, c1, cf⟩ := HR.out.cells
      have he : (ba ([] : List UInt8)).toList = [] := ba_toList []
      have HQ := hide0 HT.out.none
      go_wp2_with fail
      refine (need_any R [] br 34 34 rfl _ HR (by simp)).mono ?_
      rintro e w2 ⟨rfl, H2, HF2⟩
      have HB2 := hide0 (builder_far HB.out HF2.out hRw)
      have HW2 := hide0 (HW.out.trans HF2.out)
      have hs2 := HW2.out.size
      clear c0 c1 cf
      go_wp2_with fail
      refine (Tryz.Builder_String_any_k w.heap.size w.heap.size _ _ HB2.out hs2).mono ?_
      rintro e w3 ⟨rfl, hB3, hb3, _⟩
      have H3 : Hid (St R w3 b none) := H2.out.far hb3 hRw
      have HW3 := hide0 (HW2.out.low hb3)
      clear hB3 hb3
      go_wp2
      go_ret
      exact ⟨_, rfl, by rw [HQ.out]; exact H3, (by intro p hp; rw [HQ.out] at hp; cases hp), HW3⟩
    | cons x rr =>
      obtain ⟨S, HSE, hne, hle, hlt, hb0⟩ : ∃ S, Hid (ba (x :: rr) = S) ∧ (S.toList == []) = false ∧ S.size ≤ 1048576 ∧ ∃ hlt : 0 < S.size, S[0].toNat = x.toNat :=
        ⟨ba (x :: rr), rfl, by rw [ba_toList]; rfl, by rw [ba_len]; omega, by rw [ba_len]; simp, rfl⟩
      have hne2 : S.toList.isEmpty = false := by
        cases hz : S.toList with
        | nil => rw [hz] at hne; cases hne
        | cons _ _ => rfl
      obtain ⟨c0, c1, cf⟩ := HR.out.cells
      rw [HSE.out] at c0
      by_cases hx : x = 34
      · have hcmp : ((S[0].toNat : Int) == 34) = true := by rw [hb0, hx]; rfl
        subst hx
        obtain ⟨hq1, hq2⟩ := HT.out.done
        have HQ := hide0 hq1
        have HQ2 := hide0 hq2
        clear hb0 hq1 hq2
        go_wp2_with fail
        refine (need_any R (34 :: rr) br 34 34 rfl _ HR hlr).mono ?_
        rintro e w2 ⟨rfl, H2, HF2⟩
        have HB2 := hide0 (builder_far HB.out HF2.out hRw)
        have HW2 := hide0 (HW.out.trans HF2.out)
        have hs2 := HW2.out.size
        clear c0 c1 cf
        go_wp2_with fail
        refine (Tryz.Builder_String_any_k w.heap.size w.heap.size _ _ HB2.out hs2).mono ?_
        rintro e w3 ⟨rfl, hB3, hb3, _⟩
        have H3 : Hid (St R w3 b (some rr)) := by
          have := H2.out.far hb3 hRw
          rw [sign_34, HQ2.out] at this
          exact this
        have HW3 := hide0 (HW2.out.low hb3)
        clear hB3 hb3
        go_wp2
        go_ret
        exact ⟨_, rfl, by rw [HQ.out]; exact H3, (by intro p hp; rw [HQ.out] at hp; rw [← Option.some.inj hp]; rfl), HW3⟩
      · have hcmp : ((S[0].toNat : Int) == 34) = false := by
          rw [hb0, beq_eq_false_iff_ne]
          intro h
          exact hx (UInt8.toNat_inj.1 (by show x.toNat = 34; omega))
        have HT2 := hide0 (HT.out.step hx)
        have hlen := letter_len (x := x) (rr := rr)
        clear hb0 hx
        go_wp2_with fail
        refine (rquoted_any B R x rr br _ HG hBR.out HR hlr).mono ?_
        rintro e w2 ⟨rfl, H2, HF2⟩
        have HB2 := hide0 (builder_far HB.out HF2.out hRw)
        have HW2 := hide0 (HW.out.trans HF2.out)
        clear c0 c1 cf
        go_wp2_with fail
        refine (put_long w.heap.size _ _ HB2.out (by omega) _ (oC (letterL (x :: rr))) rfl).mono ?_
        rintro e w3 ⟨rfl, HB3, hb3⟩
        have H3 : Hid (Rd R w3 _ _) := H2.out.far hb3 hRw
        have HW3 := hide0 (HW2.out.low hb3)
        clear hb3
        go_wp2
        go_roundw
        case rel => exact ⟨_, _, _, by rw [List.length_append]; simp only [List.length_cons, List.length_nil] at hlen hsum ⊢; omega, by omega, HT2, H3, HB3, HW3⟩
        case measure => rw [restLen_of HR.out, restLen_of H3.out]; exact hlen
end Go.Proofs.YtodlcnbknjldnaaGreatDoor
namespace Go.Proofs.YtodlcnbknjldnaaGreatDoor
open Go.RowKit Chron
def cR (o : Option (Nat × List UInt8)) : Option (List UInt8) := o.map (·.2)
set_option maxRecDepth 100000 in
theorem dig_all : ∀ n : Fin 256, ([48, 49, 50, 51, 52, 53, 54, 55, 56, 57] : List UInt8).contains (UInt8.ofNat n.val) = isDig (UInt8.ofNat n.val) := by decide
theorem trim_dig (l : List UInt8) : Lib.trimLeftS l [48, 49, 50, 51, 52, 53, 54, 55, 56, 57] = l.dropWhile isDig := by
  unfold Lib.trimLeftS
  congr 1
  funext c
  have := dig_all ⟨c.toNat, c.toNat_lt⟩
  simpa using this
theorem numL_le (ds : List UInt8) : numL ds ≤ 1125899906842625 := by
  unfold numL
  have : ∀ (l : List UInt8) (a : Nat), a ≤ 1125899906842625 → l.foldl (fun n d => capN n d.toNat) a ≤ 1125899906842625 := by
    intro l
    induction l with
    | nil => intro a h; exact h
    | cons x l ih => intro a h; exact ih _ (Nat.min_le_right _ _)
  exact this ds 0 (by decide)
theorem numL_snoc (ds : List UInt8) (d : UInt8) : numL (ds ++ [d]) = capN (numL ds) d.toNat := by unfold numL; rw [List.foldl_append]; rfl
set_option maxRecDepth 100000 in
set_option maxHeartbeats 2000000 in
theorem rnumber_any (R : Nat) (l : List UInt8) (b : Bool) (w : World) (h : Hid (Rd R w l b)) (hl : l.length ≤ 1048576) :
    Calls Tryz.prog 59 #[.pointer (some ⟨R, 0, none⟩)] w fun e w' => ∃ n : Int, e = .returned (.int .i64 n) ∧ Hid (St R w' b (cR (countL l))) ∧ Hid (∀ p, countL l = some p → n = (p.1 : Int)) ∧ Hid (Far w w' [some R]) := by
  have hS := skip_any R l b w h
  have hsl := (skip_suf l).length_le
  have HCL : Hid (countL l = if badNum ((skipL l).takeWhile isDig) then none else some (numL ((skipL l).takeWhile isDig), (skipL l).dropWhile isDig)) := rfl
  generalize skipL l = sk at hS hsl HCL
  have htd := List.takeWhile_append_dropWhile (p := isDig) (l := sk)
  have HD : Hid (∀ d ∈ sk.takeWhile isDig, isDig d = true) := fun d hd => List.all_eq_true.1 List.all_takeWhile d hd
  have hT := fun X => Tryz.strings_TrimLeft (ba sk) ⟨#[48, 49, 50, 51, 52, 53, 54, 55, 56, 57]⟩ X (by decide) (ascii_of_all (by decide))
  have e : (ba sk).data.toList = sk := by simp [ba]
  rw [e] at hT
  simp only [trim_dig] at hT
  generalize sk.takeWhile isDig = ds at htd HD HCL
  generalize sk.dropWhile isDig = dr at htd hT HCL
  obtain ⟨S, T, D, m, HSE, HTE, HDE, hSs, hTs, hsub, hDs, hext⟩ : ∃ (S T D : ByteArray) (m : Nat), Hid (ba sk = S) ∧ Hid ((⟨dr.toArray⟩ : ByteArray) = T) ∧ Hid (ba ds = D ∧ ds.length = m) ∧ S.size ≤ 1048576 ∧ T.size ≤ S.size ∧ (S.size : Int) - (T.size : Int) = (m : Int) ∧ D.size = m ∧ S.extract 0 m = D :=
    ⟨ba sk, ⟨dr.toArray⟩, ba ds, ds.length, rfl, rfl, ⟨rfl, rfl⟩, by rw [ba_len]; omega, by rw [← htd]; show dr.length ≤ (ds ++ dr).length; simp, by rw [← htd]; show (((ds ++ dr).length : Nat) : Int) - ((dr.length : Nat) : Int) = _; rw [List.length_append]; omega, rfl, by rw [← htd]; have := extract_mk_take (ds ++ dr) ds.length; rw [List.take_left] at this; exact this⟩
  have hmS : (m : Int) ≤ (S.size : Int) := by omega
  have hm0 : m ≤ 1048576 := by omega
  rw [HTE.out, HSE.out] at hT
  clear htd hsl
  go_enter Tryz.func59, Tryz.ntmps59
  go_wp2_with fail
  refine hS.mono ?_
  rintro e w1 ⟨rfl, H1, HF1⟩
  obtain ⟨c0, c1, cf⟩ := H1.out.cells
  rw [HSE.out] at c0
  go_wp2_with fail
  refine (hT _).mono ?_
  rintro e w2 ⟨rfl, hb2⟩
  have H2 := hide0 (H1.out.more hb2)
  have HF2 : Hid (Far w w2 [some R]) := HF1.out.trans (Far.of_below hb2 (Nat.le_refl _))
  clear c0 c1 cf hb2 hT
  obtain ⟨c0, c1, cf⟩ := H2.out.cells
  rw [HSE.out] at c0
  go_wp2_with fail
  go_quiet (fail)
  have HF3 : Hid (Far w (w2.drewN nq) [some R]) := HF2.out.trans ⟨rfl, rfl, rfl, Nat.le_refl _, fun _ _ _ => rfl⟩
  have H3 : Hid (Rd R (w2.drewN nq) sk b) := H2.out
  have H4 : Hid (Rd R ((w2.drewN nq).setCell ⟨R, 0, none⟩ (.string T)) dr b) := by
    have := H3.out.set (l' := dr)
    rw [← HTE.out]; exact this
  have HF4 : Hid (Far w ((w2.drewN nq).setCell ⟨R, 0, none⟩ (.string T)) [some R]) := HF3.out.setCell (p := ⟨R, 0, none⟩) (.inl (by simp)) _
  clear c0 c1 cf H1 HF1 H2 HF2 hext hsub hTs hmS
  generalize w2.drewN nq = w3 at H3 HF3 H4 HF4
  obtain ⟨c0, c1, cf⟩ := H3.out.cells
  rw [HSE.out] at c0
  have hDl : D.toList = ds := by rw [← HDE.out.1]; exact ba_toList ds
  cases ds with
  | nil =>
    have he : (D.toList == []) = true := by rw [hDl]; rfl
    have HQ : Hid (countL l = none) := by rw [Hid, HCL.out]; rfl
    clear hDl
    go_wp2_with fail
    refine (fail_any R _ _ _ H4).mono ?_
    rintro e w5 ⟨rfl, H5, HF5⟩
    go_wp2
    go_ret
    exact ⟨_, rfl, by rw [HQ.out]; exact H5, (by intro p hp; rw [HQ.out] at hp; cases hp), HF4.out.trans HF5.out⟩
  | cons d0 dt =>
    have hne : (D.toList == []) = false := by rw [hDl]; rfl
    have hpos : 0 < D.size := by rw [hDs, ← HDE.out.2]; simp
    have hb0 : D[0].toNat = d0.toNat := by
      have h1 : D.data.toList[0]? = some d0 := by
        have : D.data.toList = d0 :: dt := by rw [← HDE.out.1]; rfl
        rw [this]; rfl
      have h2 : D.data.toList[0]? = some D[0] := by
        rw [List.getElem?_eq_getElem (by simpa using hpos)]; rfl
      rw [h1] at h2
      rw [← Option.some.inj h2]
    by_cases hbad : d0 = 48 ∧ dt ≠ []
    · have hc1 : ((D[0].toNat : Int) == 48) = true := by rw [hb0, hbad.1]; rfl
      have hc2 : (D.toList == [48]) = false := by rw [hDl, beq_eq_false_iff_ne]; intro he; simp at he; exact hbad.2 he.2
      have HQ : Hid (countL l = none) := by
        rw [Hid, HCL.out, if_pos]
        obtain ⟨rfl, h2⟩ := hbad
        simp [badNum, h2]
      clear hDl hbad hb0
      go_wp2_with fail
      refine (fail_any R _ _ _ H4).mono ?_
      rintro e w5 ⟨rfl, H5, HF5⟩
      go_wp2
      go_ret
      exact ⟨_, rfl, by rw [HQ.out]; exact H5, (by intro p hp; rw [HQ.out] at hp; cases hp), HF4.out.trans HF5.out⟩
    · have HQ : Hid (countL l = some (numL (d0 :: dt), dr)) := by
        rw [Hid, HCL.out, if_neg]
        simp only [badNum, List.isEmpty_cons, Bool.false_or, List.head?_cons, Bool.and_eq_true, beq_iff_eq, bne_iff_ne, Option.some.injEq, not_and]
        intro h1 h2
        exact hbad ⟨h1, fun h3 => h2 (by rw [h1, h3])⟩
      have hcs : ((D[0].toNat : Int) == 48) = false ∨ (((D[0].toNat : Int) == 48) = true ∧ (D.toList == [48]) = true) := by
        by_cases h48 : d0 = 48
        · right
          have h3 : dt = [] := Classical.byContradiction fun h => hbad ⟨h48, h⟩
          exact ⟨by rw [hb0, h48]; rfl, by rw [hDl, h48, h3]; rfl⟩
        · left
          rw [hb0, beq_eq_false_iff_ne]
          intro h
          exact h48 (UInt8.toNat_inj.1 (by show d0.toNat = 48; omega))
      have HDL : Hid (D.data.toList = d0 :: dt) := by rw [Hid, ← HDE.out.1]; rfl
      clear hDl hbad hb0
      generalize d0 :: dt = ds at HD HDE HQ HDL
      rcases hcs with hc1 | ⟨hc1, hc2⟩
      all_goals
        go_wp2_with fail
        go_loop [5, 46] (fun nv iv => ∃ (k : Nat) (x : Int), k ≤ m ∧ iv = .int .i64 k ∧ nv = .int .i64 x ∧ 0 ≤ x ∧ x ≤ 1125899906842625 ∧ Hid (x = (numL (ds.take k) : Int))) (fun _ iv => m - (intOf iv).toNat)
        case atStart => exact ⟨0, 0, Nat.zero_le _, rfl, rfl, by decide, by decide, rfl⟩
        case round =>
          obtain ⟨k, x, hk, rfl, rfl, hx0, hx1, HX⟩ := hrel
          by_cases hlt : k < m
          · have hkD : k < D.size := by omega
            have hkd : k < ds.length := by rw [HDE.out.2]; exact hlt
            have hget : D[k] = ds[k] := by
              have h1 : D.data.toList[k]? = some D[k] := by rw [List.getElem?_eq_getElem (by simpa using hkD)]; rfl
              rw [HDL.out, List.getElem?_eq_getElem hkd] at h1
              exact (Option.some.inj h1).symm
            have hdg := (dig_iff _).1 (HD.out ds[k] (List.getElem_mem hkd))
            rw [← hget] at hdg
            obtain ⟨hd0, hd1⟩ := hdg
            have HN : Hid (((numL (ds.take (k + 1)) : Nat) : Int) = min (10 * x + ((D[k].toNat : Int) - 48)) 1125899906842625) := by
              show _ = _
              rw [List.take_succ_eq_append_getElem hkd, numL_snoc, capN, HX.out, hget]
              rw [hget] at hd0
              omega
            have HB : Hid (numL (ds.take (k + 1)) ≤ 1125899906842625) := numL_le _
            clear hget hkd
            go_wp2_with fail
            go_round
            case rel => exact ⟨k + 1, min (10 * x + ((D[k].toNat : Int) - 48)) 1125899906842625, by omega, by go_num, rfl, by omega, by omega, HN.out.symm⟩
            case measure => simp [intOf]; omega
          · have HE : Hid (x = (numL ds : Int)) := by rw [Hid, HX.out, List.take_of_length_le (by rw [HDE.out.2]; omega)]
            go_wp2
            go_ret
            exact ⟨_, rfl, by rw [HQ.out]; exact H4, (by first | (intro p hp; rw [HQ.out] at hp; rw [← Option.some.inj hp]; exact HE.out) | (intro a c hp; rw [HQ.out] at hp; cases hp; exact HE.out)), HF4⟩
end Go.Proofs.YtodlcnbknjldnaaGreatDoor
namespace Go.Proofs.YtodlcnbknjldnaaGreatDoor
open Go.RowKit Chron
def kindL (l : List UInt8) : Option (Int × List UInt8) := (quoteL l).bind fun p => (kindW p.1).map fun k => (k, p.2)
def kR (o : Option (Int × List UInt8)) : Option (List UInt8) := o.map (·.2)
def KV (o : Option (Int × List UInt8)) (n : Int) : Prop := ∀ p, o = some p → n = p.1
def wd (i : Nat) : ByteArray := ⟨(wordB ((i : Int) + 1)).toArray⟩
theorem wd_list (i : Nat) : (wd i).toList = wordB ((i : Int) + 1) := by rw [ByteArray.toList_eq]; simp [wd]
theorem kindW_some {q : List UInt8} {i : Nat} (hi : i < 4) (h : q = wordB ((i : Int) + 1)) : kindW q = some ((i : Int) + 1) := by
  have h4 : i = 0 ∨ i = 1 ∨ i = 2 ∨ i = 3 := by omega
  rcases h4 with rfl | rfl | rfl | rfl <;> subst h <;> decide
theorem kindW_none {q : List UInt8} (h : ∀ i : Nat, i < 4 → q ≠ wordB ((i : Int) + 1)) : kindW q = none := by
  have h0 := h 0 (by decide)
  have h1 := h 1 (by decide)
  have h2 := h 2 (by decide)
  have h3 := h 3 (by decide)
  unfold kindW
  exact (if_neg h0).trans ((if_neg h1).trans ((if_neg h2).trans (if_neg h3)))
theorem kind_none {l : List UInt8} (h : quoteL l = none) : kindL l = none := by unfold kindL; rw [h]; rfl
theorem kind_some {l q r : List UInt8} (h : quoteL l = some (q, r)) : kindL l = (kindW q).map fun k => (k, r) := by unfold kindL; rw [h]; rfl
theorem at_kinds (W : World) (x0 x1 x2 x3 : ByteArray) {i : Nat} (hi : i < 4) : (Instr.index 90 (.agg #[.string x0, .string x1, .string x2, .string x3]) (.int .i64 (i : Int))).run Tryz.prog W = .ok (.string (([x0, x1, x2, x3] : List ByteArray)[i]'(by simpa using hi))) W := by
  have h4 : i = 0 ∨ i = 1 ∨ i = 2 ∨ i = 3 := by omega
  rcases h4 with rfl | rfl | rfl | rfl <;>
  simp [Instr.index, run_underlying Tryz.underlying90, asIntOf, go_sem]
set_option maxRecDepth 100000 in
set_option maxHeartbeats 2000000 in
theorem rkind_any (B R : Nat) (l : List UInt8) (b : Bool) (w : World) (G : Hid (Glob B w)) (hBR : Hid (B ≤ R)) (h : Hid (Rd R w l b)) (hl : l.length ≤ 1048576) :
    Calls Tryz.prog 57 #[.pointer (some ⟨R, 0, none⟩)] w fun e w' => ∃ n : Int, e = .returned (.int .i64 n) ∧ Hid (St R w' b (kR (kindL l))) ∧ Hid (KV (kindL l) n) ∧ Hid (Far w w' [some R]) := by
  go_enter Tryz.func57, Tryz.ntmps57
  go_wp2_with fail
  refine (rtext_any B R l b w G hBR h hl).mono ?_
  rintro e w1 ⟨s, rfl, H1, HS, HF1⟩
  have G1 := hide0 (G.out.far hBR.out HF1.out)
  have k0 : w1.cell? ⟨1, 0, none⟩ = some (.string (wd 0)) := G1.out.kinds 0 (by decide)
  have k1 : w1.cell? ⟨1, 1, none⟩ = some (.string (wd 1)) := G1.out.kinds 1 (by decide)
  have k2 : w1.cell? ⟨1, 2, none⟩ = some (.string (wd 2)) := G1.out.kinds 2 (by decide)
  have k3 : w1.cell? ⟨1, 3, none⟩ = some (.string (wd 3)) := G1.out.kinds 3 (by decide)
  go_wp2_with fail
  go_loop [9] (fun iv => ∃ k : Nat, k ≤ 4 ∧ iv = .int .i64 k ∧ Hid (∀ i : Nat, i < k → s.toList ≠ wordB ((i : Int) + 1))) (fun iv => 4 - (intOf iv).toNat)
  case atStart => exact ⟨0, by decide, rfl, fun i hi => by omega⟩
  case round =>
    obtain ⟨k, hk, rfl, HN⟩ := hrel
    by_cases hlt : k < 4
    · have hyes : s = wd k → Hid (St R w1 b (kR (kindL l))) ∧ Hid (KV (kindL l) (1 + (k : Int))) := by
        intro hs
        have hsl : s.toList = wordB ((k : Int) + 1) := by rw [hs, wd_list]
        cases hq : quoteL l with
        | none =>
          have hk' := kind_none hq
          rw [hq] at H1
          exact ⟨by rw [hk']; exact H1, fun p hp => by rw [hk'] at hp; cases hp⟩
        | some p =>
          obtain ⟨q, r⟩ := p
          have hsq := HS.out _ hq
          have hkw : kindW q = some ((k : Int) + 1) := kindW_some hlt (by rw [← hsl, hsq, ba_toList])
          have hk' : kindL l = some ((k : Int) + 1, r) := by rw [kind_some hq, hkw]; rfl
          rw [hq] at H1
          exact ⟨by rw [hk']; exact H1, fun p hp => by rw [hk'] at hp; rw [← Option.some.inj hp]; exact Int.add_comm _ _⟩
      have HY := hide0 hyes
      clear hyes
      have xk : ∀ W, (Instr.index 90 (.agg #[.string (wd 0), .string (wd 1), .string (wd 2), .string (wd 3)]) (.int .i64 (k : Int))).run Tryz.prog W = .ok (.string (wd k)) W := fun W => by
        rw [at_kinds W (wd 0) (wd 1) (wd 2) (wd 3) hlt]
        have h4 : k = 0 ∨ k = 1 ∨ k = 2 ∨ k = 3 := by omega
        rcases h4 with rfl | rfl | rfl | rfl <;> rfl
      by_cases hs : s = wd k
      · obtain ⟨Y1, Y2⟩ := HY.out hs
        have hs2 : (s.toList == (wd k).toList) = true := by rw [hs]; exact beq_self_eq_true _
        have HS2 := hide0 hs
        clear HY hs
        go_wp2_with fail
        go_ret
        exact ⟨_, rfl, Y1, Y2, HF1⟩
      · have HN2 : Hid (∀ i : Nat, i < k + 1 → s.toList ≠ wordB ((i : Int) + 1)) := by
          intro i hi
          by_cases hik : i < k
          · exact HN.out i hik
          · have : i = k := by omega
            subst this
            intro he
            exact hs (by apply bytes_inj; rw [← ByteArray.toList_eq, he, ← wd_list, ByteArray.toList_eq])
        have hs2 : (s.toList == (wd k).toList) = false := by
          rw [beq_eq_false_iff_ne]
          intro he
          exact hs (by apply bytes_inj; rw [← ByteArray.toList_eq, he, ByteArray.toList_eq])
        clear HY hs
        go_wp2_with fail
        go_round
        case rel => exact ⟨k + 1, by omega, by go_num, HN2⟩
        case measure => simp [intOf]; omega
    · have hk4 : k = 4 := by omega
      subst hk4
      have HQ : Hid (kindL l = none) := by
        show _ = _
        cases hq : quoteL l with
        | none => exact kind_none hq
        | some p =>
          obtain ⟨q, r⟩ := p
          have hsq := HS.out _ hq
          rw [kind_some hq, kindW_none (fun i hi => by have := HN.out i hi; rwa [hsq, ba_toList] at this)]; rfl
      go_wp2_with fail
      refine (fail_any R _ _ _ H1).mono ?_
      rintro e w2 ⟨rfl, H2, HF2⟩
      go_wp2
      go_ret
      exact ⟨_, rfl, by rw [HQ.out]; exact H2, (by first | (intro p hp; rw [HQ.out] at hp; cases hp) | (intro a c hp; rw [HQ.out] at hp; cases hp)), HF1.out.trans HF2.out⟩
end Go.Proofs.YtodlcnbknjldnaaGreatDoor
namespace Go.Proofs.YtodlcnbknjldnaaGreatDoor
open Go.RowKit Chron
theorem sign_skip (c : UInt8) (l : List UInt8) : signL c (skipL l) = signL c l := by unfold signL; rw [skip_skip]
theorem quote_skip (l : List UInt8) : quoteL (skipL l) = quoteL l := by unfold quoteL; rw [sign_skip]
section
variable {α β : Type} (one : List UInt8 → Option (α × List UInt8)) (hone : ∀ l x r, one l = some (x, r) → r.length < l.length)
def oneR (o : Option (α × List UInt8)) : Option (List UInt8) := o.map (·.2)
def afterL (acc : List α) (lr : List UInt8) : Option (List α × List UInt8) :=
  match signL 44 lr with
  | some r2 => (itemsL one hone r2).map fun p => (acc ++ p.1, p.2)
  | none => (signL 93 lr).map fun r3 => (acc, r3)
def ListR (F : Option (List α × List UInt8)) (b : Bool) (f : β → α) (vs : List β) (lr : List UInt8) (br : Bool) : Prop :=
  (br = b ∧ F = afterL one hone (vs.map f) lr) ∨ (F = none ∧ lr = [] ∧ br = true)
theorem one_nil {one : List UInt8 → Option (α × List UInt8)} (hone : ∀ l x r, one l = some (x, r) → r.length < l.length) : one [] = none := by
  cases h : one [] with
  | none => rfl
  | some p => have := hone _ p.1 p.2 h; simp at this
theorem items_after (l : List UInt8) : itemsL one hone l = match one l with | none => none | some (x, r) => afterL one hone [x] r := by
  cases h : one l with
  | none => exact items_none h
  | some p =>
    obtain ⟨x, r⟩ := p
    simp only
    cases h44 : signL 44 r with
    | some r2 => rw [items_more h h44]; simp [afterL, h44]
    | none => rw [items_last h h44]; simp [afterL, h44]
theorem ListR.start {l : List UInt8} {b : Bool} {f : β → α} {v : β} (hs : ∀ l, one (skipL l) = one l) (h93 : signL 93 (stL (signL 91 l)) = none) (hv : ∀ p, one (skipL (stL (signL 91 l))) = some p → f v = p.1) :
    ListR one hone (listL one hone l) b f [v] (stL (oneR (one (skipL (stL (signL 91 l)))))) (stB (stB b (signL 91 l)) (oneR (one (skipL (stL (signL 91 l)))))) := by
  unfold listL
  cases h1 : signL 91 l with
  | none =>
    refine .inr ⟨rfl, ?_, ?_⟩
    · show stL (oneR (one (skipL []))) = []
      rw [hs, one_nil hone]; rfl
    · show stB true (oneR (one (skipL []))) = true
      rw [hs, one_nil hone]; rfl
  | some r =>
    rw [h1] at h93 hv
    simp only [stL] at h93 hv
    simp only [h93]
    show ListR one hone (itemsL one hone r) b f [v] (stL (oneR (one (skipL r)))) (stB b (oneR (one (skipL r))))
    rw [hs] at hv ⊢
    rw [items_after]
    cases ho : one r with
    | none => exact .inr ⟨rfl, rfl, rfl⟩
    | some p =>
      obtain ⟨x, r3⟩ := p
      refine .inl ⟨rfl, ?_⟩
      have := hv _ ho
      simp only at this
      simp [this, oneR, stL]
theorem ListR.step {F : Option (List α × List UInt8)} {b br : Bool} {f : β → α} {vs : List β} {lr r2 : List UInt8} {v : β} (h : ListR one hone F b f vs lr br) (h44 : signL 44 lr = some r2) (hv : ∀ p, one r2 = some p → f v = p.1) :
    ListR one hone F b f (vs ++ [v]) (stL (oneR (one r2))) (stB br (oneR (one r2))) := by
  rcases h with ⟨h1, h2⟩ | ⟨_, h2, _⟩
  · rw [afterL, h44] at h2
    simp only at h2
    rw [items_after] at h2
    cases ho : one r2 with
    | none =>
      rw [ho] at h2
      exact .inr ⟨h2, rfl, rfl⟩
    | some p =>
      obtain ⟨x, r3⟩ := p
      rw [ho] at h2
      simp only at h2
      have := hv _ ho
      simp only at this
      refine .inl ⟨h1, ?_⟩
      rw [h2]
      show Option.map _ (afterL one hone [x] r3) = afterL one hone ((vs ++ [v]).map f) r3
      unfold afterL
      cases signL 44 r3 with
      | none => cases signL 93 r3 <;> simp [this]
      | some r4 => simp [this]; rfl
  · rw [h2, sign_nil] at h44; cases h44
def lisR (F : Option (List α × List UInt8)) : Option (List UInt8) := F.map (·.2)
theorem ListR.done {F : Option (List α × List UInt8)} {b br : Bool} {f : β → α} {vs : List β} {lr : List UInt8} (h : ListR one hone F b f vs lr br) (h44 : signL 44 lr = none) :
    stL (signL 93 (skipL lr)) = stL (lisR F) ∧ stB br (signL 93 (skipL lr)) = stB b (lisR F) ∧ ∀ p, F = some p → vs.map f = p.1 := by
  rw [sign_skip]
  rcases h with ⟨h1, h2⟩ | ⟨h1, h2, h3⟩
  · rw [afterL, h44] at h2
    simp only at h2
    rw [h2, h1]
    cases signL 93 lr with
    | none => exact ⟨rfl, rfl, fun p hp => by cases hp⟩
    | some r3 => exact ⟨rfl, rfl, fun p hp => by rw [← Option.some.inj hp]⟩
  · rw [h1, h2, h3]
    exact ⟨rfl, rfl, fun p hp => by cases hp⟩
theorem ListR.short {F : Option (List α × List UInt8)} {b br : Bool} {f : β → α} {vs : List β} {lr : List UInt8} (_h : ListR one hone F b f vs lr br) (o : Option (α × List UInt8)) (l2 : List UInt8) (ho : one l2 = o) : (stL (oneR o)).length ≤ l2.length ∧ (0 < l2.length → (stL (oneR o)).length < l2.length) := by
  cases o with
  | none => exact ⟨Nat.zero_le _, fun h => h⟩
  | some p => have := hone _ p.1 p.2 ho; exact ⟨Nat.le_of_lt this, fun _ => this⟩
end
end Go.Proofs.YtodlcnbknjldnaaGreatDoor
