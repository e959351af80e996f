/- Walks and plain facts, in the order in which they lean on one another. -/
import Derived.Test.YtdjllnhahhjgmaaGreatW16
import Derived.Test.YtdjllnhahhjgmaaGreatW18
import Derived.Deep.RegionHeld3
import Derived.Test.YtdjllnhahhjgmaaGreatW03
import Derived.Test.YtdjllnhahhjgmaaGreatW11
namespace Chron
open Go Go.RowKit
theorem fileB_le (a b : List Chunk) : (fileB noB a).length ≤ (fileB noB (a ++ b)).length := by rw [fileB_append]; simp
theorem take_more (D : List Chunk) {i j : Nat} (h : i ≤ j) : D.take j = D.take i ++ (D.take j).drop i := by
  have h1 := (List.take_append_drop i (D.take j)).symm
  rw [List.take_take, Nat.min_eq_left h] at h1
  exact h1
theorem stands_up (C0 D : List Chunk) {i j : Nat} (h : i ≤ j) : (fileB noB (C0 ++ D.take i)).length ≤ (fileB noB (C0 ++ D.take j)).length := by
  rw [take_more D h, ← List.append_assoc]
  exact fileB_le _ _
theorem evs_up (C0 D : List Chunk) {i j : Nat} (h : i ≤ j) : ∃ t, evsOf (C0 ++ D.take j) = evsOf (C0 ++ D.take i) ++ t := by
  rw [take_more D h, ← List.append_assoc, evsOf_append]
  exact ⟨_, rfl⟩
/- a file that is cut behind its first stand: its last whole stand is read -/
theorem cut_at {C0 D : List Chunk} (hg : GoodC 0 (C0 ++ D)) (n : Nat) (h0 : (fileB noB C0).length ≤ n) (hn : n ≤ (fileB noB (C0 ++ D)).length) : ∃ k, k ≤ D.length ∧ (∀ i, i ≤ D.length → ((fileB noB (C0 ++ D.take i)).length ≤ n ↔ i ≤ k)) ∧ readB ((fileB noB (C0 ++ D)).take n) = (evsOf (C0 ++ D.take k), (fileB noB (C0 ++ D.take k)).length, true) ∧ ((fileB noB (C0 ++ D)).take n).take (fileB noB (C0 ++ D.take k)).length = fileB noB (C0 ++ D.take k) := by
  obtain ⟨a, b, p, e1, e2, e3, e4, e5, e6⟩ := fileB_cut (C0 ++ D) [] n hg
  have e2' : (fileB noB (C0 ++ D)).take n = fileB noB a ++ p := e2
  have e4' : (fileB noB a).length ≤ min n (fileB noB (C0 ++ D)).length := e4
  have e6' : ∀ c r, b = c :: r → min n (fileB noB (C0 ++ D)).length < (fileB noB (a ++ [c])).length := fun c r h => by
    have h6 : min n (fileB noB (C0 ++ D)).length < (fileB noB a).length + (entryB c.1 (lastB noB ([] ++ evsOf a)) c.2).length := e6 c r h
    rw [fileB_snoc, List.length_append]
    simpa using h6
  have hga : GoodC 0 a := by rw [e1] at hg; exact (GoodC.append.1 hg).1
  have hln := congrArg List.length e1
  simp only [List.length_append] at hln
  have hle : C0.length ≤ a.length := by
    apply Nat.le_of_not_lt
    intro hlt
    cases b with
    | nil => simp at hln; omega
    | cons c r =>
      have h6 := e6' c r rfl
      have hpre : a ++ [c] = C0.take (a.length + 1) := by
        have h7 := congrArg (List.take (a.length + 1)) e1
        rw [List.take_append_of_le_length (by omega)] at h7
        rw [h7, show a ++ c :: r = (a ++ [c]) ++ r by simp, List.take_append_of_le_length (by simp), List.take_of_length_le (by simp)]
      have h8 : (fileB noB (a ++ [c])).length ≤ (fileB noB C0).length := by
        rw [hpre]
        have h9 := fileB_le (C0.take (a.length + 1)) (C0.drop (a.length + 1))
        rwa [List.take_append_drop] at h9
      omega
  have ha : a = C0 ++ D.take (a.length - C0.length) := by
    have h7 := congrArg (List.take a.length) e1
    rw [List.take_append, List.take_of_length_le hle, List.take_append_of_le_length (Nat.le_refl _), List.take_of_length_le (Nat.le_refl _)] at h7
    exact h7.symm
  refine ⟨a.length - C0.length, by omega, fun i hi => ⟨fun h => ?_, fun h => ?_⟩, ?_, ?_⟩
  · apply Nat.le_of_not_lt
    intro hlt
    cases b with
    | nil => simp at hln; omega
    | cons c r =>
      have h6 := e6' c r rfl
      have hac : a ++ [c] = C0 ++ D.take (a.length - C0.length + 1) := by
        have h7 : (C0 ++ D).take (a.length + 1) = a ++ [c] := by
          rw [e1, show a ++ c :: r = (a ++ [c]) ++ r by simp, List.take_append_of_le_length (by simp), List.take_of_length_le (by simp)]
        rw [List.take_append, List.take_of_length_le (show C0.length ≤ a.length + 1 by omega)] at h7
        rw [← h7, show a.length + 1 - C0.length = a.length - C0.length + 1 by omega]
      have h8 := stands_up C0 D (show a.length - C0.length + 1 ≤ i by omega)
      rw [← hac] at h8
      omega
  · have h8 := stands_up C0 D h
    rw [← ha] at h8
    omega
  · rw [e2', ← ha]
    exact readB_go hga (by simpa using e3)
  · rw [e2', ← ha]
    exact List.take_left
/- the bound on a file that is written anew -/
def mostB : ByteArray → List Ev → Nat
  | _, [] => 0
  | old, e :: r => 40 + e.task.size + (chgB old e.body).length + tagSum e + mostB e.body r
theorem anew_most : ∀ (l : List Ev) (old : ByteArray), (∀ e ∈ l, isB e = true) → old.size ≤ 60 → (fileB old (anewC l)).length ≤ mostB old l
  | [], _, _, _ => by simp [anewC, fileB, mostB]
  | e :: r, old, h, ho => by
    have he := h e List.mem_cons_self
    have hgo : goesB 3 e = true := goes_new he
    have ih := anew_most r e.body (fun x hx => h x (List.mem_cons_of_mem _ hx)) (is_known he).body
    have hb := bare_len hgo
    have hc := chg_len ho (is_known he).body
    have e1 : (fileB old (anewC (e :: r))) = (headB 3 1 ++ (text (encB 3 (bareEv e)).1 ++ text (chgB old e.body))) ++ fileB e.body (anewC r) := by
      simp [anewC, fileB, entryB, evsB, evB, lastB]
    have t1 : (text (encB 3 (bareEv e)).1).length ≤ 2 + (encB 3 (bareEv e)).1.length := by
      simp only [text, List.length_append]
      have := num_fuel (f := 2) (k := (encB 3 (bareEv e)).1.length) (by omega) (by omega) (by omega)
      omega
    have t2 : (text (chgB old e.body)).length ≤ 2 + (chgB old e.body).length := by
      simp only [text, List.length_append]
      have := num_fuel (f := 2) (k := (chgB old e.body).length) (by omega) (by omega) (by omega)
      omega
    have t3 : (headB 3 1).length = 2 := by decide +kernel
    rw [e1]
    simp only [List.length_append, mostB, t3]
    omega
end Chron
namespace Go.Proofs.YtdjllnhahhjgmaaGreat
open Go.RowKit Go.Shelf Chron
theorem stood_world (most : Int) (w0 : World) (b : Nat) (w : World) (pv tv ev : Value) (xs ys : List Value) (ps : List PS) (i : Nat) (p : PS) (HW : WorldOk true most w0 b w pv tv ev xs ys ps) (hp : ps[i]? = some p) :
    Calls Tryz.prog 9 #[.pointer (some ⟨p.r.P, 0, none⟩), .bool false] w fun e w' => e = .returned (.bool true) ∧ ∃ p', p'.r.P = p.r.P ∧ Hid (WorldOk true most w0 b w' pv tv ev xs ys (ps.set i p')) := by
  obtain ⟨hM, hL⟩ := HW.mem i p hp
  have hfew := hL.few
  obtain ⟨h1, h2, h3⟩ := hL.stood rfl
  refine (stood_any w0 w w0.heap.size p.r [] false (hide0 hM) (hide0 (by rw [h1]; simp)) (hide0 rfl) (by rw [hL.file]; have := fileB_short hL.good; omega) (by omega) (by omega)).mono ?_
  rintro e w' ⟨rfl, cv, sv, HM, HV⟩
  refine ⟨rfl, ⟨p.r.stoodR false cv sv, p.C0, p.D⟩, rfl, hide0 (HW.turn (p' := ⟨p.r.stoodR false cv sv, p.C0, p.D⟩) hp HV.out HM.out ⟨hL.file, hL.same, hL.told, hL.good, fun _ => ⟨rfl, h2, h3⟩, fun h => by cases h⟩ rfl)⟩
end Go.Proofs.YtdjllnhahhjgmaaGreat
namespace Go.Proofs.YtdjllnhahhjgmaaGreat
open Go.RowKit Go.Shelf Chron
def crashR (r : Pr) (p4 : Nat) (fv4 ev4 lv cv sv : Value) (js4 : List Item) (F : List UInt8) (ck k : Nat) : Pr := ⟨r.P, p4, fv4, ev4, js4, lv, r.its.take ck, cv, sv, F, r.cs.take (k + 1), r.ss.take (k + 1), F⟩
def crashW (wa : World) (P p4 : Nat) (lv cv sv : Value) (fk : ByteArray) : World := ((((wa.setCell ⟨P, 1, none⟩ lv).setCell ⟨P, 0, none⟩ (.pointer (some ⟨p4, 0, none⟩))).setCell ⟨P, 4, none⟩ (.string fk)).setCell ⟨P, 2, none⟩ cv).setCell ⟨P, 3, none⟩ sv
theorem set_drew (w : World) (a : Addr) (v : Value) : w.drew.setCell a v = (w.setCell a v).drew := rfl
theorem set_os (w : World) (a : Addr) (v : Value) : (w.setCell a v).os = w.os ∧ (w.setCell a v).tape = w.tape ∧ (w.setCell a v).output = w.output := ⟨rfl, rfl, rfl⟩
theorem crashW_drew (wa : World) (P p4 : Nat) (lv cv sv : Value) (fk : ByteArray) : crashW wa.drew P p4 lv cv sv fk = (crashW wa P p4 lv cv sv fk).drew := by simp only [crashW, set_drew]
theorem range_take (f g : Nat → Nat) (n k : Nat) (hk : k ≤ n) (h : ∀ j, j ≤ k → f j = g j) : ((List.range (n + 1)).map f).take (k + 1) = (List.range (k + 1)).map g := by
  rw [← List.map_take, List.take_range, Nat.min_eq_left (by omega)]
  apply List.map_congr_left
  intro j hj
  rw [List.mem_range] at hj
  exact h j (by omega)
theorem take_take_le (D : List Chunk) {j k : Nat} (h : j ≤ k) : (D.take k).take j = D.take j := by rw [List.take_take, Nat.min_eq_left h]
theorem crash_log {r : Pr} {C0 D : List Chunk} {k ck p4 : Nat} {fv4 ev4 lv cv sv : Value} {js4 : List Item} (h : PairL true r C0 D) (hk : k ≤ D.length) (hJ : evs js4 = evsOf (C0 ++ D.take k)) (hck : (evsOf (C0 ++ D.take k)).length = ck) :
    PairL true (crashR r p4 fv4 ev4 lv cv sv js4 (fileB noB (C0 ++ D.take k)) ck k) C0 (D.take k) := by
  obtain ⟨h1, h2, h3⟩ := h.stood rfl
  have hl : (D.take k).length = k := by simp; omega
  have hsplit : C0 ++ D = (C0 ++ D.take k) ++ D.drop k := by rw [List.append_assoc, List.take_append_drop]
  refine ⟨rfl, ?_, hJ, ?_, fun _ => ⟨rfl, ?_, ?_⟩, fun h => by cases h⟩
  · show evs (r.its.take ck) = evs js4
    rw [hJ]
    have h9 : evs r.its = evsOf (C0 ++ D.take k) ++ evsOf (D.drop k) := by rw [h.same, h.told, hsplit, evsOf_append]
    have h8 : evs (r.its.take ck) = (evs r.its).take ck := by simp [evs, List.map_take]
    rw [h8, h9, ← hck]
    exact List.take_left
  · have h9 := h.good
    rw [hsplit] at h9
    exact (GoodC.append.1 h9).1
  · show r.cs.take (k + 1) = _
    rw [h2, hl]
    exact range_take _ _ _ _ hk (fun j hj => by unfold standC; rw [take_take_le D hj])
  · show r.ss.take (k + 1) = _
    rw [h3, hl]
    exact range_take _ _ _ _ hk (fun j hj => by unfold standS; rw [take_take_le D hj])
set_option maxHeartbeats 1000000 in
theorem crash_mem {w0 w w5 wa : World} {B : Nat} {r : Pr} {F : List UInt8} {k ck p4 gc gs cc sc : Nat} {fv4 ev4 lv : Value} {js4 : List Item} (h : PairM w0 w B r) (hb : Below w.heap.size w w5) (hA : ArchO w.heap.size p4 w5 fv4 ev4 F js4) (hg : w5.grownBy wa none) (hrow : wa.ownsRow w5.heap.size 38 5 lv ck (fives (r.its.take ck))) (hck : (r.its.take ck).length = ck) (hcl : (r.cs.take (k + 1)).length = k + 1) (hsl : (r.ss.take (k + 1)).length = k + 1)
    (hcv : r.cv = .slice (some ⟨gc, 0, none⟩) r.cs.length cc) (hsv : r.sv = .slice (some ⟨gs, 0, none⟩) r.ss.length sc) (hc : w.ownsRow B 3 1 (.slice (some ⟨gc, 0, none⟩) (k + 1) cc) (k + 1) (ints (r.cs.take (k + 1)))) (hs : w.ownsRow B 3 1 (.slice (some ⟨gs, 0, none⟩) (k + 1) sc) (k + 1) (ints (r.ss.take (k + 1)))) :
    PairM w0 (crashW wa r.P p4 lv (.slice (some ⟨gc, 0, none⟩) (k + 1) cc) (.slice (some ⟨gs, 0, none⟩) (k + 1) sc) ⟨F.toArray⟩) B (crashR r p4 fv4 ev4 lv (.slice (some ⟨gc, 0, none⟩) (k + 1) cc) (.slice (some ⟨gs, 0, none⟩) (k + 1) sc) js4 F ck k) ∧
      Moved w (crashW wa r.P p4 lv (.slice (some ⟨gc, 0, none⟩) (k + 1) cc) (.slice (some ⟨gs, 0, none⟩) (k + 1) sc) ⟨F.toArray⟩) r.foot (crashR r p4 fv4 ev4 lv (.slice (some ⟨gc, 0, none⟩) (k + 1) cc) (.slice (some ⟨gs, 0, none⟩) (k + 1) sc) js4 F ck k).foot := by
  have hlt := h.lt
  have hP := hlt r.P (.inl rfl)
  have hs5 := hb.size
  have hga := hg.size
  have hgcq := hlt gc (.inr (.inr (.inr (.inl (by rw [hcv]; rfl)))))
  have hgsq := hlt gs (.inr (.inr (.inr (.inr (by rw [hsv]; rfl)))))
  have hoth : ∀ q, q ≠ r.P → (crashW wa r.P p4 lv (.slice (some ⟨gc, 0, none⟩) (k + 1) cc) (.slice (some ⟨gs, 0, none⟩) (k + 1) sc) ⟨F.toArray⟩).heap[q]? = wa.heap[q]? := fun q hq => by
    unfold crashW
    rw [Below.heap_setCell _ _ _ _ hq, Below.heap_setCell _ _ _ _ hq, Below.heap_setCell _ _ _ _ hq, Below.heap_setCell _ _ _ _ hq, Below.heap_setCell _ _ _ _ hq]
  have hwa : ∀ q, q < w5.heap.size → wa.heap[q]? = w5.heap[q]? := fun q hq => hg.block q hq (fun e => by cases e)
  have hold : ∀ q, q < w.heap.size → q ≠ r.P → (crashW wa r.P p4 lv (.slice (some ⟨gc, 0, none⟩) (k + 1) cc) (.slice (some ⟨gs, 0, none⟩) (k + 1) sc) ⟨F.toArray⟩).heap[q]? = w.heap[q]? := fun q hq hn => (hoth q hn).trans ((hwa q (by omega)).trans (hb.block q hq))
  have hfs : (crashW wa r.P p4 lv (.slice (some ⟨gc, 0, none⟩) (k + 1) cc) (.slice (some ⟨gs, 0, none⟩) (k + 1) sc) ⟨F.toArray⟩).heap.size = wa.heap.size := by simp [crashW, World.setCell]
  have h0 : wa.heap[r.P]? = some (.cells #[.pointer (some ⟨r.p, 0, none⟩), r.lv, r.cv, r.sv, .string ⟨r.pf.toArray⟩] 50) := (hwa r.P (by omega)).trans ((hb.block r.P hP.2).trans h.blk)
  have h1 : (wa.setCell ⟨r.P, 1, none⟩ lv).heap[r.P]? = some (.cells #[.pointer (some ⟨r.p, 0, none⟩), lv, r.cv, r.sv, .string ⟨r.pf.toArray⟩] 50) := five_set h0
  have h2 : ((wa.setCell ⟨r.P, 1, none⟩ lv).setCell ⟨r.P, 0, none⟩ (.pointer (some ⟨p4, 0, none⟩))).heap[r.P]? = some (.cells #[.pointer (some ⟨p4, 0, none⟩), lv, r.cv, r.sv, .string ⟨r.pf.toArray⟩] 50) := five_set h1
  have h3 : (((wa.setCell ⟨r.P, 1, none⟩ lv).setCell ⟨r.P, 0, none⟩ (.pointer (some ⟨p4, 0, none⟩))).setCell ⟨r.P, 4, none⟩ (.string ⟨F.toArray⟩)).heap[r.P]? = some (.cells #[.pointer (some ⟨p4, 0, none⟩), lv, r.cv, r.sv, .string ⟨F.toArray⟩] 50) := five_set h2
  have h4 : ((((wa.setCell ⟨r.P, 1, none⟩ lv).setCell ⟨r.P, 0, none⟩ (.pointer (some ⟨p4, 0, none⟩))).setCell ⟨r.P, 4, none⟩ (.string ⟨F.toArray⟩)).setCell ⟨r.P, 2, none⟩ (.slice (some ⟨gc, 0, none⟩) (k + 1) cc)).heap[r.P]? = some (.cells #[.pointer (some ⟨p4, 0, none⟩), lv, .slice (some ⟨gc, 0, none⟩) (k + 1) cc, r.sv, .string ⟨F.toArray⟩] 50) := five_set h3
  have h5 : (crashW wa r.P p4 lv (.slice (some ⟨gc, 0, none⟩) (k + 1) cc) (.slice (some ⟨gs, 0, none⟩) (k + 1) sc) ⟨F.toArray⟩).heap[r.P]? = some (.cells #[.pointer (some ⟨p4, 0, none⟩), lv, .slice (some ⟨gc, 0, none⟩) (k + 1) cc, .slice (some ⟨gs, 0, none⟩) (k + 1) sc, .string ⟨F.toArray⟩] 50) := five_set h4
  have hos : (crashW wa r.P p4 lv (.slice (some ⟨gc, 0, none⟩) (k + 1) cc) (.slice (some ⟨gs, 0, none⟩) (k + 1) sc) ⟨F.toArray⟩).os = wa.os ∧ (crashW wa r.P p4 lv (.slice (some ⟨gc, 0, none⟩) (k + 1) cc) (.slice (some ⟨gs, 0, none⟩) (k + 1) sc) ⟨F.toArray⟩).tape = wa.tape ∧ (crashW wa r.P p4 lv (.slice (some ⟨gc, 0, none⟩) (k + 1) cc) (.slice (some ⟨gs, 0, none⟩) (k + 1) sc) ⟨F.toArray⟩).output = wa.output := by
    unfold crashW
    simp only [(set_os _ _ _).1, (set_os _ _ _).2.1, (set_os _ _ _).2.2, and_self]
  clear h0 h1 h2 h3 h4
  generalize crashW wa r.P p4 lv (.slice (some ⟨gc, 0, none⟩) (k + 1) cc) (.slice (some ⟨gs, 0, none⟩) (k + 1) sc) ⟨F.toArray⟩ = X at *
  have hnew : ∀ q, Foot p4 fv4 ev4 js4 q → w.heap.size ≤ q ∧ q < w5.heap.size := hA.lt
  have hgcP : gc ≠ r.P := fun e => h.nP.2.2.1 (by rw [hcv, e]; rfl)
  have hgsP : gs ≠ r.P := fun e => h.nP.2.2.2 (by rw [hsv, e]; rfl)
  have hgcs : gs ≠ gc := fun e => (h.nC gc (by rw [hcv]; rfl)).2 (by rw [hsv, e]; rfl)
  refine ⟨⟨h5, (hA.keep (fun q hq => (hoth q (by have := (hnew q hq).1; omega)).trans (hwa q (hnew q hq).2))).mono (by omega), ?_, fun it hi => h.tags it (List.mem_of_mem_take hi), ?_, ?_, h.PB, h.w0B, ⟨fun e => by have := (hnew r.P e).1; omega, fun e => by have := (hrow.lt r.P e).1; omega, fun e => hgcP (Option.some.inj e), fun e => hgsP (Option.some.inj e)⟩, fun q hq => ⟨fun e => by have := (hnew q e).2; have := (hrow.lt q hq).1; omega, fun e => by have e9 : gc = q := Option.some.inj e; have := (hrow.lt q hq).1; omega, fun e => by have e9 : gs = q := Option.some.inj e; have := (hrow.lt q hq).1; omega⟩, fun q hq => ⟨fun e => by have e9 : gc = q := Option.some.inj hq; have := (hnew q e).1; omega, fun e => hgcs ((Option.some.inj e).trans (Option.some.inj hq).symm)⟩, fun q hq e => by have e9 : gs = q := Option.some.inj hq; have := (hnew q e).1; omega⟩, ⟨hos.1.trans (hg.os.trans hb.os), hos.2.1.trans (hg.tape.trans hb.tape), hos.2.2.trans (hg.output.trans hb.output), by omega, fun q hq hn => hold q hq (fun e => hn (.inl e)), ?_⟩⟩
  · show World.ownsRow _ B 38 5 lv (r.its.take ck).length (fives (r.its.take ck))
    rw [hck]
    exact own_of_block (own_mono hrow (by omega)) (fun q hq => hoth q (by have := (hrow.lt q hq).1; omega))
  · show World.ownsRow _ B 3 1 _ (r.cs.take (k + 1)).length (ints (r.cs.take (k + 1)))
    rw [hcl]
    exact own_of_block hc (fun q hq => by have e : gc = q := Option.some.inj hq; rw [← e]; exact hold gc hgcq.2 hgcP)
  · show World.ownsRow _ B 3 1 _ (r.ss.take (k + 1)).length (ints (r.ss.take (k + 1)))
    rw [hsl]
    exact own_of_block hs (fun q hq => by have e : gs = q := Option.some.inj hq; rw [← e]; exact hold gs hgsq.2 hgsP)
  · rintro q (e | e | e | e | e)
    · exact .inl (.inl e)
    · exact .inr (hnew q e).1
    · have := (hrow.lt q e).1; exact .inr (by omega)
    · exact .inl (.inr (.inr (.inr (.inl (by rw [hcv]; exact e)))))
    · exact .inl (.inr (.inr (.inr (.inr (by rw [hsv]; exact e)))))
end Go.Proofs.YtdjllnhahhjgmaaGreat
namespace Go.Proofs.YtdjllnhahhjgmaaGreat
open Go.RowKit Go.Shelf Chron
theorem ints_at {w : World} {B : Nat} {v : Value} {l : List Nat} (h : w.ownsRow B 3 1 v l.length (ints l)) (h0 : 0 < l.length) : ∃ g cap, v = .slice (some ⟨g, 0, none⟩) l.length cap ∧ l.length ≤ cap ∧ (∀ (i x : Nat), l[i]? = some x → w.cell? ⟨g, i, none⟩ = some (.int .i64 (x : Int))) ∧ ∀ k, k ≤ l.length → w.ownsRow B 3 1 (.slice (some ⟨g, 0, none⟩) k cap) k (ints (l.take k)) := by
  rcases h.2 with ⟨_, e⟩ | ⟨g, cap, cur, e1, e2, e3, e4, e5, e6, e7⟩
  · omega
  · refine ⟨g, cap, e1, e4, fun i x hx => ?_, fun k hk => ⟨by simp [ints]; omega, .inr ⟨g, cap, cur, rfl, e2, e3, by omega, e5, e6, ?_⟩⟩⟩
    · have h9 : (ints l)[i]? = some (.int .i64 (x : Int)) := by simp only [ints, List.getElem?_map, hx]; rfl
      rw [← e7, List.getElem?_take] at h9
      split at h9
      · rw [cell_of_row w g _ cur _ (0, 0) e3]
        simpa using h9
      · cases h9
    · have h9 := congrArg (List.take (k * 1)) e7
      rw [List.take_take, Nat.min_eq_left (by omega)] at h9
      rw [h9, ints, ints, List.map_take, Nat.mul_one]
theorem stand_at {f : Nat → Nat} {n i : Nat} (h : i < n) : ((List.range n).map f)[i]? = some (f i) := by
  rw [List.getElem?_map, List.getElem?_range h]; rfl
set_option maxRecDepth 100000 in
set_option maxHeartbeats 1000000 in
theorem crash_pair (w0 w : World) (B : Nat) (r : Pr) (C0 D : List Chunk) (cut : Int) (HM : Hid (PairM w0 w B r)) (HL : Hid (PairL true r C0 D)) (hcut : -9223372036854775808 ≤ cut ∧ cut < 9223372036854775808) :
    Calls Tryz.prog 16 #[.pointer (some ⟨r.P, 0, none⟩), .int .i64 cut] w fun e w' => e = .returned (.bool true) ∧ ∃ r' D', r'.P = r.P ∧ Hid (PairM w0 w' B r') ∧ Hid (PairL true r' C0 D') ∧ Hid (Moved w w' r.foot r'.foot) := by
  obtain ⟨hpf, hcs, hss⟩ := HL.out.stood rfl
  have hcl : r.cs.length = D.length + 1 := by rw [hcs]; simp
  have hsl : r.ss.length = D.length + 1 := by rw [hss]; simp
  obtain ⟨gc, cc, hcv, hcc, hcell, hcrow⟩ := ints_at HM.out.cnt (by omega)
  obtain ⟨gs, sc, hsv, hsc, hscell, hsrow⟩ := ints_at HM.out.std (by omega)
  obtain ⟨c0, c1, c2, c3, c4, cz⟩ := five_cells HM.out.blk
  rw [hcv, hcl] at c2
  rw [hsv, hsl] at c3
  rw [hpf, HL.out.file] at c4
  have hsh := fileB_short HL.out.good
  have hDl : D.length ≤ 200 := by
    have := HL.out.few
    have hl := goodC_count HL.out.good
    by_cases hc : C0 ++ D = []
    · have := (List.append_eq_nil_iff.1 hc).2; simp [this]
    · have := hl.2 hc; have := hl.1; simp at this; omega
  have hS0 : standS C0 D 0 ≤ (fileB noB (C0 ++ D)).length := by
    have h9 := fileB_le C0 D
    simpa [standS] using h9
  have hs0 : w.cell? ⟨gs, 0, none⟩ = some (.int .i64 (standS C0 D 0 : Nat)) := hscell 0 _ (by rw [hss]; exact stand_at (by omega))
  obtain ⟨S0, hS0e⟩ : ∃ S0, standS C0 D 0 = S0 := ⟨_, rfl⟩
  obtain ⟨L, hLe⟩ : ∃ L, (fileB noB (C0 ++ D)).length = L := ⟨_, rfl⟩
  rw [hS0e] at hs0 hS0
  rw [hLe] at hS0 hsh
  have hP : ∀ (z : Int) w', z = (L : Int) - (S0 : Int) + 1 → Calls Tryz.prog 11 #[.int .i64 cut, .int .i64 z] w' fun e w'' => ∃ k : Nat, e = .returned (.int .i64 (k : Int)) ∧ k ≤ L - S0 ∧ w'' = w' := fun z w' hz => by
    subst hz
    have h9 := lpick_any cut (L - S0 + 1) w' hcut ⟨by omega, by omega⟩
    rw [show ((L - S0 + 1 : Nat) : Int) = (L : Int) - (S0 : Int) + 1 by omega] at h9
    refine h9.mono ?_
    rintro e w'' ⟨k, rfl, hk, rfl⟩
    exact ⟨k, rfl, by omega, rfl⟩
  have hsz : (⟨(fileB noB (C0 ++ D)).toArray⟩ : ByteArray).size = L := by rw [← hLe]; rfl
  obtain ⟨fb, hfb⟩ : ∃ fb : ByteArray, (⟨(fileB noB (C0 ++ D)).toArray⟩ : ByteArray) = fb := ⟨_, rfl⟩
  rw [hfb] at hsz c4
  have HFB := hide0 hfb
  have HLE := hide0 hLe
  have HS0E := hide0 hS0e
  have HCR := hide0 (And.intro hcell hcrow)
  have HSR := hide0 (And.intro hscell hsrow)
  have HCV := hide0 (And.intro hcv hsv)
  have HCS := hide0 (And.intro hcs (And.intro hss hpf))
  have HLEN := hide0 (And.intro hcl hsl)
  have HCC := hide0 (And.intro hcc hsc)
  obtain ⟨nD, hnD⟩ : ∃ nD, D.length = nD := ⟨_, rfl⟩
  have HND := hide0 hnD
  rw [hnD] at c2 c3 hDl
  rw [hcl, hnD] at hcc
  rw [hsl, hnD] at hsc
  clear hfb hLe hS0e hcell hcrow hscell hsrow hcv hsv hcs hss hpf hcl hsl hnD
  have HPK := hide0 hP
  clear hP
  go_enter Tryz.func16, Tryz.ntmps16
  go_wp2_with fail
  go_region_held3 (fun X => X.cell? ⟨r.P, 4, none⟩ = some (.string fb) ∧ X.cell? ⟨r.P, 3, none⟩ = some (.slice (some ⟨gs, 0, none⟩) (nD + 1) sc) ∧ X.cell? ⟨gs, 0, none⟩ = some (.int .i64 (S0 : Int))) (go_keep)
    (first
      | (go_at_call 11; refine (HPK.out _ _ (by rw [wrapI_small (n := (L : Int) - (S0 : Int)) (by omega) (by omega), wrapI_small (by omega) (by omega)])).mono ?_; rintro e w2 ⟨pk, rfl, hpk, rfl⟩))
  obtain ⟨nn, hnn, hnL, hnS⟩ : ∃ nn : Nat, IntKind.i64.wrap ((L : Int) - (pk : Int)) = nn ∧ nn ≤ L ∧ S0 ≤ nn := ⟨L - pk, by rw [wrapI_small (by omega) (by omega)]; omega, by omega, by omega⟩
  obtain ⟨k, hkD, hkiff, hrd, htk⟩ := cut_at HL.out.good nn (by have h9 := HS0E.out; simp only [standS, List.take_zero, List.append_nil] at h9; omega) (by rw [HLE.out]; exact hnL)
  have HK1 := hide0 (And.intro hkD (And.intro hkiff (And.intro hrd htk)))
  have hkn : k ≤ nD := by have := HND.out; omega
  clear hkD hkiff hrd htk
  go_wp2_with fail
  rw [hnn]
  go_loopw [6, 7] (fun va vi wr => wr = w.drew ∧ ∃ i : Nat, i ≤ nD + 1 ∧ vi = .int .i64 (i : Int) ∧ va = .int .i64 ((min (i - 1) k : Nat) : Int)) (fun _ vi _ => nD + 1 - (intOf vi).toNat)
  case atStart => exact ⟨rfl, 0, by omega, rfl, by simp⟩
  case round =>
    obtain ⟨rfl, i, hi1, rfl, rfl⟩ := hrel
    by_cases hlt : i < nD + 1
    · have hci : w.cell? ⟨gs, i, none⟩ = some (.int .i64 (standS C0 D i : Nat)) := HSR.out.1 i _ (by rw [HCS.out.2.1]; exact stand_at (by have := HND.out; omega))
      have hle : standS C0 D i ≤ nn ↔ i ≤ k := HK1.out.2.1 i (by have := HND.out; omega)
      generalize standS C0 D i = s at hci hle
      have hiI : (i : Int) < (nD : Int) + 1 := by omega
      by_cases hik : i ≤ k
      · have hsn : (s : Int) ≤ (nn : Int) := by have := hle.2 hik; omega
        go_wp2
        go_roundw
        case rel => exact ⟨trivial, i + 1, by omega, by go_num, by congr 1; omega⟩
        case measure => simp [intOf]; omega
      · have hsn : ¬ (s : Int) ≤ (nn : Int) := by have := mt hle.1 hik; omega
        go_wp2
        go_roundw
        case rel => exact ⟨trivial, i + 1, by omega, by go_num, by congr 2; omega⟩
        case measure => simp [intOf]; omega
    · have hmi : ((min (i - 1) k : Nat) : Int) = (k : Int) := by omega
      rw [hmi]
      obtain ⟨hkD, _, hrd, htk⟩ := HK1.out
      have hx : fb.extract 0 nn = ⟨((fileB noB (C0 ++ D)).take nn).toArray⟩ := by rw [← HFB.out]; exact extract_mk_take _ nn
      have hO4 := open_any ((fileB noB (C0 ++ D)).take nn) w.drew (by rw [List.length_take]; omega)
      rw [hrd] at hO4
      simp only [htk] at hO4
      rw [← hx] at hO4
      obtain ⟨sk, hsk⟩ : ∃ sk, (fileB noB (C0 ++ D.take k)).length = sk := ⟨_, rfl⟩
      obtain ⟨fk, hfk⟩ : ∃ fk : ByteArray, (⟨(fileB noB (C0 ++ D.take k)).toArray⟩ : ByteArray) = fk := ⟨_, rfl⟩
      have hskL : sk ≤ L := by
        have h9 := stands_up C0 D hkD
        rw [List.take_of_length_le (Nat.le_refl _), HLE.out, hsk] at h9
        exact h9
      have hx2 : fb.extract 0 sk = fk := by
        rw [← HFB.out, extract_mk_take, ← hfk]
        have h9 : (fileB noB (C0 ++ D)).take sk = fileB noB (C0 ++ D.take k) := by
          rw [← hsk]
          have h8 := fileB_append noB (C0 ++ D.take k) (D.drop k)
          rw [List.append_assoc, List.take_append_drop] at h8
          rw [h8]
          exact List.take_left
        rw [h9]
      have hsck : w.cell? ⟨gs, k, none⟩ = some (.int .i64 (sk : Int)) := by
        have h9 := HSR.out.1 k (standS C0 D k) (by rw [HCS.out.2.1]; exact stand_at (by omega))
        rw [show standS C0 D k = sk from hsk] at h9
        exact h9
      obtain ⟨ck, hck⟩ : ∃ ck, (evsOf (C0 ++ D.take k)).length = ck := ⟨_, rfl⟩
      have hcck : w.cell? ⟨gc, k, none⟩ = some (.int .i64 (ck : Int)) := by
        have h9 := HCR.out.1 k (standC C0 D k) (by rw [HCS.out.1]; exact stand_at (by omega))
        rw [show standC C0 D k = ck from hck] at h9
        exact h9
      have hckl : ck ≤ r.its.length := by
        obtain ⟨t9, ht9⟩ := evs_up C0 D hkD
        rw [List.take_of_length_le (Nat.le_refl _), ← HL.out.told, ← HL.out.same] at ht9
        have h8 := congrArg List.length ht9
        rw [List.length_append, hck] at h8
        simp only [evs, List.length_map] at h8
        omega
      have HE := hide0 (And.intro hsk (And.intro hfk hck))
      have hw4 : ∀ (X : World), Below w.drew.heap.size w.drew X → (X.cell? ⟨r.P, 1, none⟩ = some r.lv ∧ X.cell? ⟨r.P, 2, none⟩ = some (.slice (some ⟨gc, 0, none⟩) (nD + 1) cc) ∧ X.cell? ⟨r.P, 3, none⟩ = some (.slice (some ⟨gs, 0, none⟩) (nD + 1) sc) ∧ X.cell? ⟨r.P, 4, none⟩ = some (.string fb) ∧ X.cell? ⟨gs, k, none⟩ = some (.int .i64 (sk : Int)) ∧ X.cell? ⟨gc, k, none⟩ = some (.int .i64 (ck : Int)) ∧ X.cell? ⟨r.P, 0, none⟩ = some (.pointer (some ⟨r.p, 0, none⟩))) ∧ ∀ o, X.frozen? ⟨r.P, o, none⟩ = false := fun X hX => by
        have hPl : r.P < w.drew.heap.size := World.block_lt_of_cell? w _ c1
        refine ⟨⟨(hX.cell (p := ⟨r.P, 1, none⟩) hPl).trans c1, (hX.cell (p := ⟨r.P, 2, none⟩) hPl).trans c2, (hX.cell (p := ⟨r.P, 3, none⟩) hPl).trans c3, (hX.cell (p := ⟨r.P, 4, none⟩) hPl).trans c4, (hX.cell (p := ⟨gs, k, none⟩) (World.block_lt_of_cell? w _ hsck)).trans hsck, (hX.cell (p := ⟨gc, k, none⟩) (World.block_lt_of_cell? w _ hcck)).trans hcck, (hX.cell (p := ⟨r.P, 0, none⟩) hPl).trans c0⟩, fun o => (hX.frozen (p := ⟨r.P, o, none⟩) hPl).trans (cz o)⟩
      have HW4 := hide0 hw4
      clear hrd htk hx hsk hfk hck hmi hw4
      go_wp2_with fail
      refine hO4.mono ?_
      rintro e w4 ⟨HB4, ⟨h, _⟩ | ⟨_, p4, fv4, ev4, js4, rfl, HA4, HJ4⟩⟩
      · cases h
      obtain ⟨⟨d1, d2, d3, d4, d5, d6, d0⟩, dz⟩ := HW4.out w4 HB4.out
      have hF := file_any p4 fv4 ev4 w.drew.heap.size (fileB noB (C0 ++ D.take k)) w4 HA4.out.blk HA4.out.fil HA4.out.pf
      rw [HE.out.2.1] at hF
      clear hO4 c0 c1 c2 c3 c4 cz hs0 hsck hcck
      go_wp2_with fail
      refine hF.mono ?_
      rintro e w5 ⟨rfl, rfl⟩
      clear hF
      have hkI : (k : Int) < (nD : Int) + 1 := by omega
      have hskI : (sk : Int) ≤ (L : Int) := by omega
      go_wp2_with fail
      go_region_held3 (fun X => X.cell? ⟨r.P, 4, none⟩ = some (.string fb) ∧ X.cell? ⟨r.P, 3, none⟩ = some (.slice (some ⟨gs, 0, none⟩) (nD + 1) sc) ∧ X.cell? ⟨gs, k, none⟩ = some (.int .i64 (sk : Int))) (go_keep) (fail)
      go_wp2_with fail
      obtain ⟨i0, hi0, hz0, hz1, hz2⟩ := info_parts infoEvent5
      have hwd : ∀ (X : World), Below w5.heap.size w5 X → (X.cell? ⟨r.P, 1, none⟩ = some r.lv ∧ X.cell? ⟨r.P, 2, none⟩ = some (.slice (some ⟨gc, 0, none⟩) (nD + 1) cc) ∧ X.cell? ⟨r.P, 3, none⟩ = some (.slice (some ⟨gs, 0, none⟩) (nD + 1) sc) ∧ X.cell? ⟨r.P, 4, none⟩ = some (.string fb) ∧ X.cell? ⟨gs, k, none⟩ = some (.int .i64 (sk : Int)) ∧ X.cell? ⟨gc, k, none⟩ = some (.int .i64 (ck : Int)) ∧ X.cell? ⟨r.P, 0, none⟩ = some (.pointer (some ⟨r.p, 0, none⟩))) ∧ ∀ o, X.frozen? ⟨r.P, o, none⟩ = false := fun X hX => HW4.out X (HB4.out.trans (hX.mono HB4.out.size))
      have hkk : (k : Int) + 1 ≤ (nD : Int) + 1 := by omega
      clear d0 d1 d2 d3 d4 d5 d6 dz
      obtain ⟨⟨d1, d2, d3, d4, d5, d6, d0⟩, dz⟩ := hwd w5 (Below.refl _ _)
      have HWD := hide0 hwd
      clear hwd hx2 d5
      have HFIN : Hid (∀ (wa : World) (lv : Value), w5.grownBy wa none → wa.ownsRow w5.heap.size 38 5 lv ck (fives (r.its.take ck)) → ∃ r' D', r'.P = r.P ∧ Hid (PairM w0 (crashW wa r.P p4 lv (.slice (some ⟨gc, 0, none⟩) (k + 1) cc) (.slice (some ⟨gs, 0, none⟩) (k + 1) sc) fk) B r') ∧ Hid (PairL true r' C0 D') ∧ Hid (Moved w (crashW wa r.P p4 lv (.slice (some ⟨gc, 0, none⟩) (k + 1) cc) (.slice (some ⟨gs, 0, none⟩) (k + 1) sc) fk) r.foot r'.foot)) := by
        intro wa lv hg hrow
        have hbw : Below w.heap.size w w5 := ((Below.refl _ w).drew).trans HB4.out
        obtain ⟨q1, q2⟩ := crash_mem (k := k) (F := fileB noB (C0 ++ D.take k)) HM.out hbw HA4.out hg hrow (by rw [List.length_take]; omega) (by rw [List.length_take, HLEN.out.1]; omega) (by rw [List.length_take, HLEN.out.2]; omega) HCV.out.1 HCV.out.2 (HCR.out.2 (k + 1) (by rw [HLEN.out.1]; omega)) (HSR.out.2 (k + 1) (by rw [HLEN.out.2]; omega))
        rw [HE.out.2.1] at q1 q2
        refine ⟨_, D.take k, ?_, hide0 q1, hide0 (crash_log HL.out hkD HJ4.out HE.out.2.2), hide0 q2⟩
        rfl
      rcases Nat.eq_zero_or_pos ck with hck0 | hckp
      · subst hck0
        have hz := HFIN.out w5.drew.drew (.slice none 0 0) ⟨rfl, rfl, rfl, Nat.le_refl _, fun _ _ _ => rfl⟩ (World.ownsRow_nil _ _ _ _)
        rw [crashW_drew, crashW_drew] at hz
        simp only [crashW] at hz
        have HZ := hide0 hz
        clear hz
        rcases HM.out.row.2 with ⟨hlv, e0⟩ | ⟨gl, lc, cur, hlv, _, hgl, hlc, _, hsz9, hcur⟩
        · rw [hlv] at d1
          go_region
          all_goals
            go_wp2_with fail
            go_ret
            obtain ⟨r', D', z1, z2, z3, z4⟩ := HZ.out
            exact ⟨rfl, r', D', z1, z2, z3, z4⟩
        · rw [hlv] at d1
          go_region
          all_goals
            go_wp2_with fail
            go_ret
            obtain ⟨r', D', z1, z2, z3, z4⟩ := HZ.out
            exact ⟨rfl, r', D', z1, z2, z3, z4⟩
      · rcases HM.out.row.2 with ⟨_, e0⟩ | ⟨gl, lc, cur, hlv, _, hgl, hlc, _, hsz9, hcur⟩
        · omega
        rw [hlv] at d1
        have hl5 : (fives (r.its.take ck)).length = ck * 5 := by rw [fives_len, List.length_take, Nat.min_eq_left hckl]
        have hNew : ∀ j u, (fives (r.its.take ck))[j]? = some u → w5.drew.drew.cell? ((⟨gl, 0, none⟩ : Addr).add j) = some u := by
          intro j u hu
          have hj := (List.getElem?_eq_some_iff.1 hu).1
          rw [hl5] at hj
          have h9 : (fives r.its)[j]? = some u := by
            have h8 : fives r.its = fives (r.its.take ck) ++ fives (r.its.drop ck) := by
              have h7 : fives (r.its.take ck ++ r.its.drop ck) = fives (r.its.take ck) ++ fives (r.its.drop ck) := by unfold fives; rw [List.flatMap_append]
              rwa [List.take_append_drop] at h7
            rw [h8, List.getElem?_append_left (by omega)]
            exact hu
          rw [← hcur, List.getElem?_take] at h9
          split at h9
          · have hgl5 : w5.drew.drew.heap[gl]? = some (.cells cur 38 (0, 0)) := (HB4.out.block gl (Array.getElem?_eq_some_iff.1 hgl).1).trans hgl
            have hadd : (⟨gl, 0, none⟩ : Addr).add j = ⟨gl, 0 + j, none⟩ := Go.WideShapes.add_plain gl 0 j
            rw [Nat.zero_add] at hadd
            rw [hadd, cell_of_row _ gl _ cur _ (0, 0) hgl5]
            simpa using h9
          · cases h9
        clear hgl hsz9 hcur
        have hckI : (ck : Int) ≤ (r.its.length : Int) := by omega
        have hckc : (ck : Int) ≤ (lc : Int) := by omega
        have hl200 : r.its.length ≤ 200 := by
          have h3 := congrArg List.length HL.out.same
          have h4 := HM.out.arc.few
          simp [evs] at h3; omega
        go_region_law (first
          | (go_must (refine step_append_lies _ rfl _ _ 33 rfl w5.heap.size 38 i0 (.agg #[.int .i64 0, .string ⟨#[]⟩, .int .i64 0, .string ⟨#[]⟩, .slice none 0 0]) 5 72 Tryz.underlying33 hi0 hz0 hz1 hz2 rfl (by decide) (.slice none 0 0) 0 [] rfl (World.ownsRow_nil _ _ _ _) ⟨gl, 0, none⟩ ck lc (fives (r.its.take ck)) rfl hl5 hNew (fives_one _) hckp (by unfold maxLen; omega) (by omega) (Nat.le_refl _) _ rfl ?_)
             intro g9 c9 wa hown hgr hat hlt9
             obtain ⟨⟨f1, f2, f3, f4, f5, f6, f0⟩, fz⟩ := HWD.out wa ⟨hgr.os, hgr.tape, hgr.output, hgr.size, fun q hq => hgr.block q hq (fun e => by cases e)⟩
             have hz := (HFIN.out wa (.slice (some ⟨g9, 0, none⟩) ck c9) ⟨hgr.os, hgr.tape, hgr.output, hgr.size, fun q hq hn => hgr.block q hq hn⟩ (by rw [Nat.zero_add] at hown; exact hown))
             simp only [crashW] at hz
             have HZ := hide0 hz
             clear hown hgr hat hz))
        all_goals
          go_wp2_with fail
          go_ret
          obtain ⟨r', D', z1, z2, z3, z4⟩ := HZ.out
          exact ⟨rfl, r', D', z1, z2, z3, z4⟩
theorem crash_world (most : Int) (w0 : World) (b : Nat) (w : World) (pv tv ev : Value) (xs ys : List Value) (ps : List PS) (i : Nat) (p : PS) (cut : Int) (HW : WorldOk true most w0 b w pv tv ev xs ys ps) (hp : ps[i]? = some p) (hcut : -9223372036854775808 ≤ cut ∧ cut < 9223372036854775808) :
    Calls Tryz.prog 16 #[.pointer (some ⟨p.r.P, 0, none⟩), .int .i64 cut] w fun e w' => e = .returned (.bool true) ∧ ∃ p', p'.r.P = p.r.P ∧ Hid (WorldOk true most w0 b w' pv tv ev xs ys (ps.set i p')) := by
  obtain ⟨hM, hL⟩ := HW.mem i p hp
  refine (crash_pair w0 w w0.heap.size p.r p.C0 p.D cut (hide0 hM) (hide0 hL) hcut).mono ?_
  rintro e w' ⟨rfl, r', D', hP, h1, h2, h3⟩
  exact ⟨rfl, ⟨r', p.C0, D'⟩, hP, hide0 (HW.turn (p' := ⟨r', p.C0, D'⟩) hp h3.out h1.out h2.out hP)⟩
end Go.Proofs.YtdjllnhahhjgmaaGreat
namespace Chron
open Go Go.RowKit
theorem mostB_snoc : ∀ (l : List Ev) (old : ByteArray) (e : Ev), mostB old (l ++ [e]) = mostB old l + (40 + e.task.size + (chgB (lastB old l) e.body).length + tagSum e)
  | [], old, e => by simp [mostB, lastB]
  | x :: l, old, e => by
    have := mostB_snoc l x.body e
    simp only [List.cons_append, mostB, lastB, this]
    omega
theorem tagSum_le {e : Ev} (h : isB e = true) : tagSum e ≤ 240 := by
  have hK := is_known h
  have h1 := sum_lines e.tags hK.lines
  have h2 := hK.few
  unfold tagSum
  omega
theorem mostB_le : ∀ (l : List Ev) (old : ByteArray), (∀ e ∈ l, isB e = true) → old.size ≤ 60 → mostB old l ≤ 402 * l.length
  | [], _, _, _ => by simp [mostB]
  | e :: r, old, h, ho => by
    have he := h e List.mem_cons_self
    have hK := is_known he
    have ih := mostB_le r e.body (fun x hx => h x (List.mem_cons_of_mem _ hx)) hK.body
    have hc := chg_len ho hK.body
    have ht := tagSum_le he
    have hn := hK.task
    simp only [mostB, List.length_cons]
    omega
end Chron
namespace Go.Proofs.YtdjllnhahhjgmaaGreat
open Go.RowKit Go.Shelf Chron
def migrR (r : Pr) (fv cv sv : Value) (F : List UInt8) : Pr := ⟨r.P, r.p, fv, r.ev, r.js, r.lv, r.its, cv, sv, F, [r.its.length], [F.length], F⟩
def migrW (w1 : World) (P : Nat) (nl nf : Int) (fk : ByteArray) : World := ((((w1.setCell ⟨P, 4, none⟩ (.string fk)).setCell ⟨P, 2, none⟩ (.slice (some ⟨w1.heap.size, 0, none⟩) 1 1)).setCell ⟨P, 3, none⟩ (.slice (some ⟨w1.heap.size + 1, 0, none⟩) 1 1)).alloc (.cells #[.int .i64 nl] 3)).alloc (.cells #[.int .i64 nf] 3)
theorem migr_log {r : Pr} {C0 D : List Chunk} {fv cv sv : Value} (h : PairL true r C0 D) (hg : ∀ it ∈ r.js, isB it.ev = true) (hf : r.js.length ≤ 200) : PairL true (migrR r fv cv sv (fileB noB (anewC (evs r.js)))) (anewC (evs r.js)) [] := by
  have hl : r.its.length = (evs r.js).length := by have := congrArg List.length h.same; simpa [evs] using this
  refine ⟨by simp [migrR], h.same, ?_, ?_, fun _ => ⟨rfl, ?_, ?_⟩, fun h => by cases h⟩
  · show evs r.js = _
    rw [List.append_nil, evsOf_anew]
  · rw [List.append_nil]
    exact anew_good _ 0 (fun e he => by
      obtain ⟨it, hi, rfl⟩ := List.mem_map.1 he
      exact hg it hi) (by simp [evs]; omega)
  · show [r.its.length] = _
    simp [standC, evsOf_anew, hl]
  · show [(fileB noB (anewC (evs r.js))).length] = _
    simp [standS]
set_option maxHeartbeats 1000000 in
theorem migr_mem {w0 w w1 : World} {B : Nat} {r : Pr} {fv : Value} {F : List UInt8} (h : PairM w0 w B r) (hA : ArchO B r.p w1 fv r.ev F r.js) (hm : Moved w w1 (fun q => q = r.p) (fun q => q = r.p ∨ fv.ownBlock = some q)) :
    PairM w0 (migrW w1 r.P (r.its.length : Int) (F.length : Int) ⟨F.toArray⟩) B (migrR r fv (.slice (some ⟨w1.heap.size, 0, none⟩) 1 1) (.slice (some ⟨w1.heap.size + 1, 0, none⟩) 1 1) F) ∧
      Moved w (migrW w1 r.P (r.its.length : Int) (F.length : Int) ⟨F.toArray⟩) r.foot (migrR r fv (.slice (some ⟨w1.heap.size, 0, none⟩) 1 1) (.slice (some ⟨w1.heap.size + 1, 0, none⟩) 1 1) F).foot := by
  obtain ⟨q1, q2⟩ := h.archOp hA ⟨hm.os, hm.tape, hm.output, hm.size, fun q hq hn => hm.block q hq (fun e => hn (.inl e)), fun q hq => by
    rcases hq with e | e | e | e
    · exact .inl (.inl e)
    · rcases hm.sub q (.inr e) with e2 | e2
      · exact .inl (.inl e2)
      · exact .inr e2
    · exact .inl (.inr (.inr (.inl e)))
    · exact .inl (.inr (.inr (.inr e)))⟩
  have hlt := q1.lt
  have hP : r.P < w1.heap.size := (hlt r.P (.inl rfl)).2
  have hPB : B ≤ r.P := q1.PB
  have hs1 : (w1.setCell ⟨r.P, 4, none⟩ (.string ⟨F.toArray⟩)).heap.size = w1.heap.size := by simp [World.setCell]
  obtain ⟨Y1, hY1⟩ : ∃ Y, Y = w1.setCell ⟨r.P, 4, none⟩ (.string ⟨F.toArray⟩) := ⟨_, rfl⟩
  have hb1 : Y1.heap[r.P]? = some (.cells #[.pointer (some ⟨r.p, 0, none⟩), r.lv, r.cv, r.sv, .string ⟨F.toArray⟩] 50) := by rw [hY1]; exact five_set q1.blk
  have ho1 : ∀ q, q ≠ r.P → Y1.heap[q]? = w1.heap[q]? := fun q hq => by rw [hY1]; exact Below.heap_setCell _ _ _ _ hq
  have hz1 : Y1.os = w1.os ∧ Y1.tape = w1.tape ∧ Y1.output = w1.output := by rw [hY1]; exact set_os _ _ _
  rw [← hY1] at hs1
  obtain ⟨Y2, hY2⟩ : ∃ Y, Y = Y1.setCell ⟨r.P, 2, none⟩ (.slice (some ⟨w1.heap.size, 0, none⟩) 1 1) := ⟨_, rfl⟩
  have hb2 : Y2.heap[r.P]? = some (.cells #[.pointer (some ⟨r.p, 0, none⟩), r.lv, .slice (some ⟨w1.heap.size, 0, none⟩) 1 1, r.sv, .string ⟨F.toArray⟩] 50) := by rw [hY2]; exact five_set hb1
  have ho2 : ∀ q, q ≠ r.P → Y2.heap[q]? = Y1.heap[q]? := fun q hq => by rw [hY2]; exact Below.heap_setCell _ _ _ _ hq
  have hs2 : Y2.heap.size = w1.heap.size := by rw [hY2, ← hs1]; simp [World.setCell]
  have hz2 : Y2.os = Y1.os ∧ Y2.tape = Y1.tape ∧ Y2.output = Y1.output := by rw [hY2]; exact set_os _ _ _
  obtain ⟨Y3, hY3⟩ : ∃ Y, Y = Y2.setCell ⟨r.P, 3, none⟩ (.slice (some ⟨w1.heap.size + 1, 0, none⟩) 1 1) := ⟨_, rfl⟩
  have hb3 : Y3.heap[r.P]? = some (.cells #[.pointer (some ⟨r.p, 0, none⟩), r.lv, .slice (some ⟨w1.heap.size, 0, none⟩) 1 1, .slice (some ⟨w1.heap.size + 1, 0, none⟩) 1 1, .string ⟨F.toArray⟩] 50) := by rw [hY3]; exact five_set hb2
  have ho3 : ∀ q, q ≠ r.P → Y3.heap[q]? = Y2.heap[q]? := fun q hq => by rw [hY3]; exact Below.heap_setCell _ _ _ _ hq
  have hs3 : Y3.heap.size = w1.heap.size := by rw [hY3, ← hs2]; simp [World.setCell]
  have hz3 : Y3.os = Y2.os ∧ Y3.tape = Y2.tape ∧ Y3.output = Y2.output := by rw [hY3]; exact set_os _ _ _
  obtain ⟨Y4, hY4⟩ : ∃ Y, Y = Y3.alloc (.cells #[.int .i64 (r.its.length : Int)] 3) := ⟨_, rfl⟩
  have ho4 : ∀ q, q < w1.heap.size → Y4.heap[q]? = Y3.heap[q]? := fun q hq => by rw [hY4]; exact Below.heap_alloc _ _ _ (by omega)
  have hn4 : Y4.heap[w1.heap.size]? = some (.cells #[.int .i64 (r.its.length : Int)] 3) := by rw [hY4, ← hs3]; exact heap_alloc_new _ _
  have hs4 : Y4.heap.size = w1.heap.size + 1 := by rw [hY4, World.size_alloc, hs3]
  have hz4 : Y4.os = Y3.os ∧ Y4.tape = Y3.tape ∧ Y4.output = Y3.output := by rw [hY4]; exact ⟨rfl, rfl, rfl⟩
  obtain ⟨X, hX⟩ : ∃ Y, Y = Y4.alloc (.cells #[.int .i64 (F.length : Int)] 3) := ⟨_, rfl⟩
  have ho5 : ∀ q, q < w1.heap.size + 1 → X.heap[q]? = Y4.heap[q]? := fun q hq => by rw [hX]; exact Below.heap_alloc _ _ _ (by omega)
  have hd : X.heap[w1.heap.size + 1]? = some (.cells #[.int .i64 (F.length : Int)] 3) := by rw [hX, ← hs4]; exact heap_alloc_new _ _
  have hs5 : X.heap.size = w1.heap.size + 2 := by rw [hX, World.size_alloc, hs4]
  have hz5 : X.os = Y4.os ∧ X.tape = Y4.tape ∧ X.output = Y4.output := by rw [hX]; exact ⟨rfl, rfl, rfl⟩
  have hXW : migrW w1 r.P (r.its.length : Int) (F.length : Int) ⟨F.toArray⟩ = X := by rw [hX, hY4, hY3, hY2, hY1]; rfl
  rw [hXW]
  have hb5 : X.heap[r.P]? = some (.cells #[.pointer (some ⟨r.p, 0, none⟩), r.lv, .slice (some ⟨w1.heap.size, 0, none⟩) 1 1, .slice (some ⟨w1.heap.size + 1, 0, none⟩) 1 1, .string ⟨F.toArray⟩] 50) := (ho5 r.P (by omega)).trans ((ho4 r.P hP).trans hb3)
  have hall : ∀ q, q < w1.heap.size → q ≠ r.P → X.heap[q]? = w1.heap[q]? := fun q hq hn => (ho5 q (by omega)).trans ((ho4 q hq).trans ((ho3 q hn).trans ((ho2 q hn).trans (ho1 q hn))))
  have hc : X.heap[w1.heap.size]? = some (.cells #[.int .i64 (r.its.length : Int)] 3) := (ho5 _ (by omega)).trans hn4
  clear hXW hX hY4 hY3 hY2 hY1
  have hnP := q1.nP
  have hnL := q1.nL
  refine ⟨⟨hb5, q1.arc.keep (fun q hq => hall q (hlt q (.inr (.inl hq))).2 (fun e => hnP.1 (by rw [← e]; exact hq))), own_of_block q1.row (fun q hq => hall q (hlt q (.inr (.inr (.inl hq)))).2 (fun e => hnP.2.1 (by rw [← e]; exact hq))), q1.tags, own_one hc (by omega), own_one hd (by omega), hPB, q1.w0B, ⟨hnP.1, hnP.2.1, fun e => by have e9 : w1.heap.size = r.P := Option.some.inj e; omega, fun e => by have e9 : w1.heap.size + 1 = r.P := Option.some.inj e; omega⟩, fun q hq => ⟨(hnL q hq).1, fun e => by have e9 : w1.heap.size = q := Option.some.inj e; have := (hlt q (.inr (.inr (.inl hq)))).2; omega, fun e => by have e9 : w1.heap.size + 1 = q := Option.some.inj e; have := (hlt q (.inr (.inr (.inl hq)))).2; omega⟩, fun q hq => ⟨fun e => by have e9 : w1.heap.size = q := Option.some.inj hq; have := (hlt q (.inr (.inl e))).2; omega, fun e => by have e9 : w1.heap.size = q := Option.some.inj hq; have e8 : w1.heap.size + 1 = q := Option.some.inj e; omega⟩, fun q hq e => by have e9 : w1.heap.size + 1 = q := Option.some.inj hq; have := (hlt q (.inr (.inl e))).2; omega⟩, q2.trans ⟨hz5.1.trans (hz4.1.trans (hz3.1.trans (hz2.1.trans hz1.1))), hz5.2.1.trans (hz4.2.1.trans (hz3.2.1.trans (hz2.2.1.trans hz1.2.1))), hz5.2.2.trans (hz4.2.2.trans (hz3.2.2.trans (hz2.2.2.trans hz1.2.2))), by omega, fun q hq hn => hall q hq (fun e => hn (.inl e)), ?_⟩⟩
  rintro q (e | e | e | e | e)
  · exact .inl (.inl e)
  · exact .inl (.inr (.inl e))
  · exact .inl (.inr (.inr (.inl e)))
  · have e9 : w1.heap.size = q := Option.some.inj e; exact .inr (by omega)
  · have e9 : w1.heap.size + 1 = q := Option.some.inj e; exact .inr (by omega)
end Go.Proofs.YtdjllnhahhjgmaaGreat
namespace Go.Proofs.YtdjllnhahhjgmaaGreat
open Go.RowKit Chron
def atVal (L : Nat) : Option (Nat × List UInt8) → Value
  | none => .tuple #[.int .i64 0, .int .i64 (-1)]
  | some (n, r) => .tuple #[.int .i64 n, .int .i64 ((L - r.length : Nat) : Int)]
theorem ret_at {l : List UInt8} {n : Nat} {r : List UInt8} {L : Nat} {x y : Int} (h : readNum l = some (n, r)) (hx : x = (n : Int)) (hy : y = ((L - r.length : Nat) : Int)) :
    Ending.returned (.tuple #[.int .i64 x, .int .i64 y]) = .returned (atVal L (readNum l)) := by rw [h, hx, hy]; rfl
theorem ret_at_none {l : List UInt8} {L : Nat} (h : readNum l = none) : Ending.returned (.tuple #[.int .i64 0, .int .i64 (-1)]) = .returned (atVal L (readNum l)) := by rw [h]; rfl
def tailB (s : ByteArray) (p : Nat) : ByteArray := ⟨(s.data.toList.drop p).toArray⟩
theorem tail_list (s : ByteArray) (p : Nat) : (tailB s p).data.toList = s.data.toList.drop p := rfl
theorem tail_size (s : ByteArray) (p : Nat) : (tailB s p).size = s.size - p := by
  have h : (tailB s p).size = (tailB s p).data.toList.length := rfl
  rw [h, tail_list, List.length_drop]; rfl
theorem tail_get (s : ByteArray) (p k : Nat) (h : k < (tailB s p).size) (h' : p + k < s.size) : (tailB s p)[k] = s[p + k] := by
  have h1 : (tailB s p)[k] = (s.data.toList.drop p)[k]'(by rw [List.length_drop]; have : s.data.toList.length = s.size := rfl; omega) := rfl
  have h2 : s[p + k] = s.data.toList[p + k]'(by have : s.data.toList.length = s.size := rfl; omega) := rfl
  rw [h1, h2, List.getElem_drop]
theorem mul_step {n k : Nat} (c : Nat) (hk : k < 9) (hn : n < 128 ^ k) : n + c % 128 * 128 ^ k < 9223372036854775808 := by
  have h8 := pow_le8 hk
  have hm : c % 128 * 128 ^ k ≤ 127 * 128 ^ 8 := Nat.mul_le_mul (by omega) h8
  omega
theorem group_step {n k x : Nat} (c : Nat) (hk : k < 9) (hn : n < 128 ^ k) (hx : x = 128 ^ k) : ∃ d y z : Nat, (c : Int).tmod 128 = (d : Int) ∧ wrap64 ((d : Int) * (x : Int)) = (y : Int) ∧ wrap64 ((n : Int) + (y : Int)) = (z : Int) ∧ Hid (z = n + c % 128 * 128 ^ k) := by
  have hms := mul_step c hk hn
  rw [← hx] at hms ⊢
  refine ⟨c % 128, c % 128 * x, n + c % 128 * x, ?_, ?_, ?_, rfl⟩
  · rw [Int.tmod_eq_emod_of_nonneg (by omega)]; omega
  · rw [← Int.natCast_mul, Chron.wrap_small (by omega) (by omega)]
  · rw [← Int.natCast_add, Chron.wrap_small (by omega) (by omega)]
theorem pow_less {k : Nat} (h : k < 8) : (128 : Nat) ^ k ≤ 562949953421312 := Nat.le_trans (Nat.pow_le_pow_right (by omega) (show k ≤ 7 by omega)) (by decide)
def tAtVal (L : Nat) : Option (List UInt8 × List UInt8) → Value
  | none => .tuple #[.string ⟨#[]⟩, .int .i64 (-1)]
  | some (t, r) => .tuple #[.string ⟨t.toArray⟩, .int .i64 ((L - r.length : Nat) : Int)]
theorem ret_tat {l : List UInt8} {t r : List UInt8} {L : Nat} {x : ByteArray} {y : Int} (h : readTx l = some (t, r)) (hx : x = ⟨t.toArray⟩) (hy : y = ((L - r.length : Nat) : Int)) :
    Ending.returned (.tuple #[.string x, .int .i64 y]) = .returned (tAtVal L (readTx l)) := by rw [h, hx, hy]; rfl
theorem ret_tat_none {l : List UInt8} {L : Nat} (h : readTx l = none) : Ending.returned (.tuple #[.string ⟨#[]⟩, .int .i64 (-1)]) = .returned (tAtVal L (readTx l)) := by rw [h]; rfl
theorem suffix_drop {l x r : List UInt8} (h : l = x ++ r) : l.drop (l.length - r.length) = r := by subst h; simp
theorem num_suffix {l : List UInt8} {p n : Nat} {r : List UInt8} (h : readNum (l.drop p) = some (n, r)) : l.drop (l.length - r.length) = r ∧ r.length ≤ l.length := by
  have h1 := readNum_num h
  have h2 : l = (l.take p ++ num n) ++ r := by rw [List.append_assoc, ← h1, List.take_append_drop]
  exact ⟨suffix_drop h2, by rw [h2]; simp; omega⟩
theorem extract_drop_take (s : ByteArray) (f n : Nat) : s.extract f (f + n) = ⟨((s.data.toList.drop f).take n).toArray⟩ := by
  apply bytes_inj
  simp [ByteArray.data_extract, Array.toList_extract, List.extract]
end Go.Proofs.YtdjllnhahhjgmaaGreat
namespace Go.Proofs.YtdjllnhahhjgmaaGreat
open Go.RowKit Chron
theorem rev_drop_get (s : ByteArray) (a k i : Nat) (h : a + k < s.size) (hi : i = s.size - k - 1) : (s.data.toList.drop a).reverse[k]'(by simp; omega) = s[i]'(by omega) := by
  subst hi; rw [List.getElem_reverse, List.getElem_drop]
  have : a + ((s.data.toList.drop a).length - 1 - k) = s.size - k - 1 := by simp; omega
  simp only [this]; rfl
set_option maxRecDepth 100000 in
set_option maxHeartbeats 2000000 in
theorem makeRef_any (o c : ByteArray) (w : World) (ho : o.size ≤ maxLen) (hc : c.size ≤ maxLen) :
    Calls Tryz.prog 32 #[.string o, .string c] w fun e w' => e = .returned (seVal (makeB o.data.toList c.data.toList)) ∧ Below w.heap.size w w' := by
  unfold maxLen at ho hc
  by_cases h1 : 65536 < o.size
  · have HX := hide0 (make_long (o := o) (c := c) (.inl h1))
    go_enter Tryz.func32, Tryz.ntmps32
    go_wp2
    go_ret2
    exact ⟨ret_bad HX.out, Below.refl _ _⟩
  by_cases h2 : 65536 < c.size
  · have HX := hide0 (make_long (o := o) (c := c) (.inr h2))
    go_enter Tryz.func32, Tryz.ntmps32
    go_wp2
    go_ret2
    exact ⟨ret_bad HX.out, Below.refl _ _⟩
  have hNk : ∀ (k : Nat) (w' : World), k ≤ 65536 → Hid (Below w.heap.size w w') → Calls Tryz.prog 48 #[.int .i64 k] w' fun e w'' => e = .returned (.string ⟨(num k).toArray⟩) ∧ Hid (Below w.heap.size w w'') := by
    intro k w' hk HB
    refine (numRef_any (k : Int) w' (by omega) (by show (k : Int).toNat < 128 ^ 9; omega)).mono ?_
    rintro e w'' ⟨rfl, hb⟩
    exact ⟨by rw [Int.toNat_natCast], HB.out.trans (hb.mono HB.out.size)⟩
  have hlo : o.data.toList.length = o.size := rfl
  have hlc : c.data.toList.length = c.size := rfl
  go_enter Tryz.func32, Tryz.ntmps32
  go_wp2
  go_loopw [6] (fun m wr => ∃ k nq : Nat, wr = w.drewN nq ∧ k ≤ o.size ∧ m = .int .i64 k ∧ Hid (Akin o.data.toList c.data.toList k)) (fun m _ => o.size - (intOf m).toNat)
  case atStart => exact ⟨0, 0, rfl, Nat.zero_le _, rfl, alike_zero _ _⟩
  case round =>
    obtain ⟨k, nq, rfl, hk, rfl, HA⟩ := hrel
    by_cases hgo : ∃ (hla : k < o.size) (hlb : k < c.size), o[k] = c[k]
    · obtain ⟨hla, hlb, he⟩ := hgo
      have HM := hide0 (alike_more HA.out (by simpa using hla) (by simpa using hlb) he)
      have heb := byteSame he
      clear he
      go_wp2_with fail
      go_quiet (fail)
      go_wp2
      go_roundw
      case rel => exact ⟨k + 1, _, rfl, by omega, by go_num, HM⟩
      case measure => simp [intOf]; omega
    have hkc := HA.out.le.2
    rw [hlc] at hkc
    have HF : Hid (fr o.data.toList c.data.toList = k) := by
      by_cases hlt : k < o.size ∧ k < c.size
      · exact alike_other HA.out hlt.1 hlt.2 (fun he => hgo ⟨hlt.1, hlt.2, he⟩)
      · exact alike_end HA.out hlt
    have h3 : (∃ (hla : k < o.size) (hlb : k < c.size), ((o[k].toNat : Int) == (c[k].toNat : Int)) = false) ∨ (¬ k < o.size) ∨ (k < o.size ∧ ¬ k < c.size) := by
      by_cases hla : k < o.size
      · by_cases hlb : k < c.size
        · exact .inl ⟨hla, hlb, byteDiff fun he => hgo ⟨hla, hlb, he⟩⟩
        · exact .inr (.inr ⟨hla, hlb⟩)
      · exact .inr (.inl hla)
    clear hgo HA
    rcases h3 with ⟨hla, hlb, heb⟩ | hla | ⟨hla, hlb⟩
    all_goals
      go_wp2_with fail
      go_quiet (fail)
      go_wp2
    all_goals try clear heb
    all_goals
      go_loopw [7] (fun m wr => ∃ j nq : Nat, wr = w.drewN nq ∧ k + j ≤ o.size ∧ k + j ≤ c.size ∧ m = .int .i64 j ∧ Hid (Akin (o.data.toList.drop k).reverse (c.data.toList.drop k).reverse j)) (fun m _ => o.size - (intOf m).toNat)
      case atStart => exact ⟨0, _, World.drewN_drewN _ _ _, hk, hkc, rfl, alike_zero _ _⟩
      case round =>
        obtain ⟨j, nq3, rfl, hjo, hjc, rfl, HA⟩ := hrel
        obtain ⟨z, hz, HZ⟩ : ∃ z : Nat, IntKind.i64.wrap ((k : Int) + (j : Int)) = z ∧ Hid (z = k + j) := ⟨k + j, by rw [wrapI_small (by omega) (by omega)]; omega, rfl⟩
        by_cases hin : k + j < o.size ∧ k + j < c.size
        · obtain ⟨hla, hlb⟩ := hin
          obtain ⟨x, hx, hx2, HXo⟩ : ∃ x : Nat, (o.size : Int) - j - 1 = x ∧ x < o.size ∧ Hid (x = o.size - j - 1) := ⟨o.size - j - 1, by omega, by omega, rfl⟩
          obtain ⟨y, hy, hy2, HYo⟩ : ∃ y : Nat, (c.size : Int) - j - 1 = y ∧ y < c.size ∧ Hid (y = c.size - j - 1) := ⟨c.size - j - 1, by omega, by omega, rfl⟩
          have hga := rev_drop_get o k j x hla HXo.out
          have hgb := rev_drop_get c k j y hlb HYo.out
          have hza : z < o.size := by rw [HZ.out]; exact hla
          have hzb : z < c.size := by rw [HZ.out]; exact hlb
          by_cases he : o[x] = c[y]
          · have HM := hide0 (alike_more HA.out (by simp; omega) (by simp; omega) (by rw [hga, hgb]; exact he))
            have heb := byteSame he
            clear he hga hgb
            go_wp2_with fail
            go_quiet (fail)
            go_wp2
            go_roundw
            case rel => exact ⟨j + 1, _, rfl, by omega, by omega, by go_num, HM⟩
            case measure => simp [intOf]; omega
          · have HO := hide0 (alike_other HA.out (by simp; omega) (by simp; omega) (by rw [hga, hgb]; exact he))
            have heb := byteDiff he
            clear he hga hgb
            go_wp2_with fail
            go_quiet (fail)
            first
            | exfalso; omega
            | have HE : Hid (en o.data.toList c.data.toList = j) := by show pre _ _ = j; rw [HF.out]; exact HO.out
              have HX := hide0 (make_eq (o := o) (c := c) (by omega) (by omega) HF.out HE.out)
              obtain ⟨q, hq, hq2, hq3, HQ⟩ : ∃ q : Nat, IntKind.i64.wrap ((c.size : Int) - (j : Int)) = q ∧ k ≤ q ∧ q ≤ c.size ∧ Hid (q = k + (c.size - k - j)) := ⟨c.size - j, by rw [wrapI_small (by omega) (by omega)]; omega, by omega, by omega, by show _ = _; omega⟩
              have hk6 : k ≤ 65536 := by omega
              have hj6 : j ≤ 65536 := by omega
              have hl1 := num_len k
              have hl2 := num_len j
              clear HE HO HA
              go_wp2_with fail
              go_region_held (fun _ => True) (go_keep)
                (first
                  | (go_at_call 48; refine (hNk _ _ (by assumption) (by first | assumption | exact below_of_drewN _ | exact below_drewN (below_of_drewN _) _)).mono ?_; rintro e w3 ⟨rfl, HB3⟩))
              all_goals
                go_wp2
                go_ret2
                exact ⟨(ret_se (p := (num k ++ num j ++ (c.data.toList.drop k).take (c.size - k - j), 0)) (by rw [HQ.out, extract_drop_take]; apply bytes_inj; simp) rfl).trans (by rw [HX.out]), HB3.out⟩
        · have HO := hide0 (alike_end HA.out (by simp; omega))
          by_cases hla : k + j < o.size
          · have hza : z < o.size := by rw [HZ.out]; exact hla
            have hzb : ¬ z < c.size := by rw [HZ.out]; omega
            clear hin
            go_wp2_with fail
            go_quiet (fail)
            first
            | exfalso; omega
            | have HE : Hid (en o.data.toList c.data.toList = j) := by show pre _ _ = j; rw [HF.out]; exact HO.out
              have HX := hide0 (make_eq (o := o) (c := c) (by omega) (by omega) HF.out HE.out)
              obtain ⟨q, hq, hq2, hq3, HQ⟩ : ∃ q : Nat, IntKind.i64.wrap ((c.size : Int) - (j : Int)) = q ∧ k ≤ q ∧ q ≤ c.size ∧ Hid (q = k + (c.size - k - j)) := ⟨c.size - j, by rw [wrapI_small (by omega) (by omega)]; omega, by omega, by omega, by show _ = _; omega⟩
              have hk6 : k ≤ 65536 := by omega
              have hj6 : j ≤ 65536 := by omega
              have hl1 := num_len k
              have hl2 := num_len j
              clear HE HO HA
              go_wp2_with fail
              go_region_held (fun _ => True) (go_keep)
                (first
                  | (go_at_call 48; refine (hNk _ _ (by assumption) (by first | assumption | exact below_of_drewN _ | exact below_drewN (below_of_drewN _) _)).mono ?_; rintro e w3 ⟨rfl, HB3⟩))
              all_goals
                go_wp2
                go_ret2
                exact ⟨(ret_se (p := (num k ++ num j ++ (c.data.toList.drop k).take (c.size - k - j), 0)) (by rw [HQ.out, extract_drop_take]; apply bytes_inj; simp) rfl).trans (by rw [HX.out]), HB3.out⟩
          · have hza : ¬ z < o.size := by rw [HZ.out]; exact hla
            clear hin
            go_wp2_with fail
            go_quiet (fail)
            first
            | exfalso; omega
            | have HE : Hid (en o.data.toList c.data.toList = j) := by show pre _ _ = j; rw [HF.out]; exact HO.out
              have HX := hide0 (make_eq (o := o) (c := c) (by omega) (by omega) HF.out HE.out)
              obtain ⟨q, hq, hq2, hq3, HQ⟩ : ∃ q : Nat, IntKind.i64.wrap ((c.size : Int) - (j : Int)) = q ∧ k ≤ q ∧ q ≤ c.size ∧ Hid (q = k + (c.size - k - j)) := ⟨c.size - j, by rw [wrapI_small (by omega) (by omega)]; omega, by omega, by omega, by show _ = _; omega⟩
              have hk6 : k ≤ 65536 := by omega
              have hj6 : j ≤ 65536 := by omega
              have hl1 := num_len k
              have hl2 := num_len j
              clear HE HO HA
              go_wp2_with fail
              go_region_held (fun _ => True) (go_keep)
                (first
                  | (go_at_call 48; refine (hNk _ _ (by assumption) (by first | assumption | exact below_of_drewN _ | exact below_drewN (below_of_drewN _) _)).mono ?_; rintro e w3 ⟨rfl, HB3⟩))
              all_goals
                go_wp2
                go_ret2
                exact ⟨(ret_se (p := (num k ++ num j ++ (c.data.toList.drop k).take (c.size - k - j), 0)) (by rw [HQ.out, extract_drop_take]; apply bytes_inj; simp) rfl).trans (by rw [HX.out]), HB3.out⟩
end Go.Proofs.YtdjllnhahhjgmaaGreat
