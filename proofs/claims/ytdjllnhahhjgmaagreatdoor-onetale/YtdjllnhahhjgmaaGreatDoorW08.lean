/- Walks and plain facts, in the order in which they lean on one another. -/
import Derived.Test.YtdjllnhahhjgmaaGreatDoorW07
import Derived.Test.YtdjllnhahhjgmaaGreatDoorW02
import Derived.Test.YtdjllnhahhjgmaaGreatDoorW04
import Derived.Test.YtdjllnhahhjgmaaGreatDoorW06
namespace Go.Proofs.YtdjllnhahhjgmaaGreatDoor
open Go.RowKit Chron
def capE (e : Ev) : Ev := { e with time := min e.time 1125899906842625 }
def memL (e : Ev) (l : List UInt8) : Option (List UInt8 × Ev × List UInt8) :=
  match quoteL l with
  | none => none
  | some (nm, r1) => match signL 58 r1 with
    | none => none
    | some r2 => (fieldL nm e r2).map fun p => (nm, p.1, p.2)
def idx (nm : List UInt8) : Int := if nm = nBody then 1 else if nm = nKind then 2 else if nm = nTags then 3 else if nm = nTask then 4 else 5
/- what a reading of one name, and of what it has, leaves -/
def MemR (s : ByteArray) (e : Ev) (t : List UInt8) (E : Ev) (which p : Int) : Prop :=
  match memL e t with
  | some (nm, e', r) => capE E = e' ∧ which = idx nm ∧ p = pos s (some r) ∧ Suf s r
  | none => p = -1
structure Mb (N base : Nat) (w wx : World) (e : Ev) (x : Value) : Prop where
  box : wx.heap[N]? = some (.cells #[.int .i64 e.kind, .string e.task, .int .i64 e.time, .string e.body, x] 29)
  res : wx.heap[N + 1]? = some (.cells #[.int .i64 0, .string ⟨#[]⟩, .int .i64 0, .string ⟨#[]⟩, .slice none 0 0] 29)
  own : wx.ownsRow base 9 1 x e.tags.length (e.tags.map Value.string)
  ap : x.ownBlock ≠ some N ∧ x.ownBlock ≠ some (N + 1)
  bel : Below N w wx
theorem Mb.big {N base : Nat} {w wx : World} {e : Ev} {x : Value} (h : Mb N base w wx e x) : N + 2 ≤ wx.heap.size := (Array.getElem?_eq_some_iff.1 h.res).1
theorem Mb.more {N base : Nat} {w wx wy : World} {e : Ev} {x : Value} (h : Mb N base w wx e x) (hb : Below wx.heap.size wx wy) : Mb N base w wy e x := by
  have := h.big
  exact ⟨(hb.block N (by omega)).trans h.box, (hb.block (N + 1) (by omega)).trans h.res, own_below h.own hb, h.ap, h.bel.trans (hb.mono (by omega))⟩
theorem Mb.set {N base : Nat} {w wx : World} {e e' : Ev} {x : Value} {i : Nat} {u : Value} (h : Mb N base w wx e x) (ht : e'.tags = e.tags)
    (hc : #[.int .i64 e.kind, .string e.task, .int .i64 e.time, .string e.body, x].setIfInBounds i u = #[.int .i64 e'.kind, .string e'.task, .int .i64 e'.time, .string e'.body, x]) : Mb N base w (wx.setCell ⟨N, i, none⟩ u) e' x := by
  refine ⟨by rw [loan_set h.box, hc], (Below.heap_setCell _ _ _ _ (by show N + 1 ≠ N; omega)).trans h.res, ?_, h.ap, h.bel.setCell (Nat.le_refl _) _⟩
  rw [ht]
  exact own_of_block h.own fun q hq => Below.heap_setCell _ _ _ _ (by rintro rfl; exact h.ap.1 hq)
theorem Mb.tag {N base : Nat} {w wx : World} {e : Ev} {x y : Value} {ts : List ByteArray} (h : Mb N base w wx e x) (hbN : base ≤ N) {B : Nat} (hB : N + 2 ≤ B) (hy : wx.ownsRow B 9 1 y ts.length (ts.map Value.string)) : Mb N base w (wx.setCell ⟨N, 4, none⟩ y) { e with tags := ts } y := by
  have hap : y.ownBlock ≠ some N ∧ y.ownBlock ≠ some (N + 1) := ⟨fun e => by have := (hy.lt _ e).1; omega, fun e => by have := (hy.lt _ e).1; omega⟩
  refine ⟨loan_set h.box, (Below.heap_setCell _ _ _ _ (by show N + 1 ≠ N; omega)).trans h.res, ?_, hap, h.bel.setCell (Nat.le_refl _) _⟩
  exact own_mono (own_of_block hy fun q hq => Below.heap_setCell _ _ _ _ (by rintro rfl; exact hap.1 hq)) (by omega)
theorem Mb.out {N base : Nat} {w wx : World} {e : Ev} {x x0 x1 x2 x3 x4 : Value} (h : Mb N base w wx e x) :
    (((((wx.setCell ⟨N + 1, 0, none⟩ x0).setCell ⟨N + 1, 1, none⟩ x1).setCell ⟨N + 1, 2, none⟩ x2).setCell ⟨N + 1, 3, none⟩ x3).setCell ⟨N + 1, 4, none⟩ x4).ownsRow base 9 1 x e.tags.length (e.tags.map Value.string) ∧
    Below N w (((((wx.setCell ⟨N + 1, 0, none⟩ x0).setCell ⟨N + 1, 1, none⟩ x1).setCell ⟨N + 1, 2, none⟩ x2).setCell ⟨N + 1, 3, none⟩ x3).setCell ⟨N + 1, 4, none⟩ x4) := by
  refine ⟨own_of_block h.own fun q hq => ?_, below_set5 h.bel (by omega)⟩
  have hq1 : q ≠ N + 1 := by rintro rfl; exact h.ap.2 hq
  rw [Below.heap_setCell _ _ _ _ hq1, Below.heap_setCell _ _ _ _ hq1, Below.heap_setCell _ _ _ _ hq1, Below.heap_setCell _ _ _ _ hq1, Below.heap_setCell _ _ _ _ hq1]
theorem ba_list (l : List UInt8) : (ba l).toList = l := by rw [ByteArray.toList_eq]; simp [ba]
theorem wordsAt (X : World) {i : Nat} {k : Int} (hk : (i : Int) + 1 = k) (hi : i < 4) : (X.alloc (.cells #[.string ⟨#[98, 101, 103, 117, 110]⟩, .string ⟨#[100, 111, 110, 101]⟩, .string ⟨#[102, 97, 105, 108, 101, 100]⟩, .string ⟨#[110, 111, 116, 101, 100]⟩] 9)).cell? ⟨X.heap.size, i, none⟩ = some (.string (ba (wordB k))) := by
  subst hk
  have hh := heap_alloc_new X (.cells #[.string ⟨#[98, 101, 103, 117, 110]⟩, .string ⟨#[100, 111, 110, 101]⟩, .string ⟨#[102, 97, 105, 108, 101, 100]⟩, .string ⟨#[110, 111, 116, 101, 100]⟩] 9)
  have h4 : i = 0 ∨ i = 1 ∨ i = 2 ∨ i = 3 := by omega
  rcases h4 with rfl | rfl | rfl | rfl <;> (simp only [World.cell?, hh]; rfl)
def kpre (q : List UInt8) (n : Nat) : Int := if 0 < n ∧ q = wordB 1 then 1 else if 1 < n ∧ q = wordB 2 then 2 else if 2 < n ∧ q = wordB 3 then 3 else if 3 < n ∧ q = wordB 4 then 4 else 0
theorem kpre_kind (q : List UInt8) : (∀ k, kindW q = some k → kpre q 4 = k ∧ ¬ kpre q 4 = 0) ∧ (kindW q = none → kpre q 4 = 0) := by
  unfold kindW kpre
  by_cases h1 : q = wordB 1
  · simp [h1]
  · by_cases h2 : q = wordB 2
    · simp [h2, show ¬ wordB 2 = wordB 1 by decide]
    · by_cases h3 : q = wordB 3
      · simp [h3, show ¬ wordB 3 = wordB 1 by decide, show ¬ wordB 3 = wordB 2 by decide]
      · by_cases h4 : q = wordB 4
        · simp [h4, show ¬ wordB 4 = wordB 1 by decide, show ¬ wordB 4 = wordB 2 by decide, show ¬ wordB 4 = wordB 3 by decide]
        · simp [h1, h2, h3, h4]
theorem kpre_step (q : List UInt8) {n : Nat} (hn : n < 4) : kpre q (n + 1) = if q = wordB ((n : Int) + 1) then (n : Int) + 1 else kpre q n := by
  have h4 : n = 0 ∨ n = 1 ∨ n = 2 ∨ n = 3 := by omega
  unfold kpre
  rcases h4 with rfl | rfl | rfl | rfl
  · by_cases h : q = wordB 1
    · simp [h]
    · simp [h]
  · by_cases h : q = wordB 2
    · simp [h, show ¬ wordB 2 = wordB 1 by decide]
    · simp [h]
  · by_cases h : q = wordB 3
    · simp [h, show ¬ wordB 3 = wordB 1 by decide, show ¬ wordB 3 = wordB 2 by decide]
    · simp [h]
  · by_cases h : q = wordB 4
    · simp [h, show ¬ wordB 4 = wordB 1 by decide, show ¬ wordB 4 = wordB 2 by decide, show ¬ wordB 4 = wordB 3 by decide]
    · simp [h]
set_option maxRecDepth 100000 in
set_option maxHeartbeats 4000000 in
theorem member_any (s : ByteArray) (t : List UInt8) (k : Int) (tk : ByteArray) (m : Int) (b : ByteArray) (ts : List ByteArray) (v : Value) (w : World) (base : Nat) (h : Suf s t) (hs : s.size ≤ 1048576) (hb : base ≤ w.heap.size)
    (hv : Hid (w.ownsRow base 9 1 v ts.length (ts.map Value.string))) :
    Calls Tryz.prog 72 #[.string s, .int .i64 (pos s (some t)), .agg #[.int .i64 k, .string tk, .int .i64 m, .string b, v]] w fun e w' =>
      ∃ E v' which p, e = .returned (.tuple #[evVal E v', .int .i64 which, .int .i64 p]) ∧ MemR s (capE ⟨k, tk, m, b, ts⟩) t E which p ∧ w'.ownsRow base 9 1 v' E.tags.length (E.tags.map Value.string) ∧ Below w.heap.size w w' ∧ ∀ q, v'.ownBlock = some q → v.ownBlock = some q ∨ w.heap.size ≤ q := by
  obtain ⟨va, vc, hve, _⟩ := own_tags hv.out
  subst hve
  have hQ := fun X => quoteRef_any s (some t) X (fun x hx => by rw [← Option.some.inj hx]; exact h) hs
  simp only [Option.bind_some] at hQ
  have HM0 : Hid (Mb w.heap.size base w ((w.alloc (.cells #[.int .i64 k, .string tk, .int .i64 m, .string b, .slice va ts.length vc] 29)).alloc (.cells #[.int .i64 0, .string ⟨#[]⟩, .int .i64 0, .string ⟨#[]⟩, .slice none 0 0] 29)) ⟨k, tk, m, b, ts⟩ (.slice va ts.length vc)) := by
    refine ⟨?_, ?_, (hv.out.alloc _).alloc _, ?_, ((Below.refl _ _).alloc (Nat.le_refl _) _).alloc (by simp) _⟩
    · rw [Below.heap_alloc _ _ _ (by simp), heap_alloc_new]
    · have := heap_alloc_new (w.alloc (.cells #[.int .i64 k, .string tk, .int .i64 m, .string b, .slice va ts.length vc] 29)) (.cells #[.int .i64 0, .string ⟨#[]⟩, .int .i64 0, .string ⟨#[]⟩, .slice none 0 0] 29)
      rw [World.size_alloc] at this; exact this
    · exact ⟨fun e => by have := (hv.out.lt _ e).2; omega, fun e => by have := (hv.out.lt _ e).2; omega⟩
  have n1 : ¬ w.heap.size = w.heap.size + 1 := by omega
  have n2 : ¬ w.heap.size + 1 = w.heap.size := by omega
  cases hq : quoteL t with
  | none =>
    have HR : Hid (memL (capE ⟨k, tk, m, b, ts⟩) t = none) := by rw [Hid, memL, hq]
    rw [hq] at hQ
    have hm1 : pos s (qP none) = -1 := rfl
    rw [hm1] at hQ
    have hS := fun X => sign_no s 58 X
    go_enter Tryz.func72, Tryz.ntmps72
    go_wp2_with fail
    refine (hQ _).mono ?_
    rintro e w1 ⟨rfl, hb1⟩
    have HM1 := hide0 (HM0.out.more hb1)
    obtain ⟨d0, d1, d2, d3, d4, df⟩ := res_cells HM1.out.box
    obtain ⟨r0, r1, r2, r3, r4, rf⟩ := res_cells HM1.out.res
    clear hb1
    go_wp2_with fail
    refine (hS _).mono ?_
    rintro e w2 ⟨rfl, hw2⟩
    have hw3 := hw2.symm
    subst hw3
    clear hw2
    go_wp2
    refine bodyPost_ret (v := .tuple #[.agg #[.int .i64 k, .string tk, .int .i64 m, .string b, .slice va ts.length vc], .int .i64 0, .int .i64 (-1)]) (by simp [results, Tryz.results72, go_sem, r0, r1, r2, r3, r4]) rfl ?_
    exact ⟨⟨k, tk, m, b, ts⟩, .slice va ts.length vc, 0, -1, rfl, by rw [MemR, HR.out], HM1.out.out.1, HM1.out.out.2, fun q hq => .inl hq⟩
  | some q =>
    obtain ⟨nm, t1⟩ := q
    have hsq := quote_suf hq
    have ht1 : Suf s t1 := h.trans hsq.1
    rw [hq] at hQ
    obtain ⟨p1, hp1, HP1⟩ : ∃ p1, pos s (some t1) = p1 ∧ Hid (pos s (some t1) = p1) := ⟨_, rfl, rfl⟩
    have hm1 : pos s (qP (some (nm, t1))) = p1 := hp1
    have hm2 : qS (some (nm, t1)) = ba nm := rfl
    rw [hm1, hm2] at hQ
    have hS := fun X => sign_any s t1 58 58 rfl X ht1 hs
    rw [hp1] at hS
    clear hp1 hm1 hm2
    cases hc : signL 58 t1 with
    | none =>
      have HR : Hid (memL (capE ⟨k, tk, m, b, ts⟩) t = none) := by rw [Hid, memL, hq]; simp only [hc]
      rw [hc] at hS
      have hm3 : pos s none = -1 := rfl
      rw [hm3] at hS
      go_enter Tryz.func72, Tryz.ntmps72
      go_wp2_with fail
      refine (hQ _).mono ?_
      rintro e w1 ⟨rfl, hb1⟩
      have HM1 := hide0 (HM0.out.more hb1)
      obtain ⟨d0, d1, d2, d3, d4, df⟩ := res_cells HM1.out.box
      obtain ⟨r0', r1', r2', r3', r4', rf⟩ := res_cells HM1.out.res
      clear hb1
      go_wp2_with fail
      refine (hS _).mono ?_
      rintro e w2 ⟨rfl, hw2⟩
      have hw3 := hw2.symm
      subst hw3
      clear hw2
      go_wp2
      refine bodyPost_ret (v := .tuple #[.agg #[.int .i64 k, .string tk, .int .i64 m, .string b, .slice va ts.length vc], .int .i64 0, .int .i64 (-1)]) (by simp [results, Tryz.results72, go_sem, r0', r1', r2', r3', r4']) rfl ?_
      exact ⟨⟨k, tk, m, b, ts⟩, .slice va ts.length vc, 0, -1, rfl, by rw [MemR, HR.out], HM1.out.out.1, HM1.out.out.2, fun q hq => .inl hq⟩
    | some t2 =>
      have ht2 : Suf s t2 := ht1.trans (sign_suf hc).1
      have HML : Hid (memL (capE ⟨k, tk, m, b, ts⟩) t = (fieldL nm (capE ⟨k, tk, m, b, ts⟩) t2).map fun p => (nm, p.1, p.2)) := by rw [Hid, memL, hq]; simp only [hc]
      rw [hc] at hS
      obtain ⟨p2, hp2, HP2⟩ : ∃ p2, pos s (some t2) = p2 ∧ Hid (pos s (some t2) = p2) := ⟨_, rfl, rfl⟩
      have hp2n : 0 ≤ p2 := by rw [← hp2]; have := ht2.le; simp only [pos]; omega
      have hQ2 := fun X => quoteRef_any s (some t2) X (fun x hx => by rw [← Option.some.inj hx]; exact ht2) hs
      have hC2 := fun X => countRef_any s t2 X ht2 hs
      have hT2 := fun X => tagsRef_any s (some t2) X (fun x hx => by rw [← Option.some.inj hx]; exact ht2) hs
      simp only [Option.bind_some] at hQ2 hT2
      rw [hp2] at hS hQ2 hC2 hT2
      clear hp2
      have hnl := ba_list nm
      by_cases hnB : nm = nBody
      · have x1 : ((ba nm).toList == [98, 111, 100, 121]) = true := by rw [hnl, hnB]; rfl
        have HX : Hid (MemR s (capE ⟨k, tk, m, b, ts⟩) t ⟨k, tk, m, qS (quoteL t2), ts⟩ 1 (pos s (qP (quoteL t2)))) := by
          show MemR _ _ _ _ _ _
          rw [MemR, HML.out, fieldL, if_pos hnB]
          cases hz : quoteL t2 with
          | none => rfl
          | some z => exact ⟨rfl, by rw [hnB]; rfl, rfl, ht2.trans (quote_suf (s := z.1) (r := z.2) hz).1⟩
        generalize quoteL t2 = z at hQ2 HX
        clear hnl hnB hC2 hT2
        go_enter Tryz.func72, Tryz.ntmps72
        go_wp2_with fail
        refine (hQ _).mono ?_
        rintro e w1 ⟨rfl, hb1⟩
        have HM1 := hide0 (HM0.out.more hb1)
        obtain ⟨d0, d1, d2, d3, d4, df⟩ := res_cells HM1.out.box
        obtain ⟨r0', r1', r2', r3', r4', rf⟩ := res_cells HM1.out.res
        clear hb1
        go_wp2_with fail
        refine (hS _).mono ?_
        rintro e w2 ⟨rfl, hw2⟩
        have hw3 := hw2.symm
        subst hw3
        clear hw2
        go_wp2_with fail
        refine (hQ2 _).mono ?_
        rintro e w3 ⟨rfl, hb3⟩
        have HM3 := hide0 (HM1.out.more hb3)
        have HM4 := hide0 (HM3.out.set (i := 3) (u := .string (qS z)) (e' := ⟨k, tk, m, qS z, ts⟩) rfl rfl)
        clear d0 d1 d2 d3 d4 df r0' r1' r2' r3' r4' rf hb3
        obtain ⟨d0, d1, d2, d3, d4, df⟩ := res_cells HM3.out.box
        obtain ⟨r0', r1', r2', r3', r4', rf⟩ := res_cells HM3.out.res
        go_wp2
        refine bodyPost_ret (v := .tuple #[.agg #[.int .i64 k, .string tk, .int .i64 m, .string (qS z), .slice va ts.length vc], .int .i64 1, .int .i64 (pos s (qP z))]) (by simp [results, Tryz.results72, go_sem, r0', r1', r2', r3', r4']) rfl ?_
        exact ⟨⟨k, tk, m, qS z, ts⟩, .slice va ts.length vc, 1, _, rfl, HX.out, HM4.out.out.1, HM4.out.out.2, fun q hq => .inl hq⟩
      · have x1 : ((ba nm).toList == [98, 111, 100, 121]) = false := by rw [hnl, beq_eq_false_iff_ne]; exact hnB
        by_cases hnK : nm = nKind
        · have x2 : ((ba nm).toList == [107, 105, 110, 100]) = true := by rw [hnl, hnK]; rfl
          have HX : Hid (∀ E, E = (⟨kpre (qS (quoteL t2)).toList 4, tk, m, b, ts⟩ : Ev) → (kpre (qS (quoteL t2)).toList 4 = 0 → MemR s (capE ⟨k, tk, m, b, ts⟩) t E 0 (-1)) ∧ (¬ kpre (qS (quoteL t2)).toList 4 = 0 → MemR s (capE ⟨k, tk, m, b, ts⟩) t E 2 (pos s (qP (quoteL t2))))) := by
            intro E hE
            subst hE
            rw [MemR, MemR, HML.out, fieldL, if_neg hnB, if_pos hnK]
            cases hz : quoteL t2 with
            | none =>
              have h0 : kpre (qS none).toList 4 = 0 := by have e : (qS none).toList = [] := ba_list []; rw [e]; decide
              exact ⟨fun _ => rfl, fun h => absurd h0 h⟩
            | some z =>
              have hl : (qS (some z)).toList = z.1 := ba_list z.1
              rw [hl]
              cases hkw : kindW z.1 with
              | none =>
                have h0 := (kpre_kind z.1).2 hkw
                simp only [Option.bind_some, hkw, Option.map_none]
                exact ⟨fun _ => trivial, fun h => absurd h0 h⟩
              | some kk =>
                have h0 := (kpre_kind z.1).1 kk hkw
                simp only [Option.bind_some, hkw, Option.map_some]
                refine ⟨fun h => absurd h h0.2, fun _ => ⟨?_, by rw [hnK]; rfl, rfl, ht2.trans (quote_suf (s := z.1) (r := z.2) hz).1⟩⟩
                simp only [capE, h0.1]
          generalize quoteL t2 = z at hQ2 HX
          clear hnl hnB hnK hC2 hT2
          go_enter Tryz.func72, Tryz.ntmps72
          go_wp2_with fail
          refine (hQ _).mono ?_
          rintro e w1 ⟨rfl, hb1⟩
          have HM1 := hide0 (HM0.out.more hb1)
          obtain ⟨d0, d1, d2, d3, d4, df⟩ := res_cells HM1.out.box
          obtain ⟨r0', r1', r2', r3', r4', rf⟩ := res_cells HM1.out.res
          clear hb1
          go_wp2_with fail
          refine (hS _).mono ?_
          rintro e w2 ⟨rfl, hw2⟩
          have hw3 := hw2.symm
          subst hw3
          clear hw2
          go_wp2_with fail
          refine (hQ2 _).mono ?_
          rintro e w3 ⟨rfl, hb3⟩
          have HM3 := hide0 (HM1.out.more hb3)
          have HM4 := hide0 (HM3.out.set (i := 0) (u := .int .i64 0) (e' := ⟨0, tk, m, b, ts⟩) rfl rfl)
          clear hb3
          clear d0 d1 d2 d3 d4 df r0' r1' r2' r3' r4' rf
          obtain ⟨d0, d1, d2, d3, d4, df⟩ := res_cells HM3.out.box
          go_wp2_with fail
          go_loopw [12] (fun iv wx => ∃ n : Nat, n ≤ 4 ∧ iv = .int .i64 n ∧ Hid (Mb w.heap.size base w wx ⟨kpre (qS z).toList n, tk, m, b, ts⟩ (.slice va ts.length vc))) (fun iv _ => 4 - (intOf iv).toNat)
          case atStart => exact ⟨0, by omega, rfl, HM4⟩
          case round =>
            clear d0 d1 d2 d3 d4 df
            obtain ⟨n, hn, rfl, HM5⟩ := hrel
            obtain ⟨d0, d1, d2, d3, d4, df⟩ := res_cells HM5.out.box
            obtain ⟨r0', r1', r2', r3', r4', rf⟩ := res_cells HM5.out.res
            by_cases hn4 : n < 4
            · have hnI : (n : Int) < 4 := by omega
              have HST := hide0 (kpre_step (qS z).toList hn4)
              obtain ⟨wd, hcell, HWD⟩ : ∃ wd : ByteArray, (wr.alloc (.cells #[.string ⟨#[98, 101, 103, 117, 110]⟩, .string ⟨#[100, 111, 110, 101]⟩, .string ⟨#[102, 97, 105, 108, 101, 100]⟩, .string ⟨#[110, 111, 116, 101, 100]⟩] 9)).cell? ⟨wr.heap.size, n, none⟩ = some (.string wd) ∧ Hid (wd.toList = wordB ((n : Int) + 1)) := ⟨_, wordsAt wr rfl hn4, ba_list _⟩
              have hbA : Below wr.heap.size wr (wr.alloc (.cells #[.string ⟨#[98, 101, 103, 117, 110]⟩, .string ⟨#[100, 111, 110, 101]⟩, .string ⟨#[102, 97, 105, 108, 101, 100]⟩, .string ⟨#[110, 111, 116, 101, 100]⟩] 9)) := (Below.refl _ _).alloc (Nat.le_refl _) _
              have HM6 := hide0 (HM5.out.more hbA)
              go_wp2_with fail
              refine (words_any _).mono ?_
              rintro e w5 ⟨rfl, hw5⟩
              have hw5' := hw5
              rw [← hw5'] at hcell HM6
              clear hw5' hbA hw5
              clear d0 d1 d2 d3 d4 df r0' r1' r2' r3' r4' rf
              obtain ⟨d0, d1, d2, d3, d4, df⟩ := res_cells HM6.out.box
              by_cases hqq : (qS z).toList = wordB ((n : Int) + 1)
              · have hcmp : (wd.toList == (qS z).toList) = true := by rw [HWD.out, hqq]; simp
                have HN := hide0 (HM6.out.set (i := 0) (u := .int .i64 ((n : Int) + 1)) (e' := ⟨kpre (qS z).toList (n + 1), tk, m, b, ts⟩) rfl (by rw [HST.out, if_pos hqq]; rfl))
                clear hqq
                go_wp2
                go_roundw
                case rel => exact ⟨n + 1, by omega, by go_num, HN⟩
                case measure => simp [intOf]; omega
              · have hcmp : (wd.toList == (qS z).toList) = false := by rw [HWD.out, beq_eq_false_iff_ne]; exact fun h => hqq h.symm
                have HN : Hid (Mb w.heap.size base w w5 ⟨kpre (qS z).toList (n + 1), tk, m, b, ts⟩ (.slice va ts.length vc)) := by rw [HST.out, if_neg hqq]; exact HM6
                clear hqq
                go_wp2
                go_roundw
                case rel => exact ⟨n + 1, by omega, by go_num, HN⟩
                case measure => simp [intOf]; omega
            · have hnI : ¬ (n : Int) < 4 := by omega
              have hne : n = 4 := by omega
              have HXX : Hid ((kpre (qS z).toList n = 0 → MemR s (capE ⟨k, tk, m, b, ts⟩) t ⟨kpre (qS z).toList n, tk, m, b, ts⟩ 0 (-1)) ∧ (¬ kpre (qS z).toList n = 0 → MemR s (capE ⟨k, tk, m, b, ts⟩) t ⟨kpre (qS z).toList n, tk, m, b, ts⟩ 2 (pos s (qP z)))) := by
                rw [hne]; exact HX.out _ rfl
              generalize kpre (qS z).toList n = kk at HXX HM5 d0
              clear hne
              by_cases hkk : kk = 0
              · have HF := hide0 (HXX.out.1 hkk)
                have hkb : (kk == 0) = true := by simp [hkk]
                clear hkk
                go_wp2
                refine bodyPost_ret (v := .tuple #[.agg #[.int .i64 kk, .string tk, .int .i64 m, .string b, .slice va ts.length vc], .int .i64 0, .int .i64 (-1)]) (by simp [results, Tryz.results72, go_sem, r0', r1', r2', r3', r4']) rfl ?_
                exact ⟨⟨kk, tk, m, b, ts⟩, .slice va ts.length vc, 0, -1, rfl, HF.out, HM5.out.out.1, HM5.out.out.2, fun q hq => .inl hq⟩
              · have HF := hide0 (HXX.out.2 hkk)
                have hkb : (kk == 0) = false := by simp [hkk]
                clear hkk
                go_wp2
                refine bodyPost_ret (v := .tuple #[.agg #[.int .i64 kk, .string tk, .int .i64 m, .string b, .slice va ts.length vc], .int .i64 2, .int .i64 (pos s (qP z))]) (by simp [results, Tryz.results72, go_sem, r0', r1', r2', r3', r4']) rfl ?_
                exact ⟨⟨kk, tk, m, b, ts⟩, .slice va ts.length vc, 2, _, rfl, HF.out, HM5.out.out.1, HM5.out.out.2, fun q hq => .inl hq⟩
        · have x2 : ((ba nm).toList == [107, 105, 110, 100]) = false := by rw [hnl, beq_eq_false_iff_ne]; exact hnK
          by_cases hnG : nm = nTags
          · have x3 : ((ba nm).toList == [116, 97, 103, 115]) = true := by rw [hnl, hnG]; rfl
            have HX : Hid (MemR s (capE ⟨k, tk, m, b, ts⟩) t ⟨k, tk, m, b, (tT (tagsL t2)).map ba⟩ 3 (pos s (tP (tagsL t2)))) := by
              show MemR _ _ _ _ _ _
              rw [MemR, HML.out, fieldL, if_neg hnB, if_neg hnK, if_pos hnG]
              cases hz : tagsL t2 with
              | none => rfl
              | some z => exact ⟨rfl, by rw [hnG]; rfl, rfl, ht2.trans (list_suf (fun l x r h => (quote_suf h).1) (xs := z.1) (r := z.2) hz).1⟩
            generalize tagsL t2 = z at hT2 HX
            clear hnl hnB hnK hnG hC2 hQ2
            go_enter Tryz.func72, Tryz.ntmps72
            go_wp2_with fail
            refine (hQ _).mono ?_
            rintro e w1 ⟨rfl, hb1⟩
            have HM1 := hide0 (HM0.out.more hb1)
            obtain ⟨d0, d1, d2, d3, d4, df⟩ := res_cells HM1.out.box
            obtain ⟨r0', r1', r2', r3', r4', rf⟩ := res_cells HM1.out.res
            clear hb1
            go_wp2_with fail
            refine (hS _).mono ?_
            rintro e w2 ⟨rfl, hw2⟩
            have hw3 := hw2.symm
            subst hw3
            clear hw2
            go_wp2_with fail
            refine (hT2 _).mono ?_
            rintro e w3 ⟨y, rfl, hy, hb3⟩
            have hbig := HM1.out.big
            have HM3 := hide0 (HM1.out.more hb3)
            have hy2 : w3.ownsRow w1.heap.size 9 1 y ((tT z).map ba).length (((tT z).map ba).map Value.string) := by
              have e : strV (tT z) = ((tT z).map ba).map Value.string := by simp [strV]
              rw [← e, List.length_map]; exact hy
            generalize (tT z).map ba = L at HX hy2
            obtain ⟨ya, yc, hye, _⟩ := own_tags hy2
            subst hye
            have HM4 := hide0 (HM3.out.tag hb hbig hy2)
            have HYL : Hid (∀ q, (Value.slice ya L.length yc).ownBlock = some q → w.heap.size ≤ q) := fun q hq => by have := (hy2.lt q hq).1; omega
            clear hy hy2 hb3
            clear d0 d1 d2 d3 d4 df r0' r1' r2' r3' r4' rf
            obtain ⟨d0, d1, d2, d3, d4, df⟩ := res_cells HM3.out.box
            obtain ⟨r0', r1', r2', r3', r4', rf⟩ := res_cells HM3.out.res
            go_wp2
            refine bodyPost_ret (v := .tuple #[.agg #[.int .i64 k, .string tk, .int .i64 m, .string b, .slice ya L.length yc], .int .i64 3, .int .i64 (pos s (tP z))]) (by simp [results, Tryz.results72, go_sem, r0', r1', r2', r3', r4']) rfl ?_
            exact ⟨⟨k, tk, m, b, L⟩, .slice ya L.length yc, 3, _, rfl, HX.out, HM4.out.out.1, HM4.out.out.2, fun q hq => .inr (HYL.out q hq)⟩
          · have x3 : ((ba nm).toList == [116, 97, 103, 115]) = false := by rw [hnl, beq_eq_false_iff_ne]; exact hnG
            by_cases hnT : nm = nTask
            · have x4 : ((ba nm).toList == [116, 97, 115, 107]) = true := by rw [hnl, hnT]; rfl
              have HX : Hid (MemR s (capE ⟨k, tk, m, b, ts⟩) t ⟨k, qS (quoteL t2), m, b, ts⟩ 4 (pos s (qP (quoteL t2)))) := by
                show MemR _ _ _ _ _ _
                rw [MemR, HML.out, fieldL, if_neg hnB, if_neg hnK, if_neg hnG, if_pos hnT]
                cases hz : quoteL t2 with
                | none => rfl
                | some z => exact ⟨rfl, by rw [hnT]; rfl, rfl, ht2.trans (quote_suf (s := z.1) (r := z.2) hz).1⟩
              generalize quoteL t2 = z at hQ2 HX
              clear hnl hnB hnK hnG hnT hC2 hT2
              go_enter Tryz.func72, Tryz.ntmps72
              go_wp2_with fail
              refine (hQ _).mono ?_
              rintro e w1 ⟨rfl, hb1⟩
              have HM1 := hide0 (HM0.out.more hb1)
              obtain ⟨d0, d1, d2, d3, d4, df⟩ := res_cells HM1.out.box
              obtain ⟨r0', r1', r2', r3', r4', rf⟩ := res_cells HM1.out.res
              clear hb1
              go_wp2_with fail
              refine (hS _).mono ?_
              rintro e w2 ⟨rfl, hw2⟩
              have hw3 := hw2.symm
              subst hw3
              clear hw2
              go_wp2_with fail
              refine (hQ2 _).mono ?_
              rintro e w3 ⟨rfl, hb3⟩
              have HM3 := hide0 (HM1.out.more hb3)
              have HM4 := hide0 (HM3.out.set (i := 1) (u := .string (qS z)) (e' := ⟨k, qS z, m, b, ts⟩) rfl rfl)
              clear hb3
              clear d0 d1 d2 d3 d4 df r0' r1' r2' r3' r4' rf
              obtain ⟨d0, d1, d2, d3, d4, df⟩ := res_cells HM3.out.box
              obtain ⟨r0', r1', r2', r3', r4', rf⟩ := res_cells HM3.out.res
              go_wp2
              refine bodyPost_ret (v := .tuple #[.agg #[.int .i64 k, .string (qS z), .int .i64 m, .string b, .slice va ts.length vc], .int .i64 4, .int .i64 (pos s (qP z))]) (by simp [results, Tryz.results72, go_sem, r0', r1', r2', r3', r4']) rfl ?_
              exact ⟨⟨k, qS z, m, b, ts⟩, .slice va ts.length vc, 4, _, rfl, HX.out, HM4.out.out.1, HM4.out.out.2, fun q hq => .inl hq⟩
            · have x4 : ((ba nm).toList == [116, 97, 115, 107]) = false := by rw [hnl, beq_eq_false_iff_ne]; exact hnT
              by_cases hnM : nm = nTime
              · have x5 : ((ba nm).toList == [116, 105, 109, 101]) = true := by rw [hnl, hnM]; rfl
                have HX : Hid (MemR s (capE ⟨k, tk, m, b, ts⟩) t ⟨k, tk, cN t2, b, ts⟩ 5 (pos s (cP t2))) := by
                  show MemR _ _ _ _ _ _
                  rw [MemR, HML.out, fieldL, if_neg hnB, if_neg hnK, if_neg hnG, if_neg hnT, if_pos hnM]
                  cases hbn : badNum ((skipL t2).takeWhile isDig) with
                  | true =>
                    have hcl : countL t2 = none := by unfold countL; simp only [hbn]; rfl
                    have hcp : cP t2 = none := by rw [cP, hbn]; rfl
                    rw [hcl, hcp]; rfl
                  | false =>
                    have hcl : countL t2 = some (numL ((skipL t2).takeWhile isDig), (skipL t2).dropWhile isDig) := by unfold countL; simp only [hbn]; rfl
                    have hcp : cP t2 = some ((skipL t2).dropWhile isDig) := by rw [cP, hbn]; rfl
                    have hcn : cN t2 = (refN ((skipL t2).takeWhile isDig) : Int) := by rw [cN, hbn]; rfl
                    rw [hcl, hcp, hcn]
                    refine ⟨?_, by rw [hnM]; rfl, rfl, ht2.trans (count_suf hcl).1⟩
                    have := refN_num ((skipL t2).takeWhile isDig)
                    simp only [capE, Ev.mk.injEq, true_and, and_true]
                    omega
                clear hnl hnB hnK hnG hnT hnM hQ2 hT2
                go_enter Tryz.func72, Tryz.ntmps72
                go_wp2_with fail
                refine (hQ _).mono ?_
                rintro e w1 ⟨rfl, hb1⟩
                have HM1 := hide0 (HM0.out.more hb1)
                obtain ⟨d0, d1, d2, d3, d4, df⟩ := res_cells HM1.out.box
                obtain ⟨r0', r1', r2', r3', r4', rf⟩ := res_cells HM1.out.res
                clear hb1
                go_wp2_with fail
                refine (hS _).mono ?_
                rintro e w2 ⟨rfl, hw2⟩
                have hw3 := hw2.symm
                subst hw3
                clear hw2
                go_wp2_with fail
                refine (hC2 _).mono ?_
                rintro e w3 ⟨rfl, hw3⟩
                have hw4 := hw3.symm
                subst hw4
                clear hw3
                have HM4 := hide0 (HM1.out.set (i := 2) (u := .int .i64 (cN t2)) (e' := ⟨k, tk, cN t2, b, ts⟩) rfl rfl)
                go_wp2
                refine bodyPost_ret (v := .tuple #[.agg #[.int .i64 k, .string tk, .int .i64 (cN t2), .string b, .slice va ts.length vc], .int .i64 5, .int .i64 (pos s (cP t2))]) (by simp [results, Tryz.results72, go_sem, r0', r1', r2', r3', r4']) rfl ?_
                exact ⟨⟨k, tk, cN t2, b, ts⟩, .slice va ts.length vc, 5, _, rfl, HX.out, HM4.out.out.1, HM4.out.out.2, fun q hq => .inl hq⟩
              · have x5 : ((ba nm).toList == [116, 105, 109, 101]) = false := by rw [hnl, beq_eq_false_iff_ne]; exact hnM
                have HR : Hid (memL (capE ⟨k, tk, m, b, ts⟩) t = none) := by rw [HML.out, fieldL, if_neg hnB, if_neg hnK, if_neg hnG, if_neg hnT, if_neg hnM]; exact rfl
                clear hnl hnB hnK hnG hnT hnM hQ2 hT2 hC2
                go_enter Tryz.func72, Tryz.ntmps72
                go_wp2_with fail
                refine (hQ _).mono ?_
                rintro e w1 ⟨rfl, hb1⟩
                have HM1 := hide0 (HM0.out.more hb1)
                obtain ⟨d0, d1, d2, d3, d4, df⟩ := res_cells HM1.out.box
                obtain ⟨r0', r1', r2', r3', r4', rf⟩ := res_cells HM1.out.res
                clear hb1
                go_wp2_with fail
                refine (hS _).mono ?_
                rintro e w2 ⟨rfl, hw2⟩
                have hw3 := hw2.symm
                subst hw3
                clear hw2
                go_wp2
                refine bodyPost_ret (v := .tuple #[.agg #[.int .i64 k, .string tk, .int .i64 m, .string b, .slice va ts.length vc], .int .i64 0, .int .i64 (-1)]) (by simp [results, Tryz.results72, go_sem, r0', r1', r2', r3', r4']) rfl ?_
                exact ⟨⟨k, tk, m, b, ts⟩, .slice va ts.length vc, 0, -1, rfl, by rw [MemR, HR.out], HM1.out.out.1, HM1.out.out.2, fun q hq => .inl hq⟩
end Go.Proofs.YtdjllnhahhjgmaaGreatDoor
namespace Go.Proofs.YtdjllnhahhjgmaaGreatDoor
open Go.RowKit Chron
def EvR (s : ByteArray) (o : Option (List UInt8)) (E : Ev) (p : Int) : Prop :=
  match o.bind eventL with
  | some (e', r) => capE E = e' ∧ p = pos s (some r) ∧ Suf s r
  | none => p = -1
theorem step_mem (c : UInt8) (e : Ev) (l : List UInt8) : stepL c e l = (signL c l).bind (memL e) := by
  unfold stepL memL
  cases signL c l with
  | none => rfl
  | some r => rfl
structure Hb (N : Nat) (w wx : World) (e : Ev) (x : Value) (hb : List Bool) : Prop where
  res : wx.heap[N]? = some (.cells #[.int .i64 0, .string ⟨#[]⟩, .int .i64 0, .string ⟨#[]⟩, .slice none 0 0] 29)
  box : wx.heap[N + 1]? = some (.cells #[.int .i64 e.kind, .string e.task, .int .i64 e.time, .string e.body, x] 29)
  had : wx.heap[N + 2]? = some (.cells (hb.map Value.bool).toArray 111)
  own : wx.ownsRow N 9 1 x e.tags.length (e.tags.map Value.string)
  ap : x.ownBlock ≠ some N ∧ x.ownBlock ≠ some (N + 1) ∧ x.ownBlock ≠ some (N + 2)
  bel : Below N w wx
  len : hb.length = 6
theorem Hb.big {N : Nat} {w wx : World} {e : Ev} {x : Value} {hb : List Bool} (h : Hb N w wx e x hb) : N + 3 ≤ wx.heap.size := (Array.getElem?_eq_some_iff.1 h.had).1
theorem Hb.more {N : Nat} {w wx wy : World} {e : Ev} {x : Value} {hb : List Bool} (h : Hb N w wx e x hb) (hB : Below wx.heap.size wx wy) : Hb N w wy e x hb := by
  have := h.big
  exact ⟨(hB.block N (by omega)).trans h.res, (hB.block (N + 1) (by omega)).trans h.box, (hB.block (N + 2) (by omega)).trans h.had, own_below h.own hB, h.ap, h.bel.trans (hB.mono (by omega)), h.len⟩
/- a new event in its place -/
theorem Hb.put {N : Nat} {w wx : World} {e e' : Ev} {x y : Value} {hb : List Bool} (h : Hb N w wx e x hb) (hy : wx.ownsRow N 9 1 y e'.tags.length (e'.tags.map Value.string)) (hap : y.ownBlock ≠ some N ∧ y.ownBlock ≠ some (N + 1) ∧ y.ownBlock ≠ some (N + 2)) :
    Hb N w (((((wx.setCell ⟨N + 1, 0, none⟩ (.int .i64 e'.kind)).setCell ⟨N + 1, 1, none⟩ (.string e'.task)).setCell ⟨N + 1, 2, none⟩ (.int .i64 e'.time)).setCell ⟨N + 1, 3, none⟩ (.string e'.body)).setCell ⟨N + 1, 4, none⟩ y) e' y hb := by
  have hoth : ∀ q, q ≠ N + 1 → (((((wx.setCell ⟨N + 1, 0, none⟩ (.int .i64 e'.kind)).setCell ⟨N + 1, 1, none⟩ (.string e'.task)).setCell ⟨N + 1, 2, none⟩ (.int .i64 e'.time)).setCell ⟨N + 1, 3, none⟩ (.string e'.body)).setCell ⟨N + 1, 4, none⟩ y).heap[q]? = wx.heap[q]? := fun q hq => by
    rw [Below.heap_setCell _ _ _ _ hq, Below.heap_setCell _ _ _ _ hq, Below.heap_setCell _ _ _ _ hq, Below.heap_setCell _ _ _ _ hq, Below.heap_setCell _ _ _ _ hq]
  refine ⟨(hoth N (by omega)).trans h.res, ?_, (hoth (N + 2) (by omega)).trans h.had, own_of_block hy fun q hq => hoth q ?_, hap, below_set5 h.bel (by omega), h.len⟩
  · exact loan_set (i := 4) (loan_set (i := 3) (loan_set (i := 2) (loan_set (i := 1) (loan_set (i := 0) h.box))))
  · rintro rfl; exact hap.2.1 hq
theorem Hb.mark {N : Nat} {w wx : World} {e : Ev} {x : Value} {hb : List Bool} {i : Nat} (h : Hb N w wx e x hb) : Hb N w (wx.setCell ⟨N + 2, i, none⟩ (.bool true)) e x (hb.set i true) := by
  have hoth : ∀ q, q ≠ N + 2 → (wx.setCell ⟨N + 2, i, none⟩ (.bool true)).heap[q]? = wx.heap[q]? := fun q hq => Below.heap_setCell _ _ _ _ hq
  refine ⟨(hoth N (by omega)).trans h.res, (hoth (N + 1) (by omega)).trans h.box, ?_, own_of_block h.own fun q hq => hoth q (by rintro rfl; exact h.ap.2.2 hq), h.ap, h.bel.setCell (by show N ≤ N + 2; omega) _, by rw [List.length_set]; exact h.len⟩
  have := set_row (i := i) (u := .bool true) h.had
  rw [this, List.map_set]
theorem Hb.out {N : Nat} {w wx : World} {e : Ev} {x x0 x1 x2 x3 x4 : Value} {hb : List Bool} (h : Hb N w wx e x hb) :
    (((((wx.setCell ⟨N, 0, none⟩ x0).setCell ⟨N, 1, none⟩ x1).setCell ⟨N, 2, none⟩ x2).setCell ⟨N, 3, none⟩ x3).setCell ⟨N, 4, none⟩ x4).ownsRow N 9 1 x e.tags.length (e.tags.map Value.string) ∧
    Below N w (((((wx.setCell ⟨N, 0, none⟩ x0).setCell ⟨N, 1, none⟩ x1).setCell ⟨N, 2, none⟩ x2).setCell ⟨N, 3, none⟩ x3).setCell ⟨N, 4, none⟩ x4) := by
  refine ⟨own_of_block h.own fun q hq => ?_, below_set5 h.bel (Nat.le_refl _)⟩
  have hq1 : q ≠ N := by rintro rfl; exact h.ap.1 hq
  rw [Below.heap_setCell _ _ _ _ hq1, Below.heap_setCell _ _ _ _ hq1, Below.heap_setCell _ _ _ _ hq1, Below.heap_setCell _ _ _ _ hq1, Below.heap_setCell _ _ _ _ hq1]
/- which names there were -/
def Marks6 (hb : List Bool) (ns : List (List UInt8)) : Prop := ∀ i : Nat, hb[i]? = some true ↔ ∃ nm ∈ ns, idx nm = (i : Int)
def okName (nm : List UInt8) : Prop := nm = nBody ∨ nm = nKind ∨ nm = nTags ∨ nm = nTask ∨ nm = nTime
theorem field_name {nm l r : List UInt8} {e e' : Ev} (h : fieldL nm e l = some (e', r)) : okName nm := by
  unfold fieldL at h
  split at h
  · exact .inl ‹_›
  · split at h
    · exact .inr (.inl ‹_›)
    · split at h
      · exact .inr (.inr (.inl ‹_›))
      · split at h
        · exact .inr (.inr (.inr (.inl ‹_›)))
        · split at h
          · exact .inr (.inr (.inr (.inr ‹_›)))
          · cases h
theorem mem_name {nm l r : List UInt8} {e e' : Ev} (h : memL e l = some (nm, e', r)) : okName nm := by
  unfold memL at h
  split at h
  · cases h
  · split at h
    · cases h
    · rename_i nm' _ _ _ r2 _
      cases hf : fieldL nm' e r2 with
      | none => rw [hf] at h; cases h
      | some p =>
        rw [hf] at h
        simp only [Option.map_some, Option.some.injEq, Prod.mk.injEq] at h
        obtain ⟨rfl, _⟩ := h
        exact field_name (e' := p.1) (r := p.2) hf
theorem idx_inj {a b : List UInt8} (ha : okName a) (hb : okName b) (h : idx a = idx b) : a = b := by
  rcases ha with rfl | rfl | rfl | rfl | rfl <;> rcases hb with rfl | rfl | rfl | rfl | rfl <;> first | rfl | exact absurd h (by decide)
theorem idx_bd {a : List UInt8} (ha : okName a) : ∃ n : Nat, idx a = n ∧ n < 6 := by
  rcases ha with rfl | rfl | rfl | rfl | rfl
  · exact ⟨1, rfl, by decide⟩
  · exact ⟨2, rfl, by decide⟩
  · exact ⟨3, rfl, by decide⟩
  · exact ⟨4, rfl, by decide⟩
  · exact ⟨5, rfl, by decide⟩
/- where the reading of an event stands -/
structure Now (s : ByteArray) (o : Option (List UInt8)) (n : Nat) (c : UInt8) (E : Ev) (ns : List (List UInt8)) (hb : List Bool) (q : Option (List UInt8)) : Prop where
  goal : (o.bind fun l => stepsL 5 123 evZero [] l) = q.bind fun t => stepsL n c (capE E) ns t
  nodup : ns.Nodup
  oks : ∀ nm ∈ ns, okName nm
  marks : Marks6 hb ns
  suf : ∀ r, q = some r → Suf s r
theorem event_bind (o : Option (List UInt8)) : o.bind eventL = (o.bind fun l => stepsL 5 123 evZero [] l).bind fun x => if x.2.1.Nodup then (signL 125 x.2.2).map fun r2 => (x.1, r2) else none := by
  cases o with
  | none => rfl
  | some l =>
    simp only [Option.bind_some, eventL]
    cases stepsL 5 123 evZero [] l with
    | none => rfl
    | some x => rfl
theorem Now.none {s : ByteArray} {o q : Option (List UInt8)} {n : Nat} {c : UInt8} {E : Ev} {ns : List (List UInt8)} {hb : List Bool} (h : Now s o (n + 1) c E ns hb q) (hq : q.bind (signL c) = .none) : o.bind eventL = .none := by
  rw [event_bind, h.goal]
  cases q with
  | none => rfl
  | some t =>
    simp only [Option.bind_some] at hq ⊢
    rw [stepsL, step_mem, hq]; rfl
theorem Now.bad {s : ByteArray} {o q : Option (List UInt8)} {n : Nat} {c : UInt8} {E : Ev} {ns : List (List UInt8)} {hb : List Bool} {t1 : List UInt8} (h : Now s o (n + 1) c E ns hb q) (hq : q.bind (signL c) = some t1) (hm : memL (capE E) t1 = .none) : o.bind eventL = .none := by
  rw [event_bind, h.goal]
  cases q with
  | none => rfl
  | some t =>
    simp only [Option.bind_some] at hq ⊢
    rw [stepsL, step_mem, hq, Option.bind_some, hm]; rfl
theorem Now.twice {s : ByteArray} {o q : Option (List UInt8)} {n : Nat} {c : UInt8} {E e' : Ev} {ns : List (List UInt8)} {hb : List Bool} {t1 nm r : List UInt8} (h : Now s o (n + 1) c E ns hb q) (hq : q.bind (signL c) = some t1) (hm : memL (capE E) t1 = some (nm, e', r)) (hin : nm ∈ ns) : o.bind eventL = .none := by
  rw [event_bind, h.goal]
  cases q with
  | none => rfl
  | some t =>
    simp only [Option.bind_some] at hq ⊢
    rw [stepsL, step_mem, hq, Option.bind_some, hm]
    simp only
    cases hs : stepsL n 44 e' (ns ++ [nm]) r with
    | none => rfl
    | some x =>
      obtain ⟨_, _, _, hp⟩ := steps_suf n (e' := x.1) (had' := x.2.1) (r := x.2.2) hs
      simp only [Option.bind_some]
      rw [if_neg]
      intro hnd
      have := hnd.sublist hp.sublist
      rw [List.nodup_append] at this
      exact this.2.2 nm hin nm (by simp) rfl
theorem Now.next {s : ByteArray} {o q : Option (List UInt8)} {n : Nat} {c : UInt8} {E E' e' : Ev} {ns : List (List UInt8)} {hb : List Bool} {t1 nm r : List UInt8} {i : Nat} (h : Now s o (n + 1) c E ns hb q) (hq : q.bind (signL c) = some t1) (hm : memL (capE E) t1 = some (nm, e', r)) (hE : capE E' = e') (hr : Suf s r) (hi : idx nm = (i : Int)) (hl : hb.length = 6) (hno : ¬ hb[i]? = some true) :
    Now s o n 44 E' (ns ++ [nm]) (hb.set i true) (some r) := by
  have hok := mem_name hm
  have hnin : nm ∉ ns := fun hin => hno ((h.marks i).2 ⟨nm, hin, hi⟩)
  obtain ⟨j, hj1, hj2⟩ := idx_bd hok
  have hij : i = j := by omega
  refine ⟨?_, ?_, ?_, ?_, fun x hx => by rw [← Option.some.inj hx]; exact hr⟩
  · rw [h.goal]
    cases q with
    | none => cases hq
    | some t =>
      simp only [Option.bind_some] at hq ⊢
      rw [stepsL, step_mem, hq, Option.bind_some, hm, hE]
  · rw [List.nodup_append]
    exact ⟨h.nodup, by simp, fun a ha b hb => by simp only [List.mem_singleton] at hb; rintro rfl; rw [hb] at ha; exact hnin ha⟩
  · intro a ha
    rcases List.mem_append.1 ha with ha | ha
    · exact h.oks a ha
    · simp only [List.mem_singleton] at ha; rw [ha]; exact hok
  · intro a
    by_cases hai : a = i
    · subst hai
      constructor
      · intro _; exact ⟨nm, by simp, hi⟩
      · intro _; rw [List.getElem?_set_self (by omega)]
    · rw [List.getElem?_set_ne (Ne.symm hai), h.marks a]
      constructor
      · rintro ⟨x, hx, hxi⟩; exact ⟨x, by simp [hx], hxi⟩
      · rintro ⟨x, hx, hxi⟩
        rcases List.mem_append.1 hx with hx | hx
        · exact ⟨x, hx, hxi⟩
        · simp only [List.mem_singleton] at hx
          rw [hx, hi] at hxi
          omega
theorem Now.done {s : ByteArray} {o : Option (List UInt8)} {c : UInt8} {E : Ev} {ns : List (List UInt8)} {hb : List Bool} {t : List UInt8} (h : Now s o 0 c E ns hb (some t)) : EvR s o E (pos s (signL 125 t)) := by
  unfold EvR
  rw [event_bind, h.goal]
  simp only [Option.bind_some, stepsL]
  rw [if_pos h.nodup]
  cases hc : signL 125 t with
  | none => rfl
  | some r => exact ⟨rfl, rfl, (h.suf t rfl).trans (sign_suf hc).1⟩
theorem EvR.no {s : ByteArray} {o : Option (List UInt8)} {E : Ev} (h : o.bind eventL = .none) : EvR s o E (-1) := by unfold EvR; rw [h]
end Go.Proofs.YtdjllnhahhjgmaaGreatDoor
namespace Chron
open Go Go.RowKit
theorem perm_of {α : Type} [DecidableEq α] : ∀ {a b : List α}, a.Nodup → (∀ x ∈ a, x ∈ b) → b.length ≤ a.length → a.Perm b
  | [], b, _, _, hl => by
    have : b = [] := List.eq_nil_of_length_eq_zero (by simpa using hl)
    rw [this]
  | x :: a, b, hn, hs, hl => by
    have hx : x ∈ b := hs x (by simp)
    have hn2 := List.nodup_cons.1 hn
    have h1 : a.Perm (b.erase x) := perm_of hn2.2 (fun y hy => (List.mem_erase_of_ne (by rintro rfl; exact hn2.1 hy)).2 (hs y (by simp [hy]))) (by
      rw [List.length_erase_of_mem hx]; simp at hl; omega)
    exact (h1.cons x).trans (List.perm_cons_erase hx).symm
def namesL : List (List UInt8) := [nBody, nKind, nTags, nTask, nTime]
def leL (x y : List UInt8) : Bool := decide (x ≤ y)
theorem names_sorted : namesL.Pairwise (fun a b => leL a b = true) := by decide
theorem leL_trans (a b c : List UInt8) : leL a b = true → leL b c = true → leL a c = true := by
  simp only [leL, decide_eq_true_eq]; exact List.le_trans
theorem leL_total (a b : List UInt8) : (leL a b || leL b a) = true := by
  simp only [leL, Bool.or_eq_true, decide_eq_true_eq]; exact List.le_total a b
theorem sort_names {ns : List (List UInt8)} (h : ns.Perm namesL) : ns.mergeSort leL = namesL := by
  have h1 : (ns.mergeSort leL).Perm namesL := (List.mergeSort_perm ns leL).trans h
  have h2 := List.pairwise_mergeSort leL_trans leL_total ns
  exact h1.eq_of_pairwise (fun a b _ _ hab hba => List.le_antisymm (of_decide_eq_true hab) (of_decide_eq_true hba)) h2 names_sorted
theorem names_iff {ns : List (List UInt8)} (hl : ns.length = 5) (hn : ∀ x ∈ ns, x ∈ namesL) : ns.mergeSort leL = namesL ↔ ns.Nodup := by
  constructor
  · intro h
    have h1 := List.mergeSort_perm ns leL
    rw [h] at h1
    exact h1.nodup_iff.1 (by decide)
  · intro h
    exact sort_names (perm_of h hn (by simp [namesL, hl]))
end Chron
namespace Go.Proofs.YtdjllnhahhjgmaaGreatDoor
open Go.RowKit Chron
def nameAt (i : Nat) : List UInt8 := namesL.getD i []
/- the tables that start-up code lays, below a place -/
structure Glob (B : Nat) (w : World) : Prop where
  err : ErrV w
  kinds : Kinds w
  names : ∀ i, i < 5 → w.cell? ⟨0, i, none⟩ = some (.string (ba (nameAt i)))
  below : B ≤ w.heap.size
  e : 8 < B
  k : 1 < B
  n : 0 < B
theorem Glob.more {B : Nat} {w w' : World} (h : Glob B w) (hb : Below B w w') : Glob B w' := by
  obtain ⟨⟨te, pe, e1⟩, k1, n1, hB, he, hk, hn⟩ := h
  refine ⟨⟨te, pe, (hb.cell (p := ⟨_, 0, none⟩) he).trans e1⟩, ?_, fun i hi => (hb.cell (p := ⟨_, i, none⟩) hn).trans (n1 i hi), Nat.le_trans hB hb.size, he, hk, hn⟩
  intro i hi
  exact (hb.cell (p := ⟨_, i, none⟩) hk).trans (k1 i hi)
theorem Glob.far {B R : Nat} {w w' : World} (h : Glob B w) (hR : B ≤ R) (hf : Far w w' [some R]) : Glob B w' :=
  h.more (hf.below h.below (fun q hq => by simp at hq; omega))
theorem ext_mid (z y a b : UInt8) (r : List UInt8) : (ba (z :: y :: a :: b :: r)).extract 2 4 = ⟨#[a, b]⟩ := by
  apply bytes_inj
  simp [ba, ByteArray.extract, ByteArray.copySlice]
theorem ext_front (z y a b : UInt8) (r : List UInt8) : (ba (z :: y :: a :: b :: r)).extract 0 2 = ⟨#[z, y]⟩ := by
  apply bytes_inj
  simp [ba, ByteArray.extract, ByteArray.copySlice]
theorem ext_rest (z y a b : UInt8) (r : List UInt8) : (ba (z :: y :: a :: b :: r)).extract 4 (ba (z :: y :: a :: b :: r)).size = ba r := by
  have := extract_mk_drop (z :: y :: a :: b :: r) 4
  exact this
theorem coded_less {l : List UInt8} (h : l.length < 4) : codedL l = none := by
  match l, h with
  | [], _ => rfl
  | [_], _ => rfl
  | [_, _], _ => rfl
  | [_, _, _], _ => rfl
  | _ :: _ :: _ :: _ :: _, h => simp at h; omega
theorem four_of {l : List UInt8} (h : ¬ l.length < 4) : ∃ z y a d r, l = z :: y :: a :: d :: r := by
  match l, h with
  | [], h => simp at h
  | [_], h => simp at h
  | [_, _], h => simp at h
  | [_, _, _], h => simp at h
  | z :: y :: a :: d :: r, _ => exact ⟨z, y, a, d, r, rfl⟩
theorem coded_hex (a b : UInt8) (r : List UInt8) : codedL (48 :: 48 :: a :: b :: r) = (hexN 0 [a, b]).map fun n => (UInt8.ofNat n, r) := by
  simp only [codedL, hexN]
  cases ha : hexD a with
  | none => rfl
  | some m =>
    cases hb : hexD b with
    | none => rfl
    | some n => simp
theorem hexN_lt {a b : UInt8} {n : Nat} (h : hexN 0 [a, b] = some n) : n < 256 := by
  simp only [hexN] at h
  cases ha : hexD a with
  | none => rw [ha] at h; cases h
  | some m =>
    rw [ha] at h
    simp only at h
    cases hb : hexD b with
    | none => rw [hb] at h; cases h
    | some k =>
      rw [hb] at h
      have := hex_lt ha
      have := hex_lt hb
      simp at h
      omega
set_option maxRecDepth 100000 in
set_option maxHeartbeats 2000000 in
theorem coded_any (B R : Nat) (l : List UInt8) (b : Bool) (w : World) (G : Hid (Glob B w)) (hBR : B ≤ R) (h : Hid (Rd R w l b)) (hl : l.length ≤ 1048576) :
    Calls Tryz.prog 157 #[.pointer (some ⟨R, 0, none⟩)] w fun e w' => e = .returned (.int .u8 ((oC (codedL l)).toNat : Int)) ∧ Hid (St R w' b (oR (codedL l))) ∧ Hid (Far w w' [some R]) := by
  have HBR := hide0 hBR
  clear hBR
  by_cases hsh : l.length < 4
  · have HQ := hide0 (coded_less hsh)
    obtain ⟨c0, c1, cf⟩ := h.out.cells
    have hs : ((ba l).size : Int) < 4 := by rw [ba_len]; omega
    clear hsh
    go_enter Tryz.func157, Tryz.ntmps157
    go_wp2_with fail
    refine (fail_any R _ _ _ h).mono ?_
    rintro e w1 ⟨rfl, H1, HF1⟩
    go_wp2
    go_ret
    exact ⟨ret_u8 (by rw [HQ.out]; rfl), by rw [HQ.out]; exact H1, HF1⟩
  · obtain ⟨z, y, a, d, r, rfl⟩ := four_of hsh
    clear hsh
    obtain ⟨c0, c1, cf⟩ := h.out.cells
    obtain ⟨S, T0, T1, HSE, hge, hle, hx0, hx1, hx2, HT0, HT1⟩ : ∃ S T0 T1, Hid (ba (z :: y :: a :: d :: r) = S) ∧ 4 ≤ S.size ∧ S.size ≤ 1048576 ∧ S.extract 0 2 = T0 ∧ S.extract 2 4 = T1 ∧ S.extract 4 S.size = ba r ∧ Hid (T0.toList = [z, y]) ∧ Hid (T1.data.toList = [a, d] ∧ T1.size = 2) :=
      ⟨ba (z :: y :: a :: d :: r), ⟨#[z, y]⟩, ⟨#[a, d]⟩, rfl, by rw [ba_len]; simp, by rw [ba_len]; omega, ext_front .., ext_mid .., ext_rest .., by rw [Hid, ByteArray.toList_eq], ⟨rfl, rfl⟩⟩
    rw [HSE.out] at c0
    have hbd : 2 ≤ S.size := by omega
    by_cases hzy : z = 48 ∧ y = 48
    · obtain ⟨rfl, rfl⟩ := hzy
      have hP := fun X hX => parseUint_any T1 X (by rw [HT1.out.2]; decide) (by rw [HT1.out.2]; decide) hX
      have HC := hide0 (coded_hex a d r)
      rw [HT1.out.1] at hP
      have hcm : (T0.toList == [48, 48]) = true := by rw [HT0.out]; rfl
      cases hq : hexN 0 [a, d] with
      | some n =>
        have hn := hexN_lt hq
        have HQ : Hid (codedL (48 :: 48 :: a :: d :: r) = some (UInt8.ofNat n, r) ∧ (UInt8.ofNat n).toNat = n) := by
          refine ⟨by rw [HC.out, hq]; rfl, ?_⟩
          rw [UInt8.toNat_ofNat_of_lt' (by omega)]
        rw [hq] at hP
        simp only at hP
        have hnI : (n : Int) < 256 := by omega
        go_enter Tryz.func157, Tryz.ntmps157
        go_wp2_with fail
        refine (hP _ G.out.err).mono ?_
        rintro e w1 ⟨rfl, hb1⟩
        have H1 := hide0 (h.out.more hb1)
        have H2 := hide0 (H1.out.set (l' := r))
        have HF1 : Hid (Far w w1 [some R]) := Far.of_below hb1 (Nat.le_refl _)
        clear c0 c1 cf hb1
        obtain ⟨c0, c1, cf⟩ := H1.out.cells
        rw [HSE.out] at c0
        go_wp2
        go_ret
        exact ⟨ret_u8 (by rw [HQ.out.1]; show _ = (((UInt8.ofNat n).toNat : Nat) : Int); rw [HQ.out.2]), by rw [HQ.out.1]; exact H2, HF1.out.setCell (p := ⟨R, 0, none⟩) (.inl (by simp)) _⟩
      | none =>
        have HQ : Hid (codedL (48 :: 48 :: a :: d :: r) = none) := by rw [Hid, HC.out, hq]; rfl
        rw [hq] at hP
        simp only at hP
        go_enter Tryz.func157, Tryz.ntmps157
        go_wp2_with fail
        refine (hP _ G.out.err).mono ?_
        rintro e w1 ⟨⟨x, te, pe, rfl⟩, hb1⟩
        have H1 := hide0 (h.out.more hb1)
        have HF1 : Hid (Far w w1 [some R]) := Far.of_below hb1 (Nat.le_refl _)
        clear c0 c1 cf hb1
        go_wp2_with fail
        refine (fail_any R _ _ _ H1).mono ?_
        rintro e w2 ⟨rfl, H2, HF2⟩
        go_wp2
        go_ret
        exact ⟨ret_u8 (by rw [HQ.out]; rfl), by rw [HQ.out]; exact H2, HF1.out.trans HF2.out⟩
    · have HQ : Hid (codedL (z :: y :: a :: d :: r) = none) := by rw [Hid, codedL, if_neg hzy]
      have hcm : (T0.toList == [48, 48]) = false := by
        rw [beq_eq_false_iff_ne, HT0.out]
        intro he
        simp at he
        exact hzy he
      clear hzy
      go_enter Tryz.func157, Tryz.ntmps157
      go_wp2_with fail
      refine (fail_any R _ _ _ h).mono ?_
      rintro e w1 ⟨rfl, H1, HF1⟩
      go_wp2
      go_ret
      exact ⟨ret_u8 (by rw [HQ.out]; rfl), by rw [HQ.out]; exact H1, HF1⟩
end Go.Proofs.YtdjllnhahhjgmaaGreatDoor
namespace Go.Proofs.YtdjllnhahhjgmaaGreatDoor
open Go.RowKit Chron
theorem Far.loose {R : List (Option Nat)} {a b : World} (h : Far a b []) : Far a b R := ⟨h.os, h.tape, h.output, h.size, fun k hk _ => h.block k hk (fun r hr => by cases hr)⟩
set_option maxRecDepth 100000 in
set_option maxHeartbeats 2000000 in
theorem escaped_any (B R : Nat) (l : List UInt8) (b : Bool) (w : World) (G : Hid (Glob B w)) (hBR : B ≤ R) (h : Hid (Rd R w l b)) (hl : l.length ≤ 1048576) :
    Calls Tryz.prog 133 #[.pointer (some ⟨R, 0, none⟩)] w fun e w' => e = .returned (.int .u8 ((oC (escL l)).toNat : Int)) ∧ Hid (St R w' b (oR (escL l))) ∧ Hid (Far w w' [some R]) := by
  have hN := rnext_any R l b w h hl
  have HBR := hide0 hBR
  clear hBR
  cases l with
  | nil =>
    have e0 : ((oC (nextL [])).toNat : Int) = 0 := rfl
    rw [e0] at hN
    go_enter Tryz.func133, Tryz.ntmps133
    go_wp2_with fail
    refine hN.mono ?_
    rintro e w1 ⟨rfl, H1, HF1⟩
    go_wp2_with fail
    refine (fail_any R _ _ _ H1).mono ?_
    rintro e w2 ⟨rfl, H2, HF2⟩
    go_wp2
    go_ret
    exact ⟨rfl, H2, HF1.out.trans HF2.out⟩
  | cons c r =>
    by_cases h3 : c = 34 ∨ c = 92 ∨ c = 47
    · have HQ : Hid (escL (c :: r) = some (c, r)) := by rw [Hid, escL]; simp [h3]
      have key : ∀ z : Int, z = 34 ∨ z = 92 ∨ z = 47 → ((oC (nextL (c :: r))).toNat : Int) = z → Calls Tryz.prog 133 #[.pointer (some ⟨R, 0, none⟩)] w fun e w' => e = .returned (.int .u8 z) ∧ Hid (St R w' b (some r)) ∧ Hid (Far w w' [some R]) := by
        intro z hz e0
        rw [e0] at hN
        rcases hz with rfl | rfl | rfl
        all_goals
          go_enter Tryz.func133, Tryz.ntmps133
          go_wp2_with fail
          refine hN.mono ?_
          rintro e w1 ⟨rfl, H1, HF1⟩
          go_wp2
          go_ret
          exact ⟨rfl, H1, HF1⟩
      rw [HQ.out]
      refine (key ((c.toNat : Nat) : Int) ?_ rfl)
      rcases h3 with rfl | rfl | rfl
      · exact .inl rfl
      · exact .inr (.inl rfl)
      · exact .inr (.inr rfl)
    · by_cases hu : c = 117
      · have HQ : Hid (escL (c :: r) = plainL (codedL r)) := by rw [Hid, escL]; simp [hu]
        subst hu
        have e0 : ((oC (nextL (117 :: r))).toNat : Int) = 117 := rfl
        rw [e0] at hN
        have hr : r.length ≤ 1048576 := by simp at hl; omega
        clear h3
        go_enter Tryz.func133, Tryz.ntmps133
        go_wp2_with fail
        refine hN.mono ?_
        rintro e w1 ⟨rfl, H1, HF1⟩
        have G1 := hide0 (G.out.far HBR.out HF1.out)
        go_wp2_with fail
        refine (coded_any B R r b _ G1 HBR.out H1 hr).mono ?_
        rintro e w2 ⟨rfl, H2, HF2⟩
        go_wp2_with fail
        refine (plain_any R _ _ _ (oC (codedL r)) rfl _ H2).mono ?_
        rintro e w3 ⟨rfl, H3, HF3⟩
        go_wp2
        go_ret
        have HQ2 : escL (117 :: r) = plainL (codedL r) := HQ.out
        rw [HQ2]
        cases hc : codedL r with
        | none =>
          rw [hc] at H3
          exact ⟨rfl, H3, (HF1.out.trans HF2.out).trans HF3.out⟩
        | some p =>
          obtain ⟨d, r2⟩ := p
          rw [hc] at H3
          exact ⟨rfl, H3, (HF1.out.trans HF2.out).trans HF3.out⟩
      · have HQ : Hid (escL (c :: r) = none) := by rw [Hid, escL]; simp [h3, hu]
        obtain ⟨z, e0, HZ⟩ : ∃ z : Int, ((oC (nextL (c :: r))).toNat : Int) = z ∧ Hid (z = (c.toNat : Int)) := ⟨_, rfl, rfl⟩
        have ne : ∀ d : UInt8, c ≠ d → (z == (d.toNat : Int)) = false := by
          intro d hd
          rw [beq_eq_false_iff_ne, HZ.out]
          intro h
          exact hd (UInt8.toNat_inj.1 (by omega))
        have n1 : (z == 34) = false := ne 34 (fun h => h3 (.inl h))
        have n2 : (z == 92) = false := ne 92 (fun h => h3 (.inr (.inl h)))
        have n3 : (z == 47) = false := ne 47 (fun h => h3 (.inr (.inr h)))
        have n4 : (z == 117) = false := ne 117 hu
        rw [e0] at hN
        clear h3 hu ne e0
        go_enter Tryz.func133, Tryz.ntmps133
        go_wp2_with fail
        refine hN.mono ?_
        rintro e w1 ⟨rfl, H1, HF1⟩
        go_wp2_with fail
        refine (fail_any R _ _ _ H1).mono ?_
        rintro e w2 ⟨rfl, H2, HF2⟩
        go_wp2
        go_ret
        exact ⟨ret_u8 (by rw [HQ.out]; rfl), by rw [HQ.out]; exact H2, HF1.out.trans HF2.out⟩
set_option maxRecDepth 100000 in
set_option maxHeartbeats 2000000 in
theorem rquoted_any (B R : Nat) (x : UInt8) (r : List UInt8) (b : Bool) (w : World) (G : Hid (Glob B w)) (hBR : B ≤ R) (h : Hid (Rd R w (x :: r) b)) (hl : (x :: r).length ≤ 1048576) :
    Calls Tryz.prog 97 #[.pointer (some ⟨R, 0, none⟩)] w fun e w' => e = .returned (.int .u8 ((oC (letterL (x :: r))).toNat : Int)) ∧ Hid (St R w' b (oR (letterL (x :: r)))) ∧ Hid (Far w w' [some R]) := by
  have hN := rnext_any R (x :: r) b w h hl
  have HBR := hide0 hBR
  have hr : r.length ≤ 1048576 := by simp at hl; omega
  clear hBR
  by_cases hx : x = 92
  · have HQ : Hid (letterL (x :: r) = escL r) := by rw [Hid, letter_esc, if_pos hx]
    subst hx
    have e0 : ((oC (nextL (92 :: r))).toNat : Int) = 92 := rfl
    rw [e0] at hN
    go_enter Tryz.func97, Tryz.ntmps97
    go_wp2_with fail
    refine hN.mono ?_
    rintro e w1 ⟨rfl, H1, HF1⟩
    have G1 := hide0 (G.out.far HBR.out HF1.out)
    go_wp2_with fail
    refine (escaped_any B R r b _ G1 HBR.out H1 hr).mono ?_
    rintro e w2 ⟨rfl, H2, HF2⟩
    go_wp2
    go_ret
    exact ⟨ret_u8 (by rw [HQ.out]), by rw [HQ.out]; exact H2, HF1.out.trans HF2.out⟩
  · have HQ : Hid (letterL (x :: r) = plainL (some (x, r))) := by rw [Hid, letter_esc, if_neg hx]
    obtain ⟨z, e0, HZ⟩ : ∃ z : Int, ((oC (nextL (x :: r))).toNat : Int) = z ∧ Hid (z = (x.toNat : Int)) := ⟨_, rfl, rfl⟩
    have n1 : (z == 92) = false := by
      rw [beq_eq_false_iff_ne, HZ.out]
      intro h
      exact hx (UInt8.toNat_inj.1 (by show x.toNat = 92; omega))
    rw [e0] at hN
    clear e0 hx
    go_enter Tryz.func97, Tryz.ntmps97
    go_wp2_with fail
    refine hN.mono ?_
    rintro e w1 ⟨rfl, H1, HF1⟩
    go_wp2_with fail
    refine (plain_any R r b z x HZ.out _ H1).mono ?_
    rintro e w2 ⟨rfl, H2, HF2⟩
    go_wp2
    go_ret
    exact ⟨ret_u8 (by rw [HQ.out]), by rw [HQ.out]; exact H2, HF1.out.trans HF2.out⟩
end Go.Proofs.YtdjllnhahhjgmaaGreatDoor
