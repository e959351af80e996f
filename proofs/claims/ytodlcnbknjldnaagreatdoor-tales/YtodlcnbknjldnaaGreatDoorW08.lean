/- Walks and plain facts, in the order in which they lean on one another. -/
import Derived.Test.YtodlcnbknjldnaaGreatDoorW07
import Derived.Test.YtodlcnbknjldnaaGreatDoorW06
import Derived.Test.YtodlcnbknjldnaaGreatDoorShelfB
import Derived.Sort.OwnSorted
import Derived.ChangeKeysEq
namespace Go.Proofs.YtodlcnbknjldnaaGreatDoor
open Go.RowKit Chron
theorem own_far {w w' : World} {base R : Nat} {e : TypeId} {size : Nat} {v : Value} {n : Nat} {xs : List Value} (h : w.ownsRow base e size v n xs) (hf : Far w w' [some R]) (hR : R < base) : w'.ownsRow base e size v n xs :=
  own_of_block h fun q hq => hf.block q (h.lt q hq).2 (by simp; have := (h.lt q hq).1; omega)
theorem tags_list (l : List UInt8) : tagsL l = listL quoteL quote_one l := rfl
def bt (s : ByteArray) : List UInt8 := s.data.toList
theorem bt_ba (l : List UInt8) : bt (ba l) = l := by simp [bt, ba]
theorem take_skip {c : UInt8} {l : List UInt8} (h : signL c l = none) : takeL c l = skipL l := by unfold takeL; rw [h]
set_option maxRecDepth 100000 in
set_option maxHeartbeats 2000000 in
theorem rtags_any (B R : Nat) (l : List UInt8) (b : Bool) (w : World) (G : Hid (Glob B w)) (hBR : Hid (B ≤ R)) (h : Hid (Rd R w l b)) (hl : l.length ≤ 1048576) :
    Calls Tryz.prog 58 #[.pointer (some ⟨R, 0, none⟩), .func (.func 41) #[.pointer (some ⟨R, 0, none⟩)] #[]] w fun e w' => ∃ (lv : Value) (ts : List ByteArray), e = .returned lv ∧ Hid (St R w' b (lisR (tagsL l))) ∧ Hid (w'.ownsRow w.heap.size 9 1 lv ts.length (ts.map Value.string)) ∧ Hid (∀ p, tagsL l = some p → ts.map bt = p.1) ∧ Hid (Far w w' [some R]) := by
  obtain ⟨i0, hi, hz0, hz1, hz2⟩ := info_parts infoText
  have hRw := h.out.lt
  have hS : (stL (signL 91 l)).length ≤ 1048576 := by
    cases hq : signL 91 l with
    | none => simp [stL]
    | some r => have := (sign_suf hq).2; simp only [stL]; omega
  have hST := fun (h93 : signL 93 (stL (signL 91 l)) = none) (v : ByteArray) => ListR.start quoteL quote_one (l := l) (b := b) (f := bt) (v := v) quote_skip h93
  have HST := hide0 hST
  have HTL : Hid (∀ r r2, signL 91 l = some r → signL 93 r = some r2 → tagsL l = some ([], r2)) := by
    intro r r2 h1 h2
    rw [tags_list, listL, h1]; simp only [h2]
  have HNL : Hid (signL 91 l = none → signL 93 (stL (signL 91 l)) = none) := fun h1 => by rw [h1]; rfl
  have hN := need_any R l b 91 91 rfl w h hl
  clear hST
  go_enter Tryz.func58, Tryz.ntmps58
  go_wp2_with fail
  refine hN.mono ?_
  rintro e w1 ⟨rfl, H1, HF1⟩
  have hT := take_any R _ _ 93 93 rfl w1 H1 hS
  cases hq : signL 93 (stL (signL 91 l)) with
  | some r2 =>
    obtain ⟨r, hr⟩ : ∃ r, signL 91 l = some r := by
      cases h91 : signL 91 l with
      | none => have := HNL.out h91; rw [hq] at this; cases this
      | some r => exact ⟨r, rfl⟩
    have hq2 := hq
    rw [hr] at hq2
    have HQ := hide0 (HTL.out r r2 hr hq2)
    rw [hq, st_take hq] at hT
    have e1 : (some r2 : Option (List UInt8)).isSome = true := rfl
    rw [e1] at hT
    have HB : Hid (stB b (signL 91 l) = b) := by rw [Hid, hr]; rfl
    clear hq2 hr hq e1
    go_wp2_with fail
    refine hT.mono ?_
    rintro e w2 ⟨rfl, H2, HF2⟩
    rw [HB.out] at H2
    go_wp2
    go_ret
    exact ⟨_, [], rfl, by rw [HQ.out]; exact H2, World.ownsRow_nil _ _ _ _, (by rw [HQ.out]; intro p hp; rw [← Option.some.inj hp]; rfl), HF1.out.trans HF2.out⟩
  | none =>
    rw [hq, take_skip hq] at hT
    have e1 : (none : Option (List UInt8)).isSome = false := rfl
    rw [e1] at hT
    have HST2 := hide0 (HST.out hq)
    have hsk := (skip_suf (stL (signL 91 l))).length_le
    clear hq e1 HST HTL HNL
    generalize stL (signL 91 l) = l1 at hS hT HST2 hsk H1
    generalize stB b (signL 91 l) = b1 at hT HST2 H1
    go_wp2_with fail
    refine hT.mono ?_
    rintro e w2 ⟨rfl, H2, HF2⟩
    have HF2' : Hid (Far w w2 [some R]) := HF1.out.trans HF2.out
    have G2 := hide0 (G.out.far hBR.out HF2'.out)
    clear HF1 HF2
    go_wp2_with fail
    refine (rtext_any B R _ _ _ G2 hBR H2 (by omega)).mono ?_
    rintro e w3 ⟨s, rfl, H3, HS3, HF3⟩
    have hs2 := HF2'.out.size
    have hs3 := HF3.out.size
    have HL0 := hide0 (HST2.out s (fun p hp => by rw [HS3.out p hp]; exact bt_ba _))
    have hR0 := (ListR.short quoteL quote_one HL0.out _ (skipL l1) rfl).1
    have H4 : Hid (Rd R (w3.alloc (.cells #[.string s] 9)) (stL (oneR (quoteL (skipL l1)))) (stB b1 (oneR (quoteL (skipL l1))))) := Rd.more H3.out ((Below.refl _ _).alloc (Nat.le_refl _) _)
    have HF4 : Hid (Far w (w3.alloc (.cells #[.string s] 9)) [some R]) := (HF2'.out.trans HF3.out).alloc _
    have HO4 : Hid ((w3.alloc (.cells #[.string s] 9)).ownsRow w.heap.size 9 1 (.slice (some ⟨w3.heap.size, 0, none⟩) 1 1) 1 [.string s]) := World.ownsRow_lit w3 #[.string s] 1 (by omega) (by decide) rfl
    clear HST2 H1 H2 HF2' G2 H3 HS3 HF3 hT hN
    generalize stL (oneR (quoteL (skipL l1))) = lr0 at HL0 H4 hR0
    generalize stB b1 (oneR (quoteL (skipL l1))) = br0 at HL0 H4
    go_wp2_with fail
    go_loopw [5] (fun v wx => ∃ (vs : List ByteArray) (lr : List UInt8) (br : Bool), 0 < vs.length ∧ vs.length + lr.length ≤ 1048577 ∧ lr.length ≤ 1048576 ∧ Hid (ListR quoteL quote_one (listL quoteL quote_one l) b bt vs lr br) ∧ Hid (Rd R wx lr br) ∧ Hid (wx.ownsRow w.heap.size 9 1 v vs.length (vs.map Value.string)) ∧ Hid (Far w wx [some R])) (fun _ wx => restLen R wx)
    case atStart => exact ⟨[s], lr0, br0, by simp, by simp only [List.length_singleton]; omega, by omega, HL0, H4, HO4, HF4⟩
    case round =>
      obtain ⟨vs, lr, br, hvs, hsum, hlr, HL, HR, HO, HF⟩ := hrel
      have hT := take_any R lr br 44 44 rfl wr HR hlr
      cases hq : signL 44 lr with
      | none =>
        rw [hq, take_skip hq] at hT
        have e1 : (none : Option (List UInt8)).isSome = false := rfl
        rw [e1] at hT
        obtain ⟨d1, d2, d3⟩ := HL.out.done _ _ hq
        have HD1 := hide0 d1
        have HD2 := hide0 d2
        have HD3 := hide0 d3
        have hsk := (skip_suf lr).length_le
        clear d1 d2 d3 hq e1
        go_wp2_with fail
        refine hT.mono ?_
        rintro e w5 ⟨rfl, H5, HF5⟩
        go_wp2_with fail
        refine (need_any R _ _ 93 93 rfl _ H5 (by omega)).mono ?_
        rintro e w6 ⟨rfl, H6, HF6⟩
        rw [HD1.out, HD2.out] at H6
        have HO5 := hide0 (own_far HO.out HF5.out hRw)
        have HO6 := hide0 (own_far HO5.out HF6.out hRw)
        go_wp2
        go_ret
        exact ⟨_, vs, rfl, H6, HO6, HD3, (HF.out.trans HF5.out).trans HF6.out⟩
      | some r2 =>
        rw [hq, st_take hq] at hT
        have e1 : (some r2 : Option (List UInt8)).isSome = true := rfl
        rw [e1] at hT
        have hr2 := (sign_suf hq).2
        have hST := fun (v : ByteArray) => HL.out.step quoteL quote_one (v := v) hq
        have HST := hide0 hST
        have hsh := (ListR.short quoteL quote_one HL.out _ r2 rfl).1
        clear hq e1 hST
        go_wp2_with fail
        refine hT.mono ?_
        rintro e w5 ⟨rfl, H5, HF5⟩
        have HF5' := hide0 (HF.out.trans HF5.out)
        have G5 := hide0 (G.out.far hBR.out HF5'.out)
        have HO5 := hide0 (own_far HO.out HF5.out hRw)
        go_wp2_with fail
        refine (rtext_any B R _ _ _ G5 hBR H5 (by omega)).mono ?_
        rintro e w6 ⟨s6, rfl, H6, HS6, HF6⟩
        have HF6' := hide0 (HF5'.out.trans HF6.out)
        have HO6 := own_far HO5.out HF6.out hRw
        have hs6 := HF6'.out.size
        have HL6 := hide0 (HST.out s6 (fun p hp => by rw [HS6.out p hp]; exact bt_ba _))
        have H6' : Hid (Rd R w6 (stL (oneR (quoteL r2))) (stB br (oneR (quoteL r2)))) := H6
        clear HST H5 HF5 HF5' G5 HO5 H6 HS6 HF6 hT
        generalize stL (oneR (quoteL r2)) = lr6 at HL6 H6' hsh
        generalize stB br (oneR (quoteL r2)) = br6 at HL6 H6'
        go_wp2_with (first
          | (at_builtin; refine wpList_append_own _ rfl _ _ 22 rfl w.heap.size 9 i0 (.string ⟨#[]⟩) 1 16 Tryz.underlying22 hi hz0 hz1 hz2 rfl (by decide) _ _ _ rfl (HO6.alloc _) ⟨w6.heap.size, 0, none⟩ 1 1 [_] rfl rfl (cell_one_new _ _ _) (one_string _) ?c3 ?c4 ?c5 ?_))
        case c3 => unfold maxLen; omega
        case c4 => omega
        case c5 => first | omega | (simp; omega)
        intro v' w7 hown' hgrow _
        have HO7 := hide0 hown'
        have HF7 : Hid (Far w w7 [some R]) := (HF6'.out.alloc _).grown hgrow (fun q hq => .inr (HO6.lt _ hq).1)
        have H7 : Hid (Rd R w7 lr6 br6) := by
          have h1 : Rd R (w6.alloc (.cells #[.string s6] 9)) lr6 br6 := Rd.more H6'.out ((Below.refl _ _).alloc (Nat.le_refl _) _)
          refine (hgrow.block R h1.lt ?_).trans h1
          intro e
          have := (HO6.lt _ e.symm).1
          omega
        clear hown' hgrow HO6
        go_wp2
        go_roundw
        case rel => exact ⟨vs ++ [s6], lr6, br6, by simp, by simp only [List.length_append, List.length_singleton]; omega, by omega, HL6, H7, by rw [List.length_append, List.map_append]; exact HO7, HF7⟩
        case measure => rw [restLen_of HR.out, restLen_of H7.out]; omega
end Go.Proofs.YtodlcnbknjldnaaGreatDoor
namespace Go.Proofs.YtodlcnbknjldnaaGreatDoor
open Go.RowKit Chron
/- the event that is being read: a box, and its tags a row of their own -/
structure Eb (E base : Nat) (w : World) (e : Ev) (x : Value) : Prop where
  box : w.heap[E]? = some (.cells #[.int .i64 e.kind, .string e.task, .int .i64 e.time, .string e.body, x] 29)
  own : w.ownsRow base 9 1 x e.tags.length (e.tags.map Value.string)
theorem Far.wide {Q S : List (Option Nat)} {a b : World} (h : Far a b Q) (hs : ∀ r ∈ Q, r ∈ S) : Far a b S :=
  ⟨h.os, h.tape, h.output, h.size, fun k hk hR => h.block k hk (fun r hr => hR r (hs r hr))⟩
theorem Eb.far {E base R : Nat} {w w' : World} {e : Ev} {x : Value} (h : Eb E base w e x) (hf : Far w w' [some R]) (hR : R < base) (hE : R ≠ E) : Eb E base w' e x :=
  ⟨(hf.block E (Array.getElem?_eq_some_iff.1 h.box).1 (by simp; exact hE)).trans h.box, own_far h.own hf hR⟩
theorem Eb.set {E base : Nat} {w : World} {e e' : Ev} {x : Value} {i : Nat} {u : Value} (h : Eb E base w e x) (hE : E < base) (ht : e'.tags = e.tags)
    (hc : #[.int .i64 e.kind, .string e.task, .int .i64 e.time, .string e.body, x].setIfInBounds i u = #[.int .i64 e'.kind, .string e'.task, .int .i64 e'.time, .string e'.body, x]) : Eb E base (w.setCell ⟨E, i, none⟩ u) e' x := by
  refine ⟨by rw [loan_set h.box, hc], ?_⟩
  rw [ht]
  exact own_of_block h.own fun q hq => Below.heap_setCell _ _ _ _ (by rintro rfl; have := (h.own.lt _ hq).1; omega)
theorem Eb.tag {E base : Nat} {w : World} {e : Ev} {x y : Value} {ts : List ByteArray} (h : Eb E base w e x) (hE : E < base) (hy : w.ownsRow base 9 1 y ts.length (ts.map Value.string)) : Eb E base (w.setCell ⟨E, 4, none⟩ y) { e with tags := ts } y :=
  ⟨loan_set h.box, own_of_block hy fun q hq => Below.heap_setCell _ _ _ _ (by rintro rfl; have := (hy.lt _ hq).1; omega)⟩
def fR (o : Option (Ev × List UInt8)) : Option (List UInt8) := o.map (·.2)
def FV (o : Option (Ev × List UInt8)) (e : Ev) : Prop := ∀ p, o = some p → e = p.1
theorem ba_bt (s : ByteArray) : ba (bt s) = s := by apply bytes_inj; simp [ba, bt]
theorem map_ba_bt {ts : List ByteArray} {l : List (List UInt8)} (h : ts.map bt = l) : ts = l.map ba := by
  rw [← h, List.map_map]
  have : (ba ∘ bt) = id := by funext s; exact ba_bt s
  rw [this, List.map_id]
theorem kind_same (l : List UInt8) (tk : ByteArray) (m : Int) (bd : ByteArray) (ts : List ByteArray) : fR ((quoteL l).bind fun p => (kindW p.1).map fun j => ((⟨j, tk, m, bd, ts⟩ : Ev), p.2)) = kR (kindL l) := by
  unfold kindL
  cases quoteL l with
  | none => rfl
  | some p =>
    simp only [Option.bind_some]
    cases kindW p.1 <;> rfl
theorem kind_val {l : List UInt8} {tk : ByteArray} {m : Int} {bd : ByteArray} {ts : List ByteArray} {n : Int} (h : KV (kindL l) n) : FV ((quoteL l).bind fun p => (kindW p.1).map fun j => ((⟨j, tk, m, bd, ts⟩ : Ev), p.2)) ⟨n, tk, m, bd, ts⟩ := by
  unfold kindL at h
  intro p hp
  cases hq : quoteL l with
  | none => rw [hq] at hp; cases hp
  | some q =>
    rw [hq] at hp h
    simp only [Option.bind_some] at hp h
    cases hk : kindW q.1 with
    | none => rw [hk] at hp; cases hp
    | some j =>
      rw [hk] at hp h
      have := h _ rfl
      simp only at this
      rw [← Option.some.inj hp, this]
set_option maxRecDepth 100000 in
set_option maxHeartbeats 4000000 in
theorem rfield_any (B R E base : Nat) (nm : ByteArray) (l : List UInt8) (b : Bool) (k : Int) (tk : ByteArray) (m : Int) (bd : ByteArray) (ts : List ByteArray) (x : Value) (w : World) (G : Hid (Glob B w)) (hBR : Hid (B ≤ R)) (h : Hid (Rd R w l b)) (hl : l.length ≤ 1048576)
    (HE : Hid (Eb E base w ⟨k, tk, m, bd, ts⟩ x)) (hRb : Hid (R < base ∧ E < base ∧ R < E ∧ base ≤ w.heap.size)) :
    Calls Tryz.prog 42 #[.pointer (some ⟨R, 0, none⟩), .string nm, .pointer (some ⟨E, 0, none⟩)] w fun e w' => ∃ (e' : Ev) (x' : Value), e = .returned (.tuple #[]) ∧ Hid (St R w' b (fR (fieldL (bt nm) ⟨k, tk, m, bd, ts⟩ l))) ∧ Hid (FV (fieldL (bt nm) ⟨k, tk, m, bd, ts⟩ l) e') ∧ Hid (Eb E base w' e' x') ∧ Hid (Far w w' [some R, some E]) := by
  have hnl : nm.toList = bt nm := by rw [ByteArray.toList_eq]; rfl
  have hw1 : ∀ r, r ∈ [some R] → r ∈ [some R, some E] := by simp
  have HW1 := hide0 hw1
  clear hw1
  by_cases hnB : bt nm = nBody
  · have x1 : (nm.toList == [98, 111, 100, 121]) = true := by rw [hnl, hnB]; rfl
    have HX : Hid (fieldL (bt nm) ⟨k, tk, m, bd, ts⟩ l = (quoteL l).map fun p => (⟨k, tk, m, ba p.1, ts⟩, p.2)) := by rw [Hid, fieldL, if_pos hnB]
    clear hnl hnB
    go_enter Tryz.func42, Tryz.ntmps42
    go_wp2_with fail
    refine (rtext_any B R l b w G hBR h hl).mono ?_
    rintro e w1 ⟨s, rfl, H1, HS, HF1⟩
    have HE1 := hide0 (HE.out.far HF1.out hRb.out.1 (by have := hRb.out; omega))
    obtain ⟨d0, d1, d2, d3, d4, df⟩ := res_cells HE1.out.box
    have HE2 := hide0 (HE1.out.set (i := 3) (u := .string s) (e' := ⟨k, tk, m, s, ts⟩) hRb.out.2.1 rfl rfl)
    have H2 : Hid (St R (w1.setCell ⟨E, 3, none⟩ (.string s)) b (fR (fieldL (bt nm) ⟨k, tk, m, bd, ts⟩ l))) := by
      rw [HX.out]
      have e0 : fR ((quoteL l).map fun p => ((⟨k, tk, m, ba p.1, ts⟩ : Ev), p.2)) = qR (quoteL l) := by cases quoteL l <;> rfl
      rw [e0]
      exact (Below.heap_setCell _ _ _ _ (by show R ≠ E; have := hRb.out; omega)).trans H1.out
    have HV : Hid (FV (fieldL (bt nm) ⟨k, tk, m, bd, ts⟩ l) ⟨k, tk, m, s, ts⟩) := by
      rw [HX.out]
      intro p hp
      cases hq : quoteL l with
      | none => rw [hq] at hp; cases hp
      | some q =>
        rw [hq] at hp
        rw [← Option.some.inj hp, HS.out q hq]
    go_wp2
    go_end0
    exact ⟨_, _, rfl, H2, HV, HE2, (HF1.out.wide HW1.out).setCell (p := ⟨E, 3, none⟩) (.inl (by simp)) _⟩
  · have x1 : (nm.toList == [98, 111, 100, 121]) = false := by rw [hnl, beq_eq_false_iff_ne]; exact hnB
    by_cases hnK : bt nm = nKind
    · have x2 : (nm.toList == [107, 105, 110, 100]) = true := by rw [hnl, hnK]; rfl
      have HX : Hid (fieldL (bt nm) ⟨k, tk, m, bd, ts⟩ l = (quoteL l).bind fun p => (kindW p.1).map fun j => (⟨j, tk, m, bd, ts⟩, p.2)) := by rw [Hid, fieldL, if_neg hnB, if_pos hnK]
      clear hnl hnB hnK
      go_enter Tryz.func42, Tryz.ntmps42
      go_wp2_with fail
      refine (rkind_any B R l b w G hBR h hl).mono ?_
      rintro e w1 ⟨s, rfl, H1, HS, HF1⟩
      have HE1 := hide0 (HE.out.far HF1.out hRb.out.1 (by have := hRb.out; omega))
      obtain ⟨d0, d1, d2, d3, d4, df⟩ := res_cells HE1.out.box
      have HE2 := hide0 (HE1.out.set (i := 0) (u := .int .i64 s) (e' := ⟨s, tk, m, bd, ts⟩) hRb.out.2.1 rfl rfl)
      have H2 : Hid (St R (w1.setCell ⟨E, 0, none⟩ (.int .i64 s)) b (fR (fieldL (bt nm) ⟨k, tk, m, bd, ts⟩ l))) := by
        rw [HX.out]
        have e0 : fR ((quoteL l).bind fun p => (kindW p.1).map fun j => ((⟨j, tk, m, bd, ts⟩ : Ev), p.2)) = kR (kindL l) := kind_same l tk m bd ts
        rw [e0]
        exact (Below.heap_setCell _ _ _ _ (by show R ≠ E; have := hRb.out; omega)).trans H1.out
      have HV : Hid (FV (fieldL (bt nm) ⟨k, tk, m, bd, ts⟩ l) ⟨s, tk, m, bd, ts⟩) := by
        rw [HX.out]
        exact kind_val HS.out
      go_wp2
      go_end0
      exact ⟨_, _, rfl, H2, HV, HE2, (HF1.out.wide HW1.out).setCell (p := ⟨E, 0, none⟩) (.inl (by simp)) _⟩
    · have x2 : (nm.toList == [107, 105, 110, 100]) = false := by rw [hnl, beq_eq_false_iff_ne]; exact hnK
      by_cases hnG : bt nm = nTags
      · have x3 : (nm.toList == [116, 97, 103, 115]) = true := by rw [hnl, hnG]; rfl
        have HX : Hid (fieldL (bt nm) ⟨k, tk, m, bd, ts⟩ l = (tagsL l).map fun p => (⟨k, tk, m, bd, p.1.map ba⟩, p.2)) := by rw [Hid, fieldL, if_neg hnB, if_neg hnK, if_pos hnG]
        clear hnl hnB hnK hnG
        go_enter Tryz.func42, Tryz.ntmps42
        go_wp2_with fail
        refine (rtags_any B R l b w G hBR h hl).mono ?_
        rintro e w1 ⟨s, us, rfl, H1, HO, HS, HF1⟩
        obtain ⟨va, vc, rfl, _⟩ := own_tags HO.out
        have HE1 := hide0 (HE.out.far HF1.out hRb.out.1 (by have := hRb.out; omega))
        obtain ⟨d0, d1, d2, d3, d4, df⟩ := res_cells HE1.out.box
        have HE2 : Hid (Eb E base (w1.setCell ⟨E, 4, none⟩ (.slice va us.length vc)) ⟨k, tk, m, bd, us⟩ (.slice va us.length vc)) := HE1.out.tag hRb.out.2.1 (own_mono HO.out hRb.out.2.2.2)
        have H2 : Hid (St R (w1.setCell ⟨E, 4, none⟩ (.slice va us.length vc)) b (fR (fieldL (bt nm) ⟨k, tk, m, bd, ts⟩ l))) := by
          rw [HX.out]
          have e0 : fR ((tagsL l).map fun p => ((⟨k, tk, m, bd, p.1.map ba⟩ : Ev), p.2)) = lisR (tagsL l) := by cases tagsL l <;> rfl
          rw [e0]
          exact (Below.heap_setCell _ _ _ _ (by show R ≠ E; have := hRb.out; omega)).trans H1.out
        have HV : Hid (FV (fieldL (bt nm) ⟨k, tk, m, bd, ts⟩ l) ⟨k, tk, m, bd, us⟩) := by
          rw [HX.out]
          intro p hp
          cases hq : tagsL l with
          | none => rw [hq] at hp; cases hp
          | some q =>
            rw [hq] at hp
            rw [← Option.some.inj hp, map_ba_bt (HS.out q hq)]
        go_wp2
        go_end0
        exact ⟨_, _, rfl, H2, HV, HE2, (HF1.out.wide HW1.out).setCell (p := ⟨E, 4, none⟩) (.inl (by simp)) _⟩
      · have x3 : (nm.toList == [116, 97, 103, 115]) = false := by rw [hnl, beq_eq_false_iff_ne]; exact hnG
        by_cases hnT : bt nm = nTask
        · have x4 : (nm.toList == [116, 97, 115, 107]) = true := by rw [hnl, hnT]; rfl
          have HX : Hid (fieldL (bt nm) ⟨k, tk, m, bd, ts⟩ l = (quoteL l).map fun p => (⟨k, ba p.1, m, bd, ts⟩, p.2)) := by rw [Hid, fieldL, if_neg hnB, if_neg hnK, if_neg hnG, if_pos hnT]
          clear hnl hnB hnK hnG hnT
          go_enter Tryz.func42, Tryz.ntmps42
          go_wp2_with fail
          refine (rtext_any B R l b w G hBR h hl).mono ?_
          rintro e w1 ⟨s, rfl, H1, HS, HF1⟩
          have HE1 := hide0 (HE.out.far HF1.out hRb.out.1 (by have := hRb.out; omega))
          obtain ⟨d0, d1, d2, d3, d4, df⟩ := res_cells HE1.out.box
          have HE2 := hide0 (HE1.out.set (i := 1) (u := .string s) (e' := ⟨k, s, m, bd, ts⟩) hRb.out.2.1 rfl rfl)
          have H2 : Hid (St R (w1.setCell ⟨E, 1, none⟩ (.string s)) b (fR (fieldL (bt nm) ⟨k, tk, m, bd, ts⟩ l))) := by
            rw [HX.out]
            have e0 : fR ((quoteL l).map fun p => ((⟨k, ba p.1, m, bd, ts⟩ : Ev), p.2)) = qR (quoteL l) := by cases quoteL l <;> rfl
            rw [e0]
            exact (Below.heap_setCell _ _ _ _ (by show R ≠ E; have := hRb.out; omega)).trans H1.out
          have HV : Hid (FV (fieldL (bt nm) ⟨k, tk, m, bd, ts⟩ l) ⟨k, s, m, bd, ts⟩) := by
            rw [HX.out]
            intro p hp
            cases hq : quoteL l with
            | none => rw [hq] at hp; cases hp
            | some q =>
              rw [hq] at hp
              rw [← Option.some.inj hp, HS.out q hq]
          go_wp2
          go_end0
          exact ⟨_, _, rfl, H2, HV, HE2, (HF1.out.wide HW1.out).setCell (p := ⟨E, 1, none⟩) (.inl (by simp)) _⟩
        · have x4 : (nm.toList == [116, 97, 115, 107]) = false := by rw [hnl, beq_eq_false_iff_ne]; exact hnT
          by_cases hnM : bt nm = nTime
          · have x5 : (nm.toList == [116, 105, 109, 101]) = true := by rw [hnl, hnM]; rfl
            have HX : Hid (fieldL (bt nm) ⟨k, tk, m, bd, ts⟩ l = (countL l).map fun p => (⟨k, tk, (p.1 : Int), bd, ts⟩, p.2)) := by rw [Hid, fieldL, if_neg hnB, if_neg hnK, if_neg hnG, if_neg hnT, if_pos hnM]
            clear hnl hnB hnK hnG hnT hnM
            go_enter Tryz.func42, Tryz.ntmps42
            go_wp2_with fail
            refine (rnumber_any R l b w h hl).mono ?_
            rintro e w1 ⟨s, rfl, H1, HS, HF1⟩
            have HE1 := hide0 (HE.out.far HF1.out hRb.out.1 (by have := hRb.out; omega))
            obtain ⟨d0, d1, d2, d3, d4, df⟩ := res_cells HE1.out.box
            have HE2 := hide0 (HE1.out.set (i := 2) (u := .int .i64 s) (e' := ⟨k, tk, s, bd, ts⟩) hRb.out.2.1 rfl rfl)
            have H2 : Hid (St R (w1.setCell ⟨E, 2, none⟩ (.int .i64 s)) b (fR (fieldL (bt nm) ⟨k, tk, m, bd, ts⟩ l))) := by
              rw [HX.out]
              have e0 : fR ((countL l).map fun p => ((⟨k, tk, (p.1 : Int), bd, ts⟩ : Ev), p.2)) = cR (countL l) := by cases countL l <;> rfl
              rw [e0]
              exact (Below.heap_setCell _ _ _ _ (by show R ≠ E; have := hRb.out; omega)).trans H1.out
            have HV : Hid (FV (fieldL (bt nm) ⟨k, tk, m, bd, ts⟩ l) ⟨k, tk, s, bd, ts⟩) := by
              rw [HX.out]
              intro p hp
              cases hq : countL l with
              | none => rw [hq] at hp; cases hp
              | some q =>
                rw [hq] at hp
                rw [← Option.some.inj hp, HS.out q hq]
            go_wp2
            go_end0
            exact ⟨_, _, rfl, H2, HV, HE2, (HF1.out.wide HW1.out).setCell (p := ⟨E, 2, none⟩) (.inl (by simp)) _⟩
          · have x5 : (nm.toList == [116, 105, 109, 101]) = false := by rw [hnl, beq_eq_false_iff_ne]; exact hnM
            have HX : Hid (fieldL (bt nm) ⟨k, tk, m, bd, ts⟩ l = none) := by rw [Hid, fieldL, if_neg hnB, if_neg hnK, if_neg hnG, if_neg hnT, if_neg hnM]
            clear hnl hnB hnK hnG hnT hnM
            go_enter Tryz.func42, Tryz.ntmps42
            go_wp2_with fail
            refine (fail_any R l b w h).mono ?_
            rintro e w1 ⟨rfl, H1, HF1⟩
            have HE1 := hide0 (HE.out.far HF1.out hRb.out.1 (by have := hRb.out; omega))
            have H2 : Hid (St R w1 b (fR (fieldL (bt nm) ⟨k, tk, m, bd, ts⟩ l))) := by rw [HX.out]; exact H1.out
            have HV : Hid (FV (fieldL (bt nm) ⟨k, tk, m, bd, ts⟩ l) ⟨k, tk, m, bd, ts⟩) := by rw [HX.out]; intro p hp; cases hp
            go_wp2
            go_end0
            exact ⟨_, _, rfl, H2, HV, HE1, HF1.out.wide HW1.out⟩
end Go.Proofs.YtodlcnbknjldnaaGreatDoor
namespace Go.Proofs.YtodlcnbknjldnaaGreatDoor
open Go.RowKit Chron
def memThen (n : Nat) (e : Ev) (ns : List (List UInt8)) (l : List UInt8) : Option (Ev × List (List UInt8) × List UInt8) :=
  match memL e l with
  | none => none
  | some (nm, e', r) => stepsL n 44 e' (ns ++ [nm]) r
def okAll (ns : List (List UInt8)) : Prop := ∀ x ∈ ns, okName x
def HeadR (S : Option (Ev × List (List UInt8) × List UInt8)) (b : Bool) (n : Nat) (e : Ev) (ns : List (List UInt8)) (lr : List UInt8) (br : Bool) : Prop :=
  (br = b ∧ S = stepsL n 44 e ns lr ∧ okAll ns) ∨ (S = none ∧ lr = [] ∧ br = true)
def MidR (S : Option (Ev × List (List UInt8) × List UInt8)) (b : Bool) (n : Nat) (e : Ev) (ns : List (List UInt8)) (lr : List UInt8) (br : Bool) : Prop :=
  (br = b ∧ S = memThen n e ns lr ∧ okAll ns) ∨ (S = none ∧ lr = [] ∧ br = true)
theorem steps_mem (n : Nat) (c : UInt8) (e : Ev) (ns : List (List UInt8)) (l : List UInt8) : stepsL (n + 1) c e ns l = (signL c l).bind (memThen n e ns) := by
  rw [stepsL, step_mem]
  cases signL c l with
  | none => rfl
  | some r => rfl
theorem MidR.start (l : List UInt8) (b : Bool) : MidR (stepsL 5 123 evZero [] l) b 4 evZero [] (stL (signL 123 l)) (stB b (signL 123 l)) := by
  rw [steps_mem]
  cases signL 123 l with
  | none => exact .inr ⟨rfl, rfl, rfl⟩
  | some r => exact .inl ⟨rfl, rfl, fun x hx => by cases hx⟩
theorem HeadR.mid {S : Option (Ev × List (List UInt8) × List UInt8)} {b br : Bool} {n : Nat} {e : Ev} {ns : List (List UInt8)} {lr : List UInt8} (h : HeadR S b (n + 1) e ns lr br) : MidR S b n e ns (stL (signL 44 lr)) (stB br (signL 44 lr)) := by
  rcases h with ⟨h1, h2, h3⟩ | ⟨h1, h2, h3⟩
  · rw [steps_mem] at h2
    cases hs : signL 44 lr with
    | none => rw [hs] at h2; exact .inr ⟨h2, rfl, rfl⟩
    | some r => rw [hs] at h2; exact .inl ⟨h1, h2, h3⟩
  · rw [h2, h3]
    exact .inr ⟨h1, rfl, rfl⟩
theorem field_nil (nm : List UInt8) (e : Ev) : fieldL nm e [] = none := by
  cases h : fieldL nm e [] with
  | none => rfl
  | some p => have := (field_suf (e' := p.1) (r := p.2) h).2; simp at this
theorem quote_nil : quoteL [] = none := by unfold quoteL; rw [sign_nil]
theorem MidR.head {S : Option (Ev × List (List UInt8) × List UInt8)} {b br : Bool} {n : Nat} {e e' : Ev} {ns : List (List UInt8)} {lr nm l2 l3 : List UInt8} {b2 b3 : Bool} (h : MidR S b n e ns lr br)
    (h2 : l2 = stL (qR (quoteL lr)) ∧ b2 = stB br (qR (quoteL lr))) (hn : ∀ p, quoteL lr = some p → nm = p.1) (h3 : l3 = stL (signL 58 l2) ∧ b3 = stB b2 (signL 58 l2)) (he : FV (fieldL nm e l3) e') :
    HeadR S b n e' (ns ++ [nm]) (stL (fR (fieldL nm e l3))) (stB b3 (fR (fieldL nm e l3))) := by
  have fail : l3 = [] → b3 = true → S = none → HeadR S b n e' (ns ++ [nm]) (stL (fR (fieldL nm e l3))) (stB b3 (fR (fieldL nm e l3))) := by
    intro a c d
    rw [a, c, field_nil]
    exact .inr ⟨d, rfl, rfl⟩
  obtain ⟨rfl, rfl⟩ := h2
  obtain ⟨rfl, rfl⟩ := h3
  rcases h with ⟨h1, h2, h3⟩ | ⟨h1, h2, h3⟩
  · cases hq : quoteL lr with
    | none =>
      rw [hq] at fail
      rw [hq] at he
      refine fail rfl rfl ?_
      rw [h2, memThen, memL, hq]
    | some p =>
      obtain ⟨q, r1⟩ := p
      have hnq : nm = q := hn _ hq
      subst hnq
      rw [hq] at fail he
      simp only [qR, Option.map_some, stL, stB] at fail he ⊢
      cases hs : signL 58 r1 with
      | none =>
        rw [hs] at fail he
        refine fail rfl rfl ?_
        rw [h2, memThen, memL, hq]; simp only [hs]
      | some r2 =>
        rw [hs] at he
        simp only at he ⊢
        cases hf : fieldL nm e r2 with
        | none =>
          refine .inr ⟨?_, rfl, rfl⟩
          rw [h2, memThen, memL, hq]; simp only [hs, hf, Option.map_none]
        | some z =>
          obtain ⟨e2, r3⟩ := z
          have := he _ hf
          simp only at this
          subst this
          refine .inl ⟨h1, ?_, ?_⟩
          · rw [h2, memThen, memL, hq]; simp only [hs, hf, Option.map_some]; rfl
          · intro x hx
            rcases List.mem_append.1 hx with hx | hx
            · exact h3 x hx
            · simp only [List.mem_singleton] at hx; rw [hx]; exact field_name hf
  · subst h2
    rw [quote_nil] at fail
    rw [quote_nil]
    rw [quote_nil] at he
    subst h3
    exact fail rfl rfl h1
theorem okName_mem {x : List UInt8} (h : okName x) : x ∈ namesL := by
  unfold namesL
  rcases h with rfl | rfl | rfl | rfl | rfl <;> simp
/- what stands at the end: all five names, and the bracket -/
theorem HeadR.done {l lr : List UInt8} {b br : Bool} {e : Ev} {ns : List (List UInt8)} (h : HeadR (stepsL 5 123 evZero [] l) b 0 e ns lr br) (hl : ns.length = 5) :
    (ns.mergeSort leL = namesL → stL (signL 125 lr) = stL (fR (eventL l)) ∧ stB br (signL 125 lr) = stB b (fR (eventL l)) ∧ FV (eventL l) e) ∧ (ns.mergeSort leL ≠ namesL → eventL l = none) := by
  unfold eventL
  rcases h with ⟨h1, h2, h3⟩ | ⟨h1, h2, h3⟩
  · rw [h2]
    simp only [stepsL]
    have key := names_iff hl (fun x hx => okName_mem (h3 x hx))
    constructor
    · intro hm
      rw [if_pos (key.1 hm), h1]
      cases signL 125 lr with
      | none => exact ⟨rfl, rfl, fun p hp => by cases hp⟩
      | some r2 => exact ⟨rfl, rfl, fun p hp => by rw [← Option.some.inj hp]⟩
    · intro hm
      rw [if_neg (fun h => hm (key.2 h))]
  · rw [h1, h2, h3]
    exact ⟨fun _ => ⟨rfl, rfl, fun p hp => by cases hp⟩, fun _ => rfl⟩
def hadC (had : List ByteArray) : Array Value := (had.map Value.string).toArray
structure Ev5 (R : Nat) (w wx : World) (lr : List UInt8) (br : Bool) (e : Ev) (x : Value) (hd : List ByteArray) : Prop where
  rd : Rd R wx lr br
  eb : Eb (w.heap.size + 1) (w.heap.size + 3) wx e x
  res : wx.heap[w.heap.size]? = some (.cells #[.int .i64 0, .string ⟨#[]⟩, .int .i64 0, .string ⟨#[]⟩, .slice none 0 0] 29)
  had : wx.heap[w.heap.size + 2]? = some (.cells (hadC hd) 73)
  len : hd.length = 5
  far : Far w wx [some R]
  low : R < w.heap.size
theorem Ev5.big {R : Nat} {w wx : World} {lr : List UInt8} {br : Bool} {e : Ev} {x : Value} {had : List ByteArray} (h : Ev5 R w wx lr br e x had) : w.heap.size + 3 ≤ wx.heap.size := (Array.getElem?_eq_some_iff.1 h.had).1
theorem Ev5.next {R : Nat} {w wx wy : World} {lr lr' : List UInt8} {br br' : Bool} {e : Ev} {x : Value} {had : List ByteArray} (h : Ev5 R w wx lr br e x had) (hr : Rd R wy lr' br') (hf : Far wx wy [some R]) : Ev5 R w wy lr' br' e x had := by
  have hb := h.big
  have hl := h.low
  refine ⟨hr, h.eb.far hf (by omega) (by omega), (hf.block _ (by omega) (by simp; omega)).trans h.res, (hf.block _ (by omega) (by simp; omega)).trans h.had, h.len, h.far.trans hf, h.low⟩
theorem Ev5.field {R : Nat} {w wx wy : World} {lr lr' : List UInt8} {br br' : Bool} {e e' : Ev} {x x' : Value} {had : List ByteArray} (h : Ev5 R w wx lr br e x had) (hr : Rd R wy lr' br') (he : Eb (w.heap.size + 1) (w.heap.size + 3) wy e' x') (hf : Far wx wy [some R, some (w.heap.size + 1)]) : Ev5 R w wy lr' br' e' x' had := by
  have hb := h.big
  have hl := h.low
  refine ⟨hr, he, (hf.block _ (by omega) (by simp; omega)).trans h.res, (hf.block _ (by omega) (by simp; omega)).trans h.had, h.len, ?_, h.low⟩
  refine ⟨hf.os.trans h.far.os, hf.tape.trans h.far.tape, hf.output.trans h.far.output, Nat.le_trans h.far.size hf.size, fun k hk hR => ?_⟩
  refine (hf.block k (Nat.lt_of_lt_of_le hk h.far.size) ?_).trans (h.far.block k hk hR)
  intro r hr
  simp only [List.mem_cons, List.mem_nil_iff, or_false] at hr
  rcases hr with rfl | rfl
  · exact hR _ (by simp)
  · simp only [ne_eq, Option.some.injEq]; omega
theorem Ev5.mark {R : Nat} {w wx : World} {lr : List UInt8} {br : Bool} {e : Ev} {x : Value} {had : List ByteArray} (h : Ev5 R w wx lr br e x had) (k : Nat) (s : ByteArray) : Ev5 R w (wx.setCell ⟨w.heap.size + 2, k, none⟩ (.string s)) lr br e x (had.set k s) := by
  have hl := h.low
  refine ⟨(Below.heap_setCell _ _ _ _ (by show R ≠ w.heap.size + 2; omega)).trans h.rd, ⟨(Below.heap_setCell _ _ _ _ (by show w.heap.size + 1 ≠ w.heap.size + 2; omega)).trans h.eb.box, ?_⟩, (Below.heap_setCell _ _ _ _ (by show w.heap.size ≠ w.heap.size + 2; omega)).trans h.res, ?_, by simp [h.len], h.far.setCell (.inr (by simp)) _, h.low⟩
  · exact own_of_block h.eb.own fun q hq => Below.heap_setCell _ _ _ _ (by show q ≠ w.heap.size + 2; have := (h.eb.own.lt _ hq).1; omega)
  · have := set_row (w := wx) (g := w.heap.size + 2) (i := k) (L := had.map Value.string) (t := 73) (u := .string s) h.had
    rw [this, hadC, List.map_set]
end Go.Proofs.YtodlcnbknjldnaaGreatDoor
namespace Go.Proofs.YtodlcnbknjldnaaGreatDoor
open Go.RowKit Chron
theorem had_cell {R : Nat} {w wx : World} {lr : List UInt8} {br : Bool} {e : Ev} {x : Value} {hd : List ByteArray} (h : Ev5 R w wx lr br e x hd) {k : Nat} {s : ByteArray} (hk : hd[k]? = some s) : wx.cell? ⟨w.heap.size + 2, k, none⟩ = some (.string s) ∧ ∀ o, wx.frozen? ⟨w.heap.size + 2, o, none⟩ = false := by
  have := h.had
  refine ⟨?_, fun o => by simp [World.frozen?, this]⟩
  simp [World.cell?, this, hadC, hk]
theorem len_sign (c : UInt8) (l : List UInt8) : (stL (signL c l)).length ≤ l.length := by
  cases hq : signL c l with
  | none => simp [stL]
  | some r => have := (sign_suf hq).2; simp only [stL]; omega
theorem len_quote (l : List UInt8) : (stL (qR (quoteL l))).length ≤ l.length := by
  cases hq : quoteL l with
  | none => simp [qR, stL]
  | some p => have := (quote_suf (s := p.1) (r := p.2) hq).2.1; simp only [qR, Option.map_some, stL]; omega
theorem len_field (nm : List UInt8) (e : Ev) (l : List UInt8) : (stL (fR (fieldL nm e l))).length ≤ l.length := by
  cases hq : fieldL nm e l with
  | none => simp [fR, stL]
  | some p => have := (field_suf (e' := p.1) (r := p.2) hq).2; simp only [fR, Option.map_some, stL]; omega
def LoopR (l : List UInt8) (b : Bool) (k : Nat) (e : Ev) (hd : List ByteArray) (lr : List UInt8) (br : Bool) : Prop :=
  (k = 0 ∧ MidR (stepsL 5 123 evZero [] l) b 4 e ((hd.take k).map bt) lr br) ∨ (0 < k ∧ HeadR (stepsL 5 123 evZero [] l) b (5 - k) e ((hd.take k).map bt) lr br)
theorem set_take {hd : List ByteArray} {k : Nat} {s : ByteArray} (hk : k < hd.length) : ((hd.set k s).take (k + 1)).map bt = (hd.take k).map bt ++ [bt s] := by
  rw [List.take_succ_eq_append_getElem (by simpa using hk), List.take_set, List.set_eq_of_length_le (by simp; omega)]
  simp
theorem loop_next {l : List UInt8} {b : Bool} {k : Nat} {e : Ev} {hd : List ByteArray} {lr : List UInt8} {br : Bool} (hk : k < 5) (h : HeadR (stepsL 5 123 evZero [] l) b (4 - k) e ((hd.take (k + 1)).map bt) lr br) : LoopR l b (k + 1) e hd lr br := by
  have e4 : 5 - (k + 1) = 4 - k := by omega
  refine .inr ⟨by omega, ?_⟩
  rw [e4]; exact h
def sorted (hd : List ByteArray) : List ByteArray := ((hd.map bt).mergeSort leL).map ba
theorem sorted_len (hd : List ByteArray) : (sorted hd).length = hd.length := by simp [sorted]
theorem sort_any (blk : Nat) (hd : List ByteArray) (X : World) (T : TypeId) (h5 : hd.length = 5) (hb : X.heap[blk]? = some (.cells (hadC hd) T)) :
    Calls Tryz.prog 43 #[.slice (some ⟨blk, 0, none⟩) 5 5] X fun e X' => e = .returned (.tuple #[]) ∧ Hid (X.grownBy X' (some blk)) ∧ Hid (X'.heap[blk]? = some (.cells (hadC (sorted hd)) T)) := by
  have hl : (hd.map bt).length = 5 := by simpa using h5
  have enc : ∀ ls : List (List UInt8), ls.map encStr = (ls.map ba).map Value.string := fun ls => by rw [List.map_map]; rfl
  have hbb : (hd.map bt).map ba = hd := (map_ba_bt rfl).symm
  have hH : Sort.Holds encStr X blk 0 (hd.map bt).toArray := holds_of_block hb (by rw [enc, hbb, hl]; show List.take 5 (hd.map Value.string) = _; rw [List.take_of_length_le (by simp [h5])])
  have := Tryz.slices_Sort_string blk 0 5 (hd.map bt) X hH (Array.getElem?_eq_some_iff.1 hb).1 (by rw [hl]; decide)
  rw [hl] at this
  refine this.mono ?_
  rintro e w' ⟨rfl, n, os, rfl⟩
  refine ⟨rfl, grownBy_sorted _, ?_⟩
  show _ = _
  rw [heap_sorted _ hb]
  have hsz : (hadC hd).size = 5 := by simp [hadC, h5]
  have hml : ((hd.map bt).mergeSort leL).length = 5 := by simp [h5]
  have ht := take_putCells (hadC hd) ((hd.map bt).mergeSort leL) (by omega)
  have hps : (Sort.putCells encStr 0 ((hd.map bt).mergeSort leL).toArray (hadC hd)).size = 5 := by simp [Sort.putCells, hsz]
  have hpl : (Sort.putCells encStr 0 ((hd.map bt).mergeSort leL).toArray (hadC hd)) = hadC (sorted hd) := by
    apply Array.toList_inj.1
    rw [hml, List.take_of_length_le (by simp [hps])] at ht
    rw [ht, enc]; rfl
  exact congrArg (fun c => some (Obj.cells c T (0, 0))) hpl
theorem plainText : Tryz.prog.plainKey 9 = true := by kernel_rfl
theorem cellsStr : Tryz.prog.cellsOf 9 = 1 := by kernel_rfl
theorem eq_step (W : World) (xs ys : Array Value) (i : Nat) (is : List Nat) (a b : ByteArray) (ha : xs[i]? = some (.string a)) (hb : ys[i]? = some (.string b)) :
    (Op.eqItems 9999 9 1 xs ys (i :: is)).run Tryz.prog W = if a = b then (Op.eqItems 9999 9 1 xs ys is).run Tryz.prog W else .ok false W := by
  have h1 : (part 9 xs (i * 1)).run Tryz.prog W = .ok (.string a) W := run_part_plain W plainText (by rw [Nat.mul_one]; exact ha)
  have h2 : (part 9 ys (i * 1)).run Tryz.prog W = .ok (.string b) W := run_part_plain W plainText (by rw [Nat.mul_one]; exact hb)
  have h3 : (Op.equalIn 9999 9 (.string a) (.string b)).run Tryz.prog W = .ok (a.toList == b.toList) W := run_equalIn_string W 9998 _ a b Tryz.underlying9
  simp only [Op.eqItems, Sem.run_bind, h1, h2, h3, Result.andThen_ok]
  by_cases he : a = b
  · subst he; simp
  · have : (a.toList == b.toList) = false := by
      rw [beq_eq_false_iff_ne]
      intro h
      exact he (by apply bytes_inj; rw [← ByteArray.toList_eq, h, ByteArray.toList_eq])
    rw [this, if_neg he]; rfl
theorem eq_five (W : World) (a0 a1 a2 a3 a4 b0 b1 b2 b3 b4 : ByteArray) : (Op.equalIn 10000 73 (.agg #[.string a0, .string a1, .string a2, .string a3, .string a4]) (.agg #[.string b0, .string b1, .string b2, .string b3, .string b4])).run Tryz.prog W = .ok (decide ([a0, a1, a2, a3, a4] = [b0, b1, b2, b3, b4])) W := by
  obtain ⟨i0, hi, _⟩ := info_parts infoText
  rw [run_equalIn_array W 9999 _ _ Tryz.underlying73 hi, cellsStr, show List.range 5 = [0, 1, 2, 3, 4] from rfl]
  rw [eq_step W _ _ 0 _ a0 b0 rfl rfl, eq_step W _ _ 1 _ a1 b1 rfl rfl, eq_step W _ _ 2 _ a2 b2 rfl rfl, eq_step W _ _ 3 _ a3 b3 rfl rfl, eq_step W _ _ 4 _ a4 b4 rfl rfl]
  by_cases h0 : a0 = b0
  · by_cases h1 : a1 = b1
    · by_cases h2 : a2 = b2
      · by_cases h3 : a3 = b3
        · by_cases h4 : a4 = b4
          · simp [h0, h1, h2, h3, h4, Op.eqItems]
          · simp [h0, h1, h2, h3, h4]
        · simp [h0, h1, h2, h3]
      · simp [h0, h1, h2]
    · simp [h0, h1]
  · simp [h0]
theorem Ev5.grown {R : Nat} {w wx wy : World} {lr : List UInt8} {br : Bool} {e : Ev} {x : Value} {hd hd' : List ByteArray} (h : Ev5 R w wx lr br e x hd) (hg : wx.grownBy wy (some (w.heap.size + 2))) (hb : wy.heap[w.heap.size + 2]? = some (.cells (hadC hd') 73)) (h5 : hd'.length = 5) : Ev5 R w wy lr br e x hd' := by
  have hl := h.low
  have hB := h.big
  refine ⟨(hg.block R (by omega) (by simp; omega)).trans h.rd, ⟨(hg.block _ (by omega) (by simp)).trans h.eb.box, ?_⟩, (hg.block _ (by omega) (by simp)).trans h.res, hb, h5, h.far.grown hg (fun q hq => .inr (by simp at hq; omega)), h.low⟩
  exact own_of_block h.eb.own fun q hq => hg.block q (h.eb.own.lt _ hq).2 (by have := (h.eb.own.lt _ hq).1; simp; omega)
theorem Ev5.out {R : Nat} {w wx : World} {lr : List UInt8} {br : Bool} {e : Ev} {x : Value} {hd : List ByteArray} (h : Ev5 R w wx lr br e x hd) (x0 x1 x2 x3 x4 : Value) :
    Rd R (((((wx.setCell ⟨w.heap.size, 0, none⟩ x0).setCell ⟨w.heap.size, 1, none⟩ x1).setCell ⟨w.heap.size, 2, none⟩ x2).setCell ⟨w.heap.size, 3, none⟩ x3).setCell ⟨w.heap.size, 4, none⟩ x4) lr br ∧
    (((((wx.setCell ⟨w.heap.size, 0, none⟩ x0).setCell ⟨w.heap.size, 1, none⟩ x1).setCell ⟨w.heap.size, 2, none⟩ x2).setCell ⟨w.heap.size, 3, none⟩ x3).setCell ⟨w.heap.size, 4, none⟩ x4).ownsRow w.heap.size 9 1 x e.tags.length (e.tags.map Value.string) ∧
    Far w (((((wx.setCell ⟨w.heap.size, 0, none⟩ x0).setCell ⟨w.heap.size, 1, none⟩ x1).setCell ⟨w.heap.size, 2, none⟩ x2).setCell ⟨w.heap.size, 3, none⟩ x3).setCell ⟨w.heap.size, 4, none⟩ x4) [some R] := by
  have hl := h.low
  have key : ∀ q, q ≠ w.heap.size → (((((wx.setCell ⟨w.heap.size, 0, none⟩ x0).setCell ⟨w.heap.size, 1, none⟩ x1).setCell ⟨w.heap.size, 2, none⟩ x2).setCell ⟨w.heap.size, 3, none⟩ x3).setCell ⟨w.heap.size, 4, none⟩ x4).heap[q]? = wx.heap[q]? := fun q hq => by
    rw [Below.heap_setCell _ _ _ _ hq, Below.heap_setCell _ _ _ _ hq, Below.heap_setCell _ _ _ _ hq, Below.heap_setCell _ _ _ _ hq, Below.heap_setCell _ _ _ _ hq]
  refine ⟨(key R (by omega)).trans h.rd, own_mono (own_of_block h.eb.own fun q hq => key q (by have := (h.eb.own.lt _ hq).1; omega)) (by omega), ?_⟩
  exact ((((h.far.setCell (.inr (Nat.le_refl _)) _).setCell (.inr (Nat.le_refl _)) _).setCell (.inr (Nat.le_refl _)) _).setCell (.inr (Nat.le_refl _)) _).setCell (.inr (Nat.le_refl _)) _
set_option maxRecDepth 100000 in
set_option maxHeartbeats 4000000 in
theorem revent_any (B R : Nat) (l : List UInt8) (b : Bool) (w : World) (G : Hid (Glob B w)) (hBR : Hid (B ≤ R)) (h : Hid (Rd R w l b)) (hl : l.length ≤ 1048576) :
    Calls Tryz.prog 28 #[.pointer (some ⟨R, 0, none⟩)] w fun e w' => ∃ (e' : Ev) (x' : Value), e = .returned (evVal e' x') ∧ Hid (St R w' b (fR (eventL l))) ∧ Hid (FV (eventL l) e') ∧ Hid (w'.ownsRow w.heap.size 9 1 x' e'.tags.length (e'.tags.map Value.string)) ∧ Hid (Far w w' [some R]) := by
  have hlow := h.out.lt
  have HW3 : Hid (Ev5 R w (((w.alloc (.cells #[.int .i64 0, .string ⟨#[]⟩, .int .i64 0, .string ⟨#[]⟩, .slice none 0 0] 29)).alloc (.cells #[.int .i64 0, .string ⟨#[]⟩, .int .i64 0, .string ⟨#[]⟩, .slice none 0 0] 29)).alloc (.cells #[.string ⟨#[]⟩, .string ⟨#[]⟩, .string ⟨#[]⟩, .string ⟨#[]⟩, .string ⟨#[]⟩] 73)) l b evZero (.slice none 0 0) [⟨#[]⟩, ⟨#[]⟩, ⟨#[]⟩, ⟨#[]⟩, ⟨#[]⟩]) := by
    refine ⟨?_, ⟨?_, World.ownsRow_nil _ _ _ _⟩, ?_, ?_, rfl, ?_, hlow⟩
    · exact Rd.more (Rd.more (Rd.more h.out ((Below.refl _ _).alloc (Nat.le_refl _) _)) ((Below.refl _ _).alloc (Nat.le_refl _) _)) ((Below.refl _ _).alloc (Nat.le_refl _) _)
    · rw [Below.heap_alloc _ _ _ (by simp)]
      have := heap_alloc_new (w.alloc (.cells #[.int .i64 0, .string ⟨#[]⟩, .int .i64 0, .string ⟨#[]⟩, .slice none 0 0] 29)) (.cells #[.int .i64 0, .string ⟨#[]⟩, .int .i64 0, .string ⟨#[]⟩, .slice none 0 0] 29)
      rw [World.size_alloc] at this; exact this
    · rw [Below.heap_alloc _ _ _ (by simp; omega), Below.heap_alloc _ _ _ (by simp), heap_alloc_new]
    · have := heap_alloc_new ((w.alloc (.cells #[.int .i64 0, .string ⟨#[]⟩, .int .i64 0, .string ⟨#[]⟩, .slice none 0 0] 29)).alloc (.cells #[.int .i64 0, .string ⟨#[]⟩, .int .i64 0, .string ⟨#[]⟩, .slice none 0 0] 29)) (.cells #[.string ⟨#[]⟩, .string ⟨#[]⟩, .string ⟨#[]⟩, .string ⟨#[]⟩, .string ⟨#[]⟩] 73)
      rw [World.size_alloc, World.size_alloc] at this; exact this
    · exact ((Far.refl w _).alloc _).alloc _ |>.alloc _
  have hS : (stL (signL 123 l)).length ≤ 1048576 := by
    cases hq : signL 123 l with
    | none => simp [stL]
    | some r => have := (sign_suf hq).2; simp only [stL]; omega
  have HM0 := hide0 (MidR.start l b)
  go_enter Tryz.func28, Tryz.ntmps28
  go_wp2_with fail
  refine (need_any R l b 123 123 rfl _ HW3.out.rd hl).mono ?_
  rintro e w1 ⟨rfl, H1, HF1⟩
  have HV1 := hide0 (HW3.out.next H1.out HF1.out)
  clear HW3 H1 HF1
  generalize stL (signL 123 l) = l1 at hS HM0 HV1
  generalize stB b (signL 123 l) = b1 at HM0 HV1
  go_wp2_with fail
  go_loopw [8] (fun iv wx => ∃ (k : Nat) (lr : List UInt8) (br : Bool) (e : Ev) (x : Value) (hd : List ByteArray), k ≤ 5 ∧ iv = .int .i64 k ∧ lr.length ≤ 1048576 ∧ Hid (LoopR l b k e hd lr br) ∧ Hid (Ev5 R w wx lr br e x hd)) (fun iv _ => 5 - (intOf iv).toNat)
  case atStart => exact ⟨0, l1, b1, evZero, _, _, by decide, rfl, hS, .inl ⟨rfl, HM0.out⟩, HV1⟩
  case round =>
    obtain ⟨k, lr, br, ev, x, hd, hk, rfl, hlr, HL, HV⟩ := hrel
    clear HM0 HV1 hS
    obtain ⟨ek, et, em, eb, ets⟩ := ev
    by_cases hlt : k < 5
    · obtain ⟨s0, hold⟩ : ∃ s0, hd[k]? = some s0 := ⟨_, List.getElem?_eq_getElem (by rw [HV.out.len]; omega)⟩
      have HOLD := hide0 hold
      by_cases h0 : 0 < k
      · have HM : Hid (MidR (stepsL 5 123 evZero [] l) b (4 - k) ⟨ek, et, em, eb, ets⟩ ((hd.take k).map bt) (stL (signL 44 lr)) (stB br (signL 44 lr))) := by
          rcases HL.out with ⟨h1, _⟩ | ⟨_, h2⟩
          · omega
          · have e5 : 5 - k = (4 - k) + 1 := by omega
            rw [e5] at h2
            exact h2.mid
        have hl1 := len_sign 44 lr
        clear hold
        go_wp2_with fail
        refine (need_any R lr br 44 44 rfl _ HV.out.rd hlr).mono ?_
        rintro e w1' ⟨rfl, H1, HF1⟩
        have HV' := hide0 (HV.out.next H1.out HF1.out)
        clear HV HL H1 HF1
        have hold := HOLD.out
        have HV := HV'
        clear HV'
        have hlr1 : (stL (signL 44 lr)).length ≤ 1048576 := by omega
        generalize stL (signL 44 lr) = lr1 at HV HM hlr1
        generalize stB br (signL 44 lr) = br1 at HV HM
        have G1 := hide0 (G.out.far hBR.out HV.out.far)
        go_wp2_with fail
        refine (rtext_any B R lr1 br1 _ G1 hBR HV.out.rd hlr1).mono ?_
        rintro e w2 ⟨s, rfl, H2, HS2, HF2⟩
        have HV2 := hide0 (HV.out.next H2.out HF2.out)
        obtain ⟨hc2, hf2⟩ := had_cell HV2.out hold
        have HV3 := hide0 (HV2.out.mark k s)
        have hl2 := len_quote lr1
        go_wp2_with fail
        refine (need_any R _ _ 58 58 rfl _ HV3.out.rd (by omega)).mono ?_
        rintro e w4 ⟨rfl, H4, HF4⟩
        have HV4 := hide0 (HV3.out.next H4.out HF4.out)
        obtain ⟨hc4, hf4⟩ := had_cell HV4.out (k := k) (s := s) (by rw [List.getElem?_set_self (by rw [HV.out.len]; omega)])
        have hl4 := len_sign 58 (stL (qR (quoteL lr1)))
        have G4 := hide0 (G.out.far hBR.out HV4.out.far)
        clear hc2 hf2
        go_wp2_with fail
        refine (rfield_any B R (w.heap.size + 1) (w.heap.size + 3) s _ _ ek et em eb ets x _ G4 hBR HV4.out.rd (by omega) HV4.out.eb ⟨by omega, by omega, by omega, HV4.out.big⟩).mono ?_
        rintro e w5 ⟨e', x', rfl, H5, HFV, HE5, HF5⟩
        have HV5 := hide0 (HV4.out.field H5.out HE5.out HF5.out)
        have hl5 := len_field (bt s) ⟨ek, et, em, eb, ets⟩ (stL (signL 58 (stL (qR (quoteL lr1)))))
        have HL5 := hide0 (HM.out.head (nm := bt s) ⟨rfl, rfl⟩ (fun p hp => by rw [HS2.out p hp]; exact bt_ba _) ⟨rfl, rfl⟩ HFV.out)
        rw [← set_take (k := k) (s := s) (by rw [HV.out.len]; omega)] at HL5
        have HL6 := hide0 (loop_next (by omega) HL5.out)
        clear hc4 hf4
        go_wp2
        go_roundw
        case rel => exact ⟨k + 1, _, _, e', x', hd.set k s, by omega, by go_num, by omega, HL6, HV5⟩
        case measure => simp [intOf]; omega
      · have hk0 : k = 0 := by omega
        have HM : Hid (MidR (stepsL 5 123 evZero [] l) b (4 - k) ⟨ek, et, em, eb, ets⟩ ((hd.take k).map bt) lr br) := by
          rcases HL.out with ⟨_, h1⟩ | ⟨h1, _⟩
          · rw [hk0] at h1 ⊢; exact h1
          · omega
        clear HL hk0
        obtain ⟨lr1, hq⟩ : ∃ lr1, lr = lr1 := ⟨_, rfl⟩
        subst hq
        obtain ⟨br1, hq⟩ : ∃ br1, br = br1 := ⟨_, rfl⟩
        subst hq
        have G1 := hide0 (G.out.far hBR.out HV.out.far)
        go_wp2_with fail
        refine (rtext_any B R lr br _ G1 hBR HV.out.rd hlr).mono ?_
        rintro e w2 ⟨s, rfl, H2, HS2, HF2⟩
        have HV2 := hide0 (HV.out.next H2.out HF2.out)
        obtain ⟨hc2, hf2⟩ := had_cell HV2.out hold
        have HV3 := hide0 (HV2.out.mark k s)
        have hl2 := len_quote lr
        go_wp2_with fail
        refine (need_any R _ _ 58 58 rfl _ HV3.out.rd (by omega)).mono ?_
        rintro e w4 ⟨rfl, H4, HF4⟩
        have HV4 := hide0 (HV3.out.next H4.out HF4.out)
        obtain ⟨hc4, hf4⟩ := had_cell HV4.out (k := k) (s := s) (by rw [List.getElem?_set_self (by rw [HV.out.len]; omega)])
        have hl4 := len_sign 58 (stL (qR (quoteL lr)))
        have G4 := hide0 (G.out.far hBR.out HV4.out.far)
        clear hc2 hf2
        go_wp2_with fail
        refine (rfield_any B R (w.heap.size + 1) (w.heap.size + 3) s _ _ ek et em eb ets x _ G4 hBR HV4.out.rd (by omega) HV4.out.eb ⟨by omega, by omega, by omega, HV4.out.big⟩).mono ?_
        rintro e w5 ⟨e', x', rfl, H5, HFV, HE5, HF5⟩
        have HV5 := hide0 (HV4.out.field H5.out HE5.out HF5.out)
        have hl5 := len_field (bt s) ⟨ek, et, em, eb, ets⟩ (stL (signL 58 (stL (qR (quoteL lr)))))
        have HL5 := hide0 (HM.out.head (nm := bt s) ⟨rfl, rfl⟩ (fun p hp => by rw [HS2.out p hp]; exact bt_ba _) ⟨rfl, rfl⟩ HFV.out)
        rw [← set_take (k := k) (s := s) (by rw [HV.out.len]; omega)] at HL5
        have HL6 := hide0 (loop_next (by omega) HL5.out)
        clear hc4 hf4
        go_wp2
        go_roundw
        case rel => exact ⟨k + 1, _, _, e', x', hd.set k s, by omega, by go_num, by omega, HL6, HV5⟩
        case measure => simp [intOf]; omega
    · have hk5 : k = 5 := by omega
      subst hk5
      have HD : Hid (((hd.map bt).mergeSort leL = namesL → stL (signL 125 lr) = stL (fR (eventL l)) ∧ stB br (signL 125 lr) = stB b (fR (eventL l)) ∧ FV (eventL l) ⟨ek, et, em, eb, ets⟩) ∧ ((hd.map bt).mergeSort leL ≠ namesL → eventL l = none)) := by
        rcases HL.out with ⟨h1, _⟩ | ⟨_, h2⟩
        · omega
        · rw [List.take_of_length_le (by rw [HV.out.len]; omega)] at h2
          exact h2.done (by simp [HV.out.len])
      clear HL
      go_wp2_with fail
      refine (need_any R lr br 125 125 rfl _ HV.out.rd hlr).mono ?_
      rintro e w2 ⟨rfl, H2, HF2⟩
      have HV2 := hide0 (HV.out.next H2.out HF2.out)
      go_wp2_with fail
      refine (sort_any (w.heap.size + 2) hd w2 _ HV2.out.len HV2.out.had).mono ?_
      rintro e w3 ⟨rfl, HG3, HS3⟩
      have HV3 := hide0 (HV2.out.grown HG3.out HS3.out (by rw [sorted_len]; exact HV2.out.len))
      have G3 := hide0 (G.out.far hBR.out HV3.out.far)
      have hsl := HV3.out.len
      have HSD : Hid ((sorted hd = namesL.map ba → (hd.map bt).mergeSort leL = namesL) ∧ (sorted hd ≠ namesL.map ba → (hd.map bt).mergeSort leL ≠ namesL)) := by
        refine ⟨fun h => ?_, fun h h2 => h (by rw [sorted, h2])⟩
        have := congrArg (List.map bt) h
        rw [sorted, List.map_map, List.map_map] at this
        have hid : (bt ∘ ba) = id := by funext s; exact bt_ba s
        rwa [hid, List.map_id, List.map_id] at this
      clear HV HV2 H2 HF2 HG3 HS3
      generalize sorted hd = sd at HV3 hsl HSD
      match sd, hsl, HV3, HSD with
      | [a0, a1, a2, a3, a4], _, HV3, HSD =>
        obtain ⟨f0, ff⟩ := had_cell HV3.out (k := 0) (s := a0) rfl
        obtain ⟨f1, _⟩ := had_cell HV3.out (k := 1) (s := a1) rfl
        obtain ⟨f2, _⟩ := had_cell HV3.out (k := 2) (s := a2) rfl
        obtain ⟨f3, _⟩ := had_cell HV3.out (k := 3) (s := a3) rfl
        obtain ⟨f4, _⟩ := had_cell HV3.out (k := 4) (s := a4) rfl
        have g0 := G3.out.names 0 (by decide)
        have g1 := G3.out.names 1 (by decide)
        have g2 := G3.out.names 2 (by decide)
        have g3 := G3.out.names 3 (by decide)
        have g4 := G3.out.names 4 (by decide)
        have heq := fun W => eq_five W a0 a1 a2 a3 a4 (ba (nameAt 0)) (ba (nameAt 1)) (ba (nameAt 2)) (ba (nameAt 3)) (ba (nameAt 4))
        obtain ⟨va, vc, hve, _⟩ := own_tags HV3.out.eb.own
        subst hve
        obtain ⟨d0, d1, d2, d3, d4, df⟩ := res_cells HV3.out.eb.box
        obtain ⟨r0, r1, r2, r3, r4, rf⟩ := res_cells HV3.out.res
        by_cases hsame : [a0, a1, a2, a3, a4] = [ba (nameAt 0), ba (nameAt 1), ba (nameAt 2), ba (nameAt 3), ba (nameAt 4)]
        · have hdc : decide ([a0, a1, a2, a3, a4] = [ba (nameAt 0), ba (nameAt 1), ba (nameAt 2), ba (nameAt 3), ba (nameAt 4)]) = true := decide_eq_true hsame
          simp only [hdc] at heq
          obtain ⟨q1, q2, q3⟩ := HD.out.1 (HSD.out.1 hsame)
          have HQ1 := hide0 q1
          have HQ2 := hide0 q2
          have HQ3 := hide0 q3
          clear hsame hdc q1 q2 q3
          have hO := HV3.out.out (.int .i64 ek) (.string et) (.int .i64 em) (.string eb) (.slice va ets.length vc)
          rw [HQ1.out, HQ2.out] at hO
          have HO := hide0 hO
          clear hO
          go_wp2_with fail
          refine bodyPost_ret (v := .agg #[.int .i64 ek, .string et, .int .i64 em, .string eb, .slice va ets.length vc]) (by simp [results, Tryz.results28, go_sem, r0, r1, r2, r3, r4]) rfl ?_
          exact ⟨⟨ek, et, em, eb, ets⟩, _, rfl, HO.out.1, HQ3, HO.out.2.1, HO.out.2.2⟩
        · have hdc : decide ([a0, a1, a2, a3, a4] = [ba (nameAt 0), ba (nameAt 1), ba (nameAt 2), ba (nameAt 3), ba (nameAt 4)]) = false := decide_eq_false hsame
          simp only [hdc] at heq
          have HQ := hide0 (HD.out.2 (HSD.out.2 hsame))
          clear hsame hdc
          go_wp2_with fail
          refine (fail_any R _ _ _ HV3.out.rd).mono ?_
          rintro e w4 ⟨rfl, H4, HF4⟩
          have HV4 := hide0 (HV3.out.next H4.out HF4.out)
          clear d0 d1 d2 d3 d4 df r0 r1 r2 r3 r4 rf
          obtain ⟨d0, d1, d2, d3, d4, df⟩ := res_cells HV4.out.eb.box
          obtain ⟨r0, r1, r2, r3, r4, rf⟩ := res_cells HV4.out.res
          have HO := hide0 (HV4.out.out (.int .i64 ek) (.string et) (.int .i64 em) (.string eb) (.slice va ets.length vc))
          have HFV : Hid (FV (eventL l) ⟨ek, et, em, eb, ets⟩) := by rw [HQ.out]; intro p hp; cases hp
          go_wp2_with fail
          refine bodyPost_ret (v := .agg #[.int .i64 ek, .string et, .int .i64 em, .string eb, .slice va ets.length vc]) (by simp [results, Tryz.results28, go_sem, r0, r1, r2, r3, r4]) rfl ?_
          exact ⟨⟨ek, et, em, eb, ets⟩, _, rfl, by rw [HQ.out]; exact HO.out.1, HFV, HO.out.2.1, HO.out.2.2⟩
end Go.Proofs.YtodlcnbknjldnaaGreatDoor
