/- Walks and plain facts, in the order in which they lean on one another. -/
import Derived.Test.YtdjllnhahhjgmaaGreatDoorW08
import Derived.Test.YtdjllnhahhjgmaaGreatDoorW06
import Derived.Deep.QuietTactic
import Derived.BigQuiet
import Derived.Test.YtdjllnhahhjgmaaGreatDoorW07
namespace Go.Proofs.YtdjllnhahhjgmaaGreatDoor
open Go.RowKit Chron
theorem builder_far {T e : TypeId} {b R : Nat} {bs : List Value} {w w' : World} (h : Lib.IsBuilderF T e b b bs w) (hf : Far w w' [some R]) (hR : R < b) : Lib.IsBuilderF T e b b bs w' := by
  have one : ∀ p, Lib.BuilderAtF T e b b p bs w → Lib.BuilderAtF T e b b p bs w' := by
    intro p h
    have hlt := h.lt
    obtain ⟨hB, v, hv, hown, hne⟩ := h
    refine ⟨hB, v, (hf.block b hlt (by simp; omega)).trans hv, hown.kept (row := some R) ⟨hf.os, hf.tape, hf.output, hf.size, fun k hk hne => hf.block k hk (by simpa using Ne.symm hne)⟩ ?_, hne⟩
    rcases hown.2 with hn | ⟨g, cap, cur, fz, hv', hb', _⟩
    · exact .inl (by rw [hn.1]; rfl)
    · exact .inr (by rw [hv']; simp only [Value.ownBlock, ne_eq, Option.some.injEq]; omega)
  exact h.elim (fun x => .inl (one _ x)) (fun x => .inr (one _ x))
theorem Far.low {R : List (Option Nat)} {a b c : World} (h : Far a b R) (hb : Below a.heap.size b c) : Far a c R :=
  ⟨hb.os.trans h.os, hb.tape.trans h.tape, hb.output.trans h.output, Nat.le_trans h.size hb.size, fun k hk hR => (hb.block k hk).trans (h.block k hk hR)⟩
def restLen (R : Nat) (w : World) : Nat := match w.cell? ⟨R, 0, none⟩ with | some (.string s) => s.size | _ => 0
theorem restLen_of {R : Nat} {w : World} {l : List UInt8} {b : Bool} (h : Rd R w l b) : restLen R w = l.length := by
  rw [restLen, h.cells.1]; rfl
theorem Rd.far {R : Nat} {w w' : World} {l : List UInt8} {b : Bool} {B : Nat} (h : Rd R w l b) (hb : Below B w w') (hR : R < B) : Rd R w' l b := (hb.block R hR).trans h
def qR (o : Option (List UInt8 × List UInt8)) : Option (List UInt8) := o.map (·.2)
/- where the reading of what stands in quotes has come to -/
def TextR (l : List UInt8) (b : Bool) (acc lr : List UInt8) (br : Bool) : Prop :=
  (br = b ∧ quoteL l = (inL lr).map fun p => (acc ++ p.1, p.2)) ∨ (quoteL l = none ∧ lr = [] ∧ br = true)
theorem TextR.start (l : List UInt8) (b : Bool) : TextR l b [] (stL (signL 34 l)) (stB b (signL 34 l)) := by
  unfold TextR quoteL
  cases h : signL 34 l with
  | none => exact .inr ⟨rfl, rfl, rfl⟩
  | some r =>
    refine .inl ⟨rfl, ?_⟩
    show inL r = _
    simp [stL]
theorem TextR.step {l acc rr : List UInt8} {b br : Bool} {x : UInt8} (h : TextR l b acc (x :: rr) br) (hx : x ≠ 34) : TextR l b (acc ++ [oC (letterL (x :: rr))]) (stL (oR (letterL (x :: rr)))) (stB br (oR (letterL (x :: rr)))) := by
  rcases h with ⟨h1, h2⟩ | ⟨_, h2, _⟩
  · cases hl : letterL (x :: rr) with
    | none =>
      refine .inr ⟨?_, rfl, rfl⟩
      rw [h2, in_bad hx hl]; rfl
    | some p =>
      obtain ⟨c, r2⟩ := p
      refine .inl ⟨h1, ?_⟩
      rw [h2, in_step hx hl, Option.map_map]
      congr 1
      funext p
      simp [oC]
  · cases h2
theorem TextR.none {l acc : List UInt8} {b br : Bool} (h : TextR l b acc [] br) : quoteL l = none := by
  rcases h with ⟨_, h2⟩ | ⟨h2, _⟩
  · rw [h2, in_nil]; rfl
  · exact h2
theorem TextR.done {l acc rr : List UInt8} {b br : Bool} (h : TextR l b acc (34 :: rr) br) : quoteL l = some (acc, rr) ∧ br = b := by
  rcases h with ⟨h1, h2⟩ | ⟨_, h2, _⟩
  · rw [h2, in_end]; exact ⟨by simp, h1⟩
  · cases h2
theorem sign_34 (rr : List UInt8) : signL 34 (34 :: rr) = some rr := by
  unfold signL skipL
  rw [List.dropWhile_cons_of_neg (by decide)]
  rfl
theorem letter_len {x : UInt8} {rr : List UInt8} : (stL (oR (letterL (x :: rr)))).length < (x :: rr).length := by
  cases h : letterL (x :: rr) with
  | none => simp [oR, stL]
  | some p => exact (letter_suf (c := p.1) (r := p.2) h).2
theorem put_long (b : Nat) (l : List UInt8) (X : World) (hX : Lib.IsBuilderF 116 5 b b (Lib.byteCells l) X) (hl : l.length ≤ 2000000) (z : Int) (c : UInt8) (hz : z = (c.toNat : Int)) :
    Calls Tryz.prog 73 #[.pointer (some ⟨b, 0, none⟩), .int .u8 z] X fun e X' => e = .returned .nilIface ∧ Hid (Lib.IsBuilderF 116 5 b b (Lib.byteCells (l ++ [c])) X') ∧ Below b X X' := by
  subst hz
  refine (Tryz.Builder_WriteByte_k b b _ _ _ hX (by rw [Lib.byteCells_length]; omega) (Nat.le_of_lt (builder_lt hX))).mono ?_
  rintro e w1 ⟨rfl, hB1, hb1, _⟩
  rw [byteCells_push] at hB1
  exact ⟨rfl, .inr hB1, hb1⟩
set_option maxRecDepth 100000 in
set_option maxHeartbeats 2000000 in
theorem rtext_any (B R : Nat) (l : List UInt8) (b : Bool) (w : World) (G : Hid (Glob B w)) (hBR : Hid (B ≤ R)) (h : Hid (Rd R w l b)) (hl : l.length ≤ 1048576) :
    Calls Tryz.prog 64 #[.pointer (some ⟨R, 0, none⟩)] w fun e w' => ∃ s : ByteArray, e = .returned (.string s) ∧ Hid (St R w' b (qR (quoteL l))) ∧ Hid (∀ p, quoteL l = some p → s = ba p.1) ∧ Hid (Far w w' [some R]) := by
  have HBN := hide0 (builder_new 116 5 w)
  have hRw := h.out.lt
  have H0 : Hid (Rd R (w.alloc (.cells #[.pointer none, .slice none 0 0] 116)) l b) := h.out.more ((Below.refl _ _).alloc (Nat.le_refl _) _)
  have hS : (stL (signL 34 l)).length ≤ 1048576 := by
    cases hq : signL 34 l with
    | none => simp [stL]
    | some r => have := (sign_suf hq).2; simp only [stL]; omega
  go_enter Tryz.func64, Tryz.ntmps64
  go_wp2_with fail
  refine (need_any R l b 34 34 rfl _ H0 hl).mono ?_
  rintro e w1 ⟨rfl, H1, HF1⟩
  have HB1 := hide0 (builder_far HBN.out HF1.out hRw)
  have HW1 : Hid (Far w w1 [some R]) := (Far.alloc (Far.refl w _) _).trans HF1.out
  have HT0 := hide0 (TextR.start l b)
  clear HBN H0 HF1
  go_wp2_with fail
  go_loopw [18] (fun _ wx => ∃ (acc lr : List UInt8) (br : Bool), acc.length + lr.length ≤ 1048577 ∧ lr.length ≤ 1048576 ∧ Hid (TextR l b acc lr br) ∧ Hid (Rd R wx lr br) ∧ Hid (Lib.IsBuilderF 116 5 w.heap.size w.heap.size (Lib.byteCells acc) wx) ∧ Hid (Far w wx [some R])) (fun _ wx => restLen R wx)
  case atStart => exact ⟨[], _, _, by simp; omega, hS, HT0, H1, HB1, HW1⟩
  case round =>
    obtain ⟨acc, lr, br, hsum, hlr, HT, HR, HB, HW⟩ := hrel
    have hsz := HW.out.size
    have HG : Hid (Glob B wr) := G.out.far hBR.out HW.out
    cases lr with
    | nil =>
      obtain ⟨c0, c1, cf⟩ := HR.out.cells
      have he : (ba ([] : List UInt8)).toList = [] := ba_toList []
      have HQ := hide0 HT.out.none
      go_wp2_with fail
      refine (need_any R [] br 34 34 rfl _ HR (by simp)).mono ?_
      rintro e w2 ⟨rfl, H2, HF2⟩
      have HB2 := hide0 (builder_far HB.out HF2.out hRw)
      have HW2 := hide0 (HW.out.trans HF2.out)
      have hs2 := HW2.out.size
      clear c0 c1 cf
      go_wp2_with fail
      refine (Tryz.Builder_String_any_k w.heap.size w.heap.size _ _ HB2.out hs2).mono ?_
      rintro e w3 ⟨rfl, hB3, hb3, _⟩
      have H3 : Hid (St R w3 b none) := H2.out.far hb3 hRw
      have HW3 := hide0 (HW2.out.low hb3)
      clear hB3 hb3
      go_wp2
      go_ret
      exact ⟨_, rfl, by rw [HQ.out]; exact H3, (by intro p hp; rw [HQ.out] at hp; cases hp), HW3⟩
    | cons x rr =>
      obtain ⟨S, HSE, hne, hle, hlt, hb0⟩ : ∃ S, Hid (ba (x :: rr) = S) ∧ (S.toList == []) = false ∧ S.size ≤ 1048576 ∧ ∃ hlt : 0 < S.size, S[0].toNat = x.toNat :=
        ⟨ba (x :: rr), rfl, by rw [ba_toList]; rfl, by rw [ba_len]; omega, by rw [ba_len]; simp, rfl⟩
      have hne2 : S.toList.isEmpty = false := by
        cases hz : S.toList with
        | nil => rw [hz] at hne; cases hne
        | cons _ _ => rfl
      obtain ⟨c0, c1, cf⟩ := HR.out.cells
      rw [HSE.out] at c0
      by_cases hx : x = 34
      · have hcmp : ((S[0].toNat : Int) == 34) = true := by rw [hb0, hx]; rfl
        subst hx
        obtain ⟨hq1, hq2⟩ := HT.out.done
        have HQ := hide0 hq1
        have HQ2 := hide0 hq2
        clear hb0 hq1 hq2
        go_wp2_with fail
        refine (need_any R (34 :: rr) br 34 34 rfl _ HR hlr).mono ?_
        rintro e w2 ⟨rfl, H2, HF2⟩
        have HB2 := hide0 (builder_far HB.out HF2.out hRw)
        have HW2 := hide0 (HW.out.trans HF2.out)
        have hs2 := HW2.out.size
        clear c0 c1 cf
        go_wp2_with fail
        refine (Tryz.Builder_String_any_k w.heap.size w.heap.size _ _ HB2.out hs2).mono ?_
        rintro e w3 ⟨rfl, hB3, hb3, _⟩
        have H3 : Hid (St R w3 b (some rr)) := by
          have := H2.out.far hb3 hRw
          rw [sign_34, HQ2.out] at this
          exact this
        have HW3 := hide0 (HW2.out.low hb3)
        clear hB3 hb3
        go_wp2
        go_ret
        exact ⟨_, rfl, by rw [HQ.out]; exact H3, (by intro p hp; rw [HQ.out] at hp; rw [← Option.some.inj hp]; rfl), HW3⟩
      · have hcmp : ((S[0].toNat : Int) == 34) = false := by
          rw [hb0, beq_eq_false_iff_ne]
          intro h
          exact hx (UInt8.toNat_inj.1 (by show x.toNat = 34; omega))
        have HT2 := hide0 (HT.out.step hx)
        have hlen := letter_len (x := x) (rr := rr)
        clear hb0 hx
        go_wp2_with fail
        refine (rquoted_any B R x rr br _ HG hBR.out HR hlr).mono ?_
        rintro e w2 ⟨rfl, H2, HF2⟩
        have HB2 := hide0 (builder_far HB.out HF2.out hRw)
        have HW2 := hide0 (HW.out.trans HF2.out)
        clear c0 c1 cf
        go_wp2_with fail
        refine (put_long w.heap.size _ _ HB2.out (by omega) _ (oC (letterL (x :: rr))) rfl).mono ?_
        rintro e w3 ⟨rfl, HB3, hb3⟩
        have H3 : Hid (Rd R w3 _ _) := H2.out.far hb3 hRw
        have HW3 := hide0 (HW2.out.low hb3)
        clear hb3
        go_wp2
        go_roundw
        case rel => exact ⟨_, _, _, by rw [List.length_append]; simp only [List.length_cons, List.length_nil] at hlen hsum ⊢; omega, by omega, HT2, H3, HB3, HW3⟩
        case measure => rw [restLen_of HR.out, restLen_of H3.out]; exact hlen
end Go.Proofs.YtdjllnhahhjgmaaGreatDoor
namespace Go.Proofs.YtdjllnhahhjgmaaGreatDoor
open Go.RowKit Chron
def cR (o : Option (Nat × List UInt8)) : Option (List UInt8) := o.map (·.2)
set_option maxRecDepth 100000 in
theorem dig_all : ∀ n : Fin 256, ([48, 49, 50, 51, 52, 53, 54, 55, 56, 57] : List UInt8).contains (UInt8.ofNat n.val) = isDig (UInt8.ofNat n.val) := by decide
theorem trim_dig (l : List UInt8) : Lib.trimLeftS l [48, 49, 50, 51, 52, 53, 54, 55, 56, 57] = l.dropWhile isDig := by
  unfold Lib.trimLeftS
  congr 1
  funext c
  have := dig_all ⟨c.toNat, c.toNat_lt⟩
  simpa using this
theorem numL_le (ds : List UInt8) : numL ds ≤ 1125899906842625 := by
  unfold numL
  have : ∀ (l : List UInt8) (a : Nat), a ≤ 1125899906842625 → l.foldl (fun n d => capN n d.toNat) a ≤ 1125899906842625 := by
    intro l
    induction l with
    | nil => intro a h; exact h
    | cons x l ih => intro a h; exact ih _ (Nat.min_le_right _ _)
  exact this ds 0 (by decide)
theorem numL_snoc (ds : List UInt8) (d : UInt8) : numL (ds ++ [d]) = capN (numL ds) d.toNat := by unfold numL; rw [List.foldl_append]; rfl
set_option maxRecDepth 100000 in
set_option maxHeartbeats 2000000 in
theorem rnumber_any (R : Nat) (l : List UInt8) (b : Bool) (w : World) (h : Hid (Rd R w l b)) (hl : l.length ≤ 1048576) :
    Calls Tryz.prog 100 #[.pointer (some ⟨R, 0, none⟩)] w fun e w' => ∃ n : Int, e = .returned (.int .i64 n) ∧ Hid (St R w' b (cR (countL l))) ∧ Hid (∀ p, countL l = some p → n = (p.1 : Int)) ∧ Hid (Far w w' [some R]) := by
  have hS := skip_any R l b w h
  have hsl := (skip_suf l).length_le
  have HCL : Hid (countL l = if badNum ((skipL l).takeWhile isDig) then none else some (numL ((skipL l).takeWhile isDig), (skipL l).dropWhile isDig)) := rfl
  generalize skipL l = sk at hS hsl HCL
  have htd := List.takeWhile_append_dropWhile (p := isDig) (l := sk)
  have HD : Hid (∀ d ∈ sk.takeWhile isDig, isDig d = true) := fun d hd => List.all_eq_true.1 List.all_takeWhile d hd
  have hT := fun X => Tryz.strings_TrimLeft (ba sk) ⟨#[48, 49, 50, 51, 52, 53, 54, 55, 56, 57]⟩ X (by decide) (ascii_of_all (by decide))
  have e : (ba sk).data.toList = sk := by simp [ba]
  rw [e] at hT
  simp only [trim_dig] at hT
  generalize sk.takeWhile isDig = ds at htd HD HCL
  generalize sk.dropWhile isDig = dr at htd hT HCL
  obtain ⟨S, T, D, m, HSE, HTE, HDE, hSs, hTs, hsub, hDs, hext⟩ : ∃ (S T D : ByteArray) (m : Nat), Hid (ba sk = S) ∧ Hid ((⟨dr.toArray⟩ : ByteArray) = T) ∧ Hid (ba ds = D ∧ ds.length = m) ∧ S.size ≤ 1048576 ∧ T.size ≤ S.size ∧ (S.size : Int) - (T.size : Int) = (m : Int) ∧ D.size = m ∧ S.extract 0 m = D :=
    ⟨ba sk, ⟨dr.toArray⟩, ba ds, ds.length, rfl, rfl, ⟨rfl, rfl⟩, by rw [ba_len]; omega, by rw [← htd]; show dr.length ≤ (ds ++ dr).length; simp, by rw [← htd]; show (((ds ++ dr).length : Nat) : Int) - ((dr.length : Nat) : Int) = _; rw [List.length_append]; omega, rfl, by rw [← htd]; have := extract_mk_take (ds ++ dr) ds.length; rw [List.take_left] at this; exact this⟩
  have hmS : (m : Int) ≤ (S.size : Int) := by omega
  have hm0 : m ≤ 1048576 := by omega
  rw [HTE.out, HSE.out] at hT
  clear htd hsl
  go_enter Tryz.func100, Tryz.ntmps100
  go_wp2_with fail
  refine hS.mono ?_
  rintro e w1 ⟨rfl, H1, HF1⟩
  obtain ⟨c0, c1, cf⟩ := H1.out.cells
  rw [HSE.out] at c0
  go_wp2_with fail
  refine (hT _).mono ?_
  rintro e w2 ⟨rfl, hb2⟩
  have H2 := hide0 (H1.out.more hb2)
  have HF2 : Hid (Far w w2 [some R]) := HF1.out.trans (Far.of_below hb2 (Nat.le_refl _))
  clear c0 c1 cf hb2 hT
  obtain ⟨c0, c1, cf⟩ := H2.out.cells
  rw [HSE.out] at c0
  go_wp2_with fail
  go_quiet (fail)
  have HF3 : Hid (Far w (w2.drewN nq) [some R]) := HF2.out.trans ⟨rfl, rfl, rfl, Nat.le_refl _, fun _ _ _ => rfl⟩
  have H3 : Hid (Rd R (w2.drewN nq) sk b) := H2.out
  have H4 : Hid (Rd R ((w2.drewN nq).setCell ⟨R, 0, none⟩ (.string T)) dr b) := by
    have := H3.out.set (l' := dr)
    rw [← HTE.out]; exact this
  have HF4 : Hid (Far w ((w2.drewN nq).setCell ⟨R, 0, none⟩ (.string T)) [some R]) := HF3.out.setCell (p := ⟨R, 0, none⟩) (.inl (by simp)) _
  clear c0 c1 cf H1 HF1 H2 HF2 hext hsub hTs hmS
  generalize w2.drewN nq = w3 at H3 HF3 H4 HF4
  obtain ⟨c0, c1, cf⟩ := H3.out.cells
  rw [HSE.out] at c0
  have hDl : D.toList = ds := by rw [← HDE.out.1]; exact ba_toList ds
  cases ds with
  | nil =>
    have he : (D.toList == []) = true := by rw [hDl]; rfl
    have HQ : Hid (countL l = none) := by rw [Hid, HCL.out]; rfl
    clear hDl
    go_wp2_with fail
    refine (fail_any R _ _ _ H4).mono ?_
    rintro e w5 ⟨rfl, H5, HF5⟩
    go_wp2
    go_ret
    exact ⟨_, rfl, by rw [HQ.out]; exact H5, (by intro p hp; rw [HQ.out] at hp; cases hp), HF4.out.trans HF5.out⟩
  | cons d0 dt =>
    have hne : (D.toList == []) = false := by rw [hDl]; rfl
    have hpos : 0 < D.size := by rw [hDs, ← HDE.out.2]; simp
    have hb0 : D[0].toNat = d0.toNat := by
      have h1 : D.data.toList[0]? = some d0 := by
        have : D.data.toList = d0 :: dt := by rw [← HDE.out.1]; rfl
        rw [this]; rfl
      have h2 : D.data.toList[0]? = some D[0] := by
        rw [List.getElem?_eq_getElem (by simpa using hpos)]; rfl
      rw [h1] at h2
      rw [← Option.some.inj h2]
    by_cases hbad : d0 = 48 ∧ dt ≠ []
    · have hc1 : ((D[0].toNat : Int) == 48) = true := by rw [hb0, hbad.1]; rfl
      have hc2 : (D.toList == [48]) = false := by rw [hDl, beq_eq_false_iff_ne]; intro he; simp at he; exact hbad.2 he.2
      have HQ : Hid (countL l = none) := by
        rw [Hid, HCL.out, if_pos]
        obtain ⟨rfl, h2⟩ := hbad
        simp [badNum, h2]
      clear hDl hbad hb0
      go_wp2_with fail
      refine (fail_any R _ _ _ H4).mono ?_
      rintro e w5 ⟨rfl, H5, HF5⟩
      go_wp2
      go_ret
      exact ⟨_, rfl, by rw [HQ.out]; exact H5, (by intro p hp; rw [HQ.out] at hp; cases hp), HF4.out.trans HF5.out⟩
    · have HQ : Hid (countL l = some (numL (d0 :: dt), dr)) := by
        rw [Hid, HCL.out, if_neg]
        simp only [badNum, List.isEmpty_cons, Bool.false_or, List.head?_cons, Bool.and_eq_true, beq_iff_eq, bne_iff_ne, Option.some.injEq, not_and]
        intro h1 h2
        exact hbad ⟨h1, fun h3 => h2 (by rw [h1, h3])⟩
      have hcs : ((D[0].toNat : Int) == 48) = false ∨ (((D[0].toNat : Int) == 48) = true ∧ (D.toList == [48]) = true) := by
        by_cases h48 : d0 = 48
        · right
          have h3 : dt = [] := Classical.byContradiction fun h => hbad ⟨h48, h⟩
          exact ⟨by rw [hb0, h48]; rfl, by rw [hDl, h48, h3]; rfl⟩
        · left
          rw [hb0, beq_eq_false_iff_ne]
          intro h
          exact h48 (UInt8.toNat_inj.1 (by show d0.toNat = 48; omega))
      have HDL : Hid (D.data.toList = d0 :: dt) := by rw [Hid, ← HDE.out.1]; rfl
      clear hDl hbad hb0
      generalize d0 :: dt = ds at HD HDE HQ HDL
      rcases hcs with hc1 | ⟨hc1, hc2⟩
      all_goals
        go_wp2_with fail
        go_loop [5, 46] (fun nv iv => ∃ (k : Nat) (x : Int), k ≤ m ∧ iv = .int .i64 k ∧ nv = .int .i64 x ∧ 0 ≤ x ∧ x ≤ 1125899906842625 ∧ Hid (x = (numL (ds.take k) : Int))) (fun _ iv => m - (intOf iv).toNat)
        case atStart => exact ⟨0, 0, Nat.zero_le _, rfl, rfl, by decide, by decide, rfl⟩
        case round =>
          obtain ⟨k, x, hk, rfl, rfl, hx0, hx1, HX⟩ := hrel
          by_cases hlt : k < m
          · have hkD : k < D.size := by omega
            have hkd : k < ds.length := by rw [HDE.out.2]; exact hlt
            have hget : D[k] = ds[k] := by
              have h1 : D.data.toList[k]? = some D[k] := by rw [List.getElem?_eq_getElem (by simpa using hkD)]; rfl
              rw [HDL.out, List.getElem?_eq_getElem hkd] at h1
              exact (Option.some.inj h1).symm
            have hdg := (dig_iff _).1 (HD.out ds[k] (List.getElem_mem hkd))
            rw [← hget] at hdg
            obtain ⟨hd0, hd1⟩ := hdg
            have HN : Hid (((numL (ds.take (k + 1)) : Nat) : Int) = min (10 * x + ((D[k].toNat : Int) - 48)) 1125899906842625) := by
              show _ = _
              rw [List.take_succ_eq_append_getElem hkd, numL_snoc, capN, HX.out, hget]
              rw [hget] at hd0
              omega
            have HB : Hid (numL (ds.take (k + 1)) ≤ 1125899906842625) := numL_le _
            clear hget hkd
            go_wp2_with fail
            go_round
            case rel => exact ⟨k + 1, min (10 * x + ((D[k].toNat : Int) - 48)) 1125899906842625, by omega, by go_num, rfl, by omega, by omega, HN.out.symm⟩
            case measure => simp [intOf]; omega
          · have HE : Hid (x = (numL ds : Int)) := by rw [Hid, HX.out, List.take_of_length_le (by rw [HDE.out.2]; omega)]
            go_wp2
            go_ret
            exact ⟨_, rfl, by rw [HQ.out]; exact H4, (by first | (intro p hp; rw [HQ.out] at hp; rw [← Option.some.inj hp]; exact HE.out) | (intro a c hp; rw [HQ.out] at hp; cases hp; exact HE.out)), HF4⟩
end Go.Proofs.YtdjllnhahhjgmaaGreatDoor
namespace Go.Proofs.YtdjllnhahhjgmaaGreatDoor
open Go.RowKit Chron
def kindL (l : List UInt8) : Option (Int × List UInt8) := (quoteL l).bind fun p => (kindW p.1).map fun k => (k, p.2)
def kR (o : Option (Int × List UInt8)) : Option (List UInt8) := o.map (·.2)
def KV (o : Option (Int × List UInt8)) (n : Int) : Prop := ∀ p, o = some p → n = p.1
def wd (i : Nat) : ByteArray := ⟨(wordB ((i : Int) + 1)).toArray⟩
theorem wd_list (i : Nat) : (wd i).toList = wordB ((i : Int) + 1) := by rw [ByteArray.toList_eq]; simp [wd]
theorem kindW_some {q : List UInt8} {i : Nat} (hi : i < 4) (h : q = wordB ((i : Int) + 1)) : kindW q = some ((i : Int) + 1) := by
  have h4 : i = 0 ∨ i = 1 ∨ i = 2 ∨ i = 3 := by omega
  rcases h4 with rfl | rfl | rfl | rfl <;> subst h <;> decide
theorem kindW_none {q : List UInt8} (h : ∀ i : Nat, i < 4 → q ≠ wordB ((i : Int) + 1)) : kindW q = none := by
  have h0 := h 0 (by decide)
  have h1 := h 1 (by decide)
  have h2 := h 2 (by decide)
  have h3 := h 3 (by decide)
  unfold kindW
  exact (if_neg h0).trans ((if_neg h1).trans ((if_neg h2).trans (if_neg h3)))
theorem kind_none {l : List UInt8} (h : quoteL l = none) : kindL l = none := by unfold kindL; rw [h]; rfl
theorem kind_some {l q r : List UInt8} (h : quoteL l = some (q, r)) : kindL l = (kindW q).map fun k => (k, r) := by unfold kindL; rw [h]; rfl
theorem at_kinds (W : World) (x0 x1 x2 x3 : ByteArray) {i : Nat} (hi : i < 4) : (Instr.index 123 (.agg #[.string x0, .string x1, .string x2, .string x3]) (.int .i64 (i : Int))).run Tryz.prog W = .ok (.string (([x0, x1, x2, x3] : List ByteArray)[i]'(by simpa using hi))) W := by
  have h4 : i = 0 ∨ i = 1 ∨ i = 2 ∨ i = 3 := by omega
  rcases h4 with rfl | rfl | rfl | rfl <;>
  simp [Instr.index, run_underlying Tryz.underlying123, asIntOf, go_sem]
set_option maxRecDepth 100000 in
set_option maxHeartbeats 2000000 in
theorem rkind_any (B R : Nat) (l : List UInt8) (b : Bool) (w : World) (G : Hid (Glob B w)) (hBR : Hid (B ≤ R)) (h : Hid (Rd R w l b)) (hl : l.length ≤ 1048576) :
    Calls Tryz.prog 98 #[.pointer (some ⟨R, 0, none⟩)] w fun e w' => ∃ n : Int, e = .returned (.int .i64 n) ∧ Hid (St R w' b (kR (kindL l))) ∧ Hid (KV (kindL l) n) ∧ Hid (Far w w' [some R]) := by
  go_enter Tryz.func98, Tryz.ntmps98
  go_wp2_with fail
  refine (rtext_any B R l b w G hBR h hl).mono ?_
  rintro e w1 ⟨s, rfl, H1, HS, HF1⟩
  have G1 := hide0 (G.out.far hBR.out HF1.out)
  have k0 : w1.cell? ⟨1, 0, none⟩ = some (.string (wd 0)) := G1.out.kinds 0 (by decide)
  have k1 : w1.cell? ⟨1, 1, none⟩ = some (.string (wd 1)) := G1.out.kinds 1 (by decide)
  have k2 : w1.cell? ⟨1, 2, none⟩ = some (.string (wd 2)) := G1.out.kinds 2 (by decide)
  have k3 : w1.cell? ⟨1, 3, none⟩ = some (.string (wd 3)) := G1.out.kinds 3 (by decide)
  go_wp2_with fail
  go_loop [9] (fun iv => ∃ k : Nat, k ≤ 4 ∧ iv = .int .i64 k ∧ Hid (∀ i : Nat, i < k → s.toList ≠ wordB ((i : Int) + 1))) (fun iv => 4 - (intOf iv).toNat)
  case atStart => exact ⟨0, by decide, rfl, fun i hi => by omega⟩
  case round =>
    obtain ⟨k, hk, rfl, HN⟩ := hrel
    by_cases hlt : k < 4
    · have hyes : s = wd k → Hid (St R w1 b (kR (kindL l))) ∧ Hid (KV (kindL l) (1 + (k : Int))) := by
        intro hs
        have hsl : s.toList = wordB ((k : Int) + 1) := by rw [hs, wd_list]
        cases hq : quoteL l with
        | none =>
          have hk' := kind_none hq
          rw [hq] at H1
          exact ⟨by rw [hk']; exact H1, fun p hp => by rw [hk'] at hp; cases hp⟩
        | some p =>
          obtain ⟨q, r⟩ := p
          have hsq := HS.out _ hq
          have hkw : kindW q = some ((k : Int) + 1) := kindW_some hlt (by rw [← hsl, hsq, ba_toList])
          have hk' : kindL l = some ((k : Int) + 1, r) := by rw [kind_some hq, hkw]; rfl
          rw [hq] at H1
          exact ⟨by rw [hk']; exact H1, fun p hp => by rw [hk'] at hp; rw [← Option.some.inj hp]; exact Int.add_comm _ _⟩
      have HY := hide0 hyes
      clear hyes
      have xk : ∀ W, (Instr.index 123 (.agg #[.string (wd 0), .string (wd 1), .string (wd 2), .string (wd 3)]) (.int .i64 (k : Int))).run Tryz.prog W = .ok (.string (wd k)) W := fun W => by
        rw [at_kinds W (wd 0) (wd 1) (wd 2) (wd 3) hlt]
        have h4 : k = 0 ∨ k = 1 ∨ k = 2 ∨ k = 3 := by omega
        rcases h4 with rfl | rfl | rfl | rfl <;> rfl
      by_cases hs : s = wd k
      · obtain ⟨Y1, Y2⟩ := HY.out hs
        have hs2 : (s.toList == (wd k).toList) = true := by rw [hs]; exact beq_self_eq_true _
        have HS2 := hide0 hs
        clear HY hs
        go_wp2_with fail
        go_ret
        exact ⟨_, rfl, Y1, Y2, HF1⟩
      · have HN2 : Hid (∀ i : Nat, i < k + 1 → s.toList ≠ wordB ((i : Int) + 1)) := by
          intro i hi
          by_cases hik : i < k
          · exact HN.out i hik
          · have : i = k := by omega
            subst this
            intro he
            exact hs (by apply bytes_inj; rw [← ByteArray.toList_eq, he, ← wd_list, ByteArray.toList_eq])
        have hs2 : (s.toList == (wd k).toList) = false := by
          rw [beq_eq_false_iff_ne]
          intro he
          exact hs (by apply bytes_inj; rw [← ByteArray.toList_eq, he, ByteArray.toList_eq])
        clear HY hs
        go_wp2_with fail
        go_round
        case rel => exact ⟨k + 1, by omega, by go_num, HN2⟩
        case measure => simp [intOf]; omega
    · have hk4 : k = 4 := by omega
      subst hk4
      have HQ : Hid (kindL l = none) := by
        show _ = _
        cases hq : quoteL l with
        | none => exact kind_none hq
        | some p =>
          obtain ⟨q, r⟩ := p
          have hsq := HS.out _ hq
          rw [kind_some hq, kindW_none (fun i hi => by have := HN.out i hi; rwa [hsq, ba_toList] at this)]; rfl
      go_wp2_with fail
      refine (fail_any R _ _ _ H1).mono ?_
      rintro e w2 ⟨rfl, H2, HF2⟩
      go_wp2
      go_ret
      exact ⟨_, rfl, by rw [HQ.out]; exact H2, (by first | (intro p hp; rw [HQ.out] at hp; cases hp) | (intro a c hp; rw [HQ.out] at hp; cases hp)), HF1.out.trans HF2.out⟩
end Go.Proofs.YtdjllnhahhjgmaaGreatDoor
namespace Go.Proofs.YtdjllnhahhjgmaaGreatDoor
open Go.RowKit Chron
theorem sign_skip (c : UInt8) (l : List UInt8) : signL c (skipL l) = signL c l := by unfold signL; rw [skip_skip]
theorem quote_skip (l : List UInt8) : quoteL (skipL l) = quoteL l := by unfold quoteL; rw [sign_skip]
section
variable {α β : Type} (one : List UInt8 → Option (α × List UInt8)) (hone : ∀ l x r, one l = some (x, r) → r.length < l.length)
def oneR (o : Option (α × List UInt8)) : Option (List UInt8) := o.map (·.2)
def afterL (acc : List α) (lr : List UInt8) : Option (List α × List UInt8) :=
  match signL 44 lr with
  | some r2 => (itemsL one hone r2).map fun p => (acc ++ p.1, p.2)
  | none => (signL 93 lr).map fun r3 => (acc, r3)
def ListR (F : Option (List α × List UInt8)) (b : Bool) (f : β → α) (vs : List β) (lr : List UInt8) (br : Bool) : Prop :=
  (br = b ∧ F = afterL one hone (vs.map f) lr) ∨ (F = none ∧ lr = [] ∧ br = true)
theorem one_nil {one : List UInt8 → Option (α × List UInt8)} (hone : ∀ l x r, one l = some (x, r) → r.length < l.length) : one [] = none := by
  cases h : one [] with
  | none => rfl
  | some p => have := hone _ p.1 p.2 h; simp at this
theorem items_after (l : List UInt8) : itemsL one hone l = match one l with | none => none | some (x, r) => afterL one hone [x] r := by
  cases h : one l with
  | none => exact items_none h
  | some p =>
    obtain ⟨x, r⟩ := p
    simp only
    cases h44 : signL 44 r with
    | some r2 => rw [items_more h h44]; simp [afterL, h44]
    | none => rw [items_last h h44]; simp [afterL, h44]
theorem ListR.start {l : List UInt8} {b : Bool} {f : β → α} {v : β} (hs : ∀ l, one (skipL l) = one l) (h93 : signL 93 (stL (signL 91 l)) = none) (hv : ∀ p, one (skipL (stL (signL 91 l))) = some p → f v = p.1) :
    ListR one hone (listL one hone l) b f [v] (stL (oneR (one (skipL (stL (signL 91 l)))))) (stB (stB b (signL 91 l)) (oneR (one (skipL (stL (signL 91 l)))))) := by
  unfold listL
  cases h1 : signL 91 l with
  | none =>
    refine .inr ⟨rfl, ?_, ?_⟩
    · show stL (oneR (one (skipL []))) = []
      rw [hs, one_nil hone]; rfl
    · show stB true (oneR (one (skipL []))) = true
      rw [hs, one_nil hone]; rfl
  | some r =>
    rw [h1] at h93 hv
    simp only [stL] at h93 hv
    simp only [h93]
    show ListR one hone (itemsL one hone r) b f [v] (stL (oneR (one (skipL r)))) (stB b (oneR (one (skipL r))))
    rw [hs] at hv ⊢
    rw [items_after]
    cases ho : one r with
    | none => exact .inr ⟨rfl, rfl, rfl⟩
    | some p =>
      obtain ⟨x, r3⟩ := p
      refine .inl ⟨rfl, ?_⟩
      have := hv _ ho
      simp only at this
      simp [this, oneR, stL]
theorem ListR.step {F : Option (List α × List UInt8)} {b br : Bool} {f : β → α} {vs : List β} {lr r2 : List UInt8} {v : β} (h : ListR one hone F b f vs lr br) (h44 : signL 44 lr = some r2) (hv : ∀ p, one r2 = some p → f v = p.1) :
    ListR one hone F b f (vs ++ [v]) (stL (oneR (one r2))) (stB br (oneR (one r2))) := by
  rcases h with ⟨h1, h2⟩ | ⟨_, h2, _⟩
  · rw [afterL, h44] at h2
    simp only at h2
    rw [items_after] at h2
    cases ho : one r2 with
    | none =>
      rw [ho] at h2
      exact .inr ⟨h2, rfl, rfl⟩
    | some p =>
      obtain ⟨x, r3⟩ := p
      rw [ho] at h2
      simp only at h2
      have := hv _ ho
      simp only at this
      refine .inl ⟨h1, ?_⟩
      rw [h2]
      show Option.map _ (afterL one hone [x] r3) = afterL one hone ((vs ++ [v]).map f) r3
      unfold afterL
      cases signL 44 r3 with
      | none => cases signL 93 r3 <;> simp [this]
      | some r4 => simp [this]; rfl
  · rw [h2, sign_nil] at h44; cases h44
def lisR (F : Option (List α × List UInt8)) : Option (List UInt8) := F.map (·.2)
theorem ListR.done {F : Option (List α × List UInt8)} {b br : Bool} {f : β → α} {vs : List β} {lr : List UInt8} (h : ListR one hone F b f vs lr br) (h44 : signL 44 lr = none) :
    stL (signL 93 (skipL lr)) = stL (lisR F) ∧ stB br (signL 93 (skipL lr)) = stB b (lisR F) ∧ ∀ p, F = some p → vs.map f = p.1 := by
  rw [sign_skip]
  rcases h with ⟨h1, h2⟩ | ⟨h1, h2, h3⟩
  · rw [afterL, h44] at h2
    simp only at h2
    rw [h2, h1]
    cases signL 93 lr with
    | none => exact ⟨rfl, rfl, fun p hp => by cases hp⟩
    | some r3 => exact ⟨rfl, rfl, fun p hp => by rw [← Option.some.inj hp]⟩
  · rw [h1, h2, h3]
    exact ⟨rfl, rfl, fun p hp => by cases hp⟩
theorem ListR.short {F : Option (List α × List UInt8)} {b br : Bool} {f : β → α} {vs : List β} {lr : List UInt8} (_h : ListR one hone F b f vs lr br) (o : Option (α × List UInt8)) (l2 : List UInt8) (ho : one l2 = o) : (stL (oneR o)).length ≤ l2.length ∧ (0 < l2.length → (stL (oneR o)).length < l2.length) := by
  cases o with
  | none => exact ⟨Nat.zero_le _, fun h => h⟩
  | some p => have := hone _ p.1 p.2 ho; exact ⟨Nat.le_of_lt this, fun _ => this⟩
end
end Go.Proofs.YtdjllnhahhjgmaaGreatDoor
namespace Go.Proofs.YtdjllnhahhjgmaaGreatDoor
open Go.RowKit Chron
theorem own_far {w w' : World} {base R : Nat} {e : TypeId} {size : Nat} {v : Value} {n : Nat} {xs : List Value} (h : w.ownsRow base e size v n xs) (hf : Far w w' [some R]) (hR : R < base) : w'.ownsRow base e size v n xs :=
  own_of_block h fun q hq => hf.block q (h.lt q hq).2 (by simp; have := (h.lt q hq).1; omega)
theorem tags_list (l : List UInt8) : tagsL l = listL quoteL quote_one l := rfl
def bt (s : ByteArray) : List UInt8 := s.data.toList
theorem bt_ba (l : List UInt8) : bt (ba l) = l := by simp [bt, ba]
theorem take_skip {c : UInt8} {l : List UInt8} (h : signL c l = none) : takeL c l = skipL l := by unfold takeL; rw [h]
set_option maxRecDepth 100000 in
set_option maxHeartbeats 2000000 in
theorem rtags_any (B R : Nat) (l : List UInt8) (b : Bool) (w : World) (G : Hid (Glob B w)) (hBR : Hid (B ≤ R)) (h : Hid (Rd R w l b)) (hl : l.length ≤ 1048576) :
    Calls Tryz.prog 99 #[.pointer (some ⟨R, 0, none⟩), .func (.func 64) #[.pointer (some ⟨R, 0, none⟩)] #[]] w fun e w' => ∃ (lv : Value) (ts : List ByteArray), e = .returned lv ∧ Hid (St R w' b (lisR (tagsL l))) ∧ Hid (w'.ownsRow w.heap.size 9 1 lv ts.length (ts.map Value.string)) ∧ Hid (∀ p, tagsL l = some p → ts.map bt = p.1) ∧ Hid (Far w w' [some R]) := by
  obtain ⟨i0, hi, hz0, hz1, hz2⟩ := info_parts infoText
  have hRw := h.out.lt
  have hS : (stL (signL 91 l)).length ≤ 1048576 := by
    cases hq : signL 91 l with
    | none => simp [stL]
    | some r => have := (sign_suf hq).2; simp only [stL]; omega
  have hST := fun (h93 : signL 93 (stL (signL 91 l)) = none) (v : ByteArray) => ListR.start quoteL quote_one (l := l) (b := b) (f := bt) (v := v) quote_skip h93
  have HST := hide0 hST
  have HTL : Hid (∀ r r2, signL 91 l = some r → signL 93 r = some r2 → tagsL l = some ([], r2)) := by
    intro r r2 h1 h2
    rw [tags_list, listL, h1]; simp only [h2]
  have HNL : Hid (signL 91 l = none → signL 93 (stL (signL 91 l)) = none) := fun h1 => by rw [h1]; rfl
  have hN := need_any R l b 91 91 rfl w h hl
  clear hST
  go_enter Tryz.func99, Tryz.ntmps99
  go_wp2_with fail
  refine hN.mono ?_
  rintro e w1 ⟨rfl, H1, HF1⟩
  have hT := take_any R _ _ 93 93 rfl w1 H1 hS
  cases hq : signL 93 (stL (signL 91 l)) with
  | some r2 =>
    obtain ⟨r, hr⟩ : ∃ r, signL 91 l = some r := by
      cases h91 : signL 91 l with
      | none => have := HNL.out h91; rw [hq] at this; cases this
      | some r => exact ⟨r, rfl⟩
    have hq2 := hq
    rw [hr] at hq2
    have HQ := hide0 (HTL.out r r2 hr hq2)
    rw [hq, st_take hq] at hT
    have e1 : (some r2 : Option (List UInt8)).isSome = true := rfl
    rw [e1] at hT
    have HB : Hid (stB b (signL 91 l) = b) := by rw [Hid, hr]; rfl
    clear hq2 hr hq e1
    go_wp2_with fail
    refine hT.mono ?_
    rintro e w2 ⟨rfl, H2, HF2⟩
    rw [HB.out] at H2
    go_wp2
    go_ret
    exact ⟨_, [], rfl, by rw [HQ.out]; exact H2, World.ownsRow_nil _ _ _ _, (by rw [HQ.out]; intro p hp; rw [← Option.some.inj hp]; rfl), HF1.out.trans HF2.out⟩
  | none =>
    rw [hq, take_skip hq] at hT
    have e1 : (none : Option (List UInt8)).isSome = false := rfl
    rw [e1] at hT
    have HST2 := hide0 (HST.out hq)
    have hsk := (skip_suf (stL (signL 91 l))).length_le
    clear hq e1 HST HTL HNL
    generalize stL (signL 91 l) = l1 at hS hT HST2 hsk H1
    generalize stB b (signL 91 l) = b1 at hT HST2 H1
    go_wp2_with fail
    refine hT.mono ?_
    rintro e w2 ⟨rfl, H2, HF2⟩
    have HF2' : Hid (Far w w2 [some R]) := HF1.out.trans HF2.out
    have G2 := hide0 (G.out.far hBR.out HF2'.out)
    clear HF1 HF2
    go_wp2_with fail
    refine (rtext_any B R _ _ _ G2 hBR H2 (by omega)).mono ?_
    rintro e w3 ⟨s, rfl, H3, HS3, HF3⟩
    have hs2 := HF2'.out.size
    have hs3 := HF3.out.size
    have HL0 := hide0 (HST2.out s (fun p hp => by rw [HS3.out p hp]; exact bt_ba _))
    have hR0 := (ListR.short quoteL quote_one HL0.out _ (skipL l1) rfl).1
    have H4 : Hid (Rd R (w3.alloc (.cells #[.string s] 9)) (stL (oneR (quoteL (skipL l1)))) (stB b1 (oneR (quoteL (skipL l1))))) := Rd.more H3.out ((Below.refl _ _).alloc (Nat.le_refl _) _)
    have HF4 : Hid (Far w (w3.alloc (.cells #[.string s] 9)) [some R]) := (HF2'.out.trans HF3.out).alloc _
    have HO4 : Hid ((w3.alloc (.cells #[.string s] 9)).ownsRow w.heap.size 9 1 (.slice (some ⟨w3.heap.size, 0, none⟩) 1 1) 1 [.string s]) := World.ownsRow_lit w3 #[.string s] 1 (by omega) (by decide) rfl
    clear HST2 H1 H2 HF2' G2 H3 HS3 HF3 hT hN
    generalize stL (oneR (quoteL (skipL l1))) = lr0 at HL0 H4 hR0
    generalize stB b1 (oneR (quoteL (skipL l1))) = br0 at HL0 H4
    go_wp2_with fail
    go_loopw [5] (fun v wx => ∃ (vs : List ByteArray) (lr : List UInt8) (br : Bool), 0 < vs.length ∧ vs.length + lr.length ≤ 1048577 ∧ lr.length ≤ 1048576 ∧ Hid (ListR quoteL quote_one (listL quoteL quote_one l) b bt vs lr br) ∧ Hid (Rd R wx lr br) ∧ Hid (wx.ownsRow w.heap.size 9 1 v vs.length (vs.map Value.string)) ∧ Hid (Far w wx [some R])) (fun _ wx => restLen R wx)
    case atStart => exact ⟨[s], lr0, br0, by simp, by simp only [List.length_singleton]; omega, by omega, HL0, H4, HO4, HF4⟩
    case round =>
      obtain ⟨vs, lr, br, hvs, hsum, hlr, HL, HR, HO, HF⟩ := hrel
      have hT := take_any R lr br 44 44 rfl wr HR hlr
      cases hq : signL 44 lr with
      | none =>
        rw [hq, take_skip hq] at hT
        have e1 : (none : Option (List UInt8)).isSome = false := rfl
        rw [e1] at hT
        obtain ⟨d1, d2, d3⟩ := HL.out.done _ _ hq
        have HD1 := hide0 d1
        have HD2 := hide0 d2
        have HD3 := hide0 d3
        have hsk := (skip_suf lr).length_le
        clear d1 d2 d3 hq e1
        go_wp2_with fail
        refine hT.mono ?_
        rintro e w5 ⟨rfl, H5, HF5⟩
        go_wp2_with fail
        refine (need_any R _ _ 93 93 rfl _ H5 (by omega)).mono ?_
        rintro e w6 ⟨rfl, H6, HF6⟩
        rw [HD1.out, HD2.out] at H6
        have HO5 := hide0 (own_far HO.out HF5.out hRw)
        have HO6 := hide0 (own_far HO5.out HF6.out hRw)
        go_wp2
        go_ret
        exact ⟨_, vs, rfl, H6, HO6, HD3, (HF.out.trans HF5.out).trans HF6.out⟩
      | some r2 =>
        rw [hq, st_take hq] at hT
        have e1 : (some r2 : Option (List UInt8)).isSome = true := rfl
        rw [e1] at hT
        have hr2 := (sign_suf hq).2
        have hST := fun (v : ByteArray) => HL.out.step quoteL quote_one (v := v) hq
        have HST := hide0 hST
        have hsh := (ListR.short quoteL quote_one HL.out _ r2 rfl).1
        clear hq e1 hST
        go_wp2_with fail
        refine hT.mono ?_
        rintro e w5 ⟨rfl, H5, HF5⟩
        have HF5' := hide0 (HF.out.trans HF5.out)
        have G5 := hide0 (G.out.far hBR.out HF5'.out)
        have HO5 := hide0 (own_far HO.out HF5.out hRw)
        go_wp2_with fail
        refine (rtext_any B R _ _ _ G5 hBR H5 (by omega)).mono ?_
        rintro e w6 ⟨s6, rfl, H6, HS6, HF6⟩
        have HF6' := hide0 (HF5'.out.trans HF6.out)
        have HO6 := own_far HO5.out HF6.out hRw
        have hs6 := HF6'.out.size
        have HL6 := hide0 (HST.out s6 (fun p hp => by rw [HS6.out p hp]; exact bt_ba _))
        have H6' : Hid (Rd R w6 (stL (oneR (quoteL r2))) (stB br (oneR (quoteL r2)))) := H6
        clear HST H5 HF5 HF5' G5 HO5 H6 HS6 HF6 hT
        generalize stL (oneR (quoteL r2)) = lr6 at HL6 H6' hsh
        generalize stB br (oneR (quoteL r2)) = br6 at HL6 H6'
        go_wp2_with (first
          | (at_builtin; refine wpList_append_own _ rfl _ _ 22 rfl w.heap.size 9 i0 (.string ⟨#[]⟩) 1 16 Tryz.underlying22 hi hz0 hz1 hz2 rfl (by decide) _ _ _ rfl (HO6.alloc _) ⟨w6.heap.size, 0, none⟩ 1 1 [_] rfl rfl (cell_one_new _ _ _) (one_string _) ?c3 ?c4 ?c5 ?_))
        case c3 => unfold maxLen; omega
        case c4 => omega
        case c5 => first | omega | (simp; omega)
        intro v' w7 hown' hgrow _
        have HO7 := hide0 hown'
        have HF7 : Hid (Far w w7 [some R]) := (HF6'.out.alloc _).grown hgrow (fun q hq => .inr (HO6.lt _ hq).1)
        have H7 : Hid (Rd R w7 lr6 br6) := by
          have h1 : Rd R (w6.alloc (.cells #[.string s6] 9)) lr6 br6 := Rd.more H6'.out ((Below.refl _ _).alloc (Nat.le_refl _) _)
          refine (hgrow.block R h1.lt ?_).trans h1
          intro e
          have := (HO6.lt _ e.symm).1
          omega
        clear hown' hgrow HO6
        go_wp2
        go_roundw
        case rel => exact ⟨vs ++ [s6], lr6, br6, by simp, by simp only [List.length_append, List.length_singleton]; omega, by omega, HL6, H7, by rw [List.length_append, List.map_append]; exact HO7, HF7⟩
        case measure => rw [restLen_of HR.out, restLen_of H7.out]; omega
end Go.Proofs.YtdjllnhahhjgmaaGreatDoor
namespace Go.Proofs.YtdjllnhahhjgmaaGreatDoor
open Go.RowKit Chron
/- the event that is being read: a box, and its tags a row of their own -/
structure Eb (E base : Nat) (w : World) (e : Ev) (x : Value) : Prop where
  box : w.heap[E]? = some (.cells #[.int .i64 e.kind, .string e.task, .int .i64 e.time, .string e.body, x] 29)
  own : w.ownsRow base 9 1 x e.tags.length (e.tags.map Value.string)
theorem Far.wide {Q S : List (Option Nat)} {a b : World} (h : Far a b Q) (hs : ∀ r ∈ Q, r ∈ S) : Far a b S :=
  ⟨h.os, h.tape, h.output, h.size, fun k hk hR => h.block k hk (fun r hr => hR r (hs r hr))⟩
theorem Eb.far {E base R : Nat} {w w' : World} {e : Ev} {x : Value} (h : Eb E base w e x) (hf : Far w w' [some R]) (hR : R < base) (hE : R ≠ E) : Eb E base w' e x :=
  ⟨(hf.block E (Array.getElem?_eq_some_iff.1 h.box).1 (by simp; exact hE)).trans h.box, own_far h.own hf hR⟩
theorem Eb.set {E base : Nat} {w : World} {e e' : Ev} {x : Value} {i : Nat} {u : Value} (h : Eb E base w e x) (hE : E < base) (ht : e'.tags = e.tags)
    (hc : #[.int .i64 e.kind, .string e.task, .int .i64 e.time, .string e.body, x].setIfInBounds i u = #[.int .i64 e'.kind, .string e'.task, .int .i64 e'.time, .string e'.body, x]) : Eb E base (w.setCell ⟨E, i, none⟩ u) e' x := by
  refine ⟨by rw [loan_set h.box, hc], ?_⟩
  rw [ht]
  exact own_of_block h.own fun q hq => Below.heap_setCell _ _ _ _ (by rintro rfl; have := (h.own.lt _ hq).1; omega)
theorem Eb.tag {E base : Nat} {w : World} {e : Ev} {x y : Value} {ts : List ByteArray} (h : Eb E base w e x) (hE : E < base) (hy : w.ownsRow base 9 1 y ts.length (ts.map Value.string)) : Eb E base (w.setCell ⟨E, 4, none⟩ y) { e with tags := ts } y :=
  ⟨loan_set h.box, own_of_block hy fun q hq => Below.heap_setCell _ _ _ _ (by rintro rfl; have := (hy.lt _ hq).1; omega)⟩
def fR (o : Option (Ev × List UInt8)) : Option (List UInt8) := o.map (·.2)
def FV (o : Option (Ev × List UInt8)) (e : Ev) : Prop := ∀ p, o = some p → e = p.1
theorem ba_bt (s : ByteArray) : ba (bt s) = s := by apply bytes_inj; simp [ba, bt]
theorem map_ba_bt {ts : List ByteArray} {l : List (List UInt8)} (h : ts.map bt = l) : ts = l.map ba := by
  rw [← h, List.map_map]
  have : (ba ∘ bt) = id := by funext s; exact ba_bt s
  rw [this, List.map_id]
theorem kind_same (l : List UInt8) (tk : ByteArray) (m : Int) (bd : ByteArray) (ts : List ByteArray) : fR ((quoteL l).bind fun p => (kindW p.1).map fun j => ((⟨j, tk, m, bd, ts⟩ : Ev), p.2)) = kR (kindL l) := by
  unfold kindL
  cases quoteL l with
  | none => rfl
  | some p =>
    simp only [Option.bind_some]
    cases kindW p.1 <;> rfl
theorem kind_val {l : List UInt8} {tk : ByteArray} {m : Int} {bd : ByteArray} {ts : List ByteArray} {n : Int} (h : KV (kindL l) n) : FV ((quoteL l).bind fun p => (kindW p.1).map fun j => ((⟨j, tk, m, bd, ts⟩ : Ev), p.2)) ⟨n, tk, m, bd, ts⟩ := by
  unfold kindL at h
  intro p hp
  cases hq : quoteL l with
  | none => rw [hq] at hp; cases hp
  | some q =>
    rw [hq] at hp h
    simp only [Option.bind_some] at hp h
    cases hk : kindW q.1 with
    | none => rw [hk] at hp; cases hp
    | some j =>
      rw [hk] at hp h
      have := h _ rfl
      simp only at this
      rw [← Option.some.inj hp, this]
set_option maxRecDepth 100000 in
set_option maxHeartbeats 4000000 in
theorem rfield_any (B R E base : Nat) (nm : ByteArray) (l : List UInt8) (b : Bool) (k : Int) (tk : ByteArray) (m : Int) (bd : ByteArray) (ts : List ByteArray) (x : Value) (w : World) (G : Hid (Glob B w)) (hBR : Hid (B ≤ R)) (h : Hid (Rd R w l b)) (hl : l.length ≤ 1048576)
    (HE : Hid (Eb E base w ⟨k, tk, m, bd, ts⟩ x)) (hRb : Hid (R < base ∧ E < base ∧ R < E ∧ base ≤ w.heap.size)) :
    Calls Tryz.prog 65 #[.pointer (some ⟨R, 0, none⟩), .string nm, .pointer (some ⟨E, 0, none⟩)] w fun e w' => ∃ (e' : Ev) (x' : Value), e = .returned (.tuple #[]) ∧ Hid (St R w' b (fR (fieldL (bt nm) ⟨k, tk, m, bd, ts⟩ l))) ∧ Hid (FV (fieldL (bt nm) ⟨k, tk, m, bd, ts⟩ l) e') ∧ Hid (Eb E base w' e' x') ∧ Hid (Far w w' [some R, some E]) := by
  have hnl : nm.toList = bt nm := by rw [ByteArray.toList_eq]; rfl
  have hw1 : ∀ r, r ∈ [some R] → r ∈ [some R, some E] := by simp
  have HW1 := hide0 hw1
  clear hw1
  by_cases hnB : bt nm = nBody
  · have x1 : (nm.toList == [98, 111, 100, 121]) = true := by rw [hnl, hnB]; rfl
    have HX : Hid (fieldL (bt nm) ⟨k, tk, m, bd, ts⟩ l = (quoteL l).map fun p => (⟨k, tk, m, ba p.1, ts⟩, p.2)) := by rw [Hid, fieldL, if_pos hnB]
    clear hnl hnB
    go_enter Tryz.func65, Tryz.ntmps65
    go_wp2_with fail
    refine (rtext_any B R l b w G hBR h hl).mono ?_
    rintro e w1 ⟨s, rfl, H1, HS, HF1⟩
    have HE1 := hide0 (HE.out.far HF1.out hRb.out.1 (by have := hRb.out; omega))
    obtain ⟨d0, d1, d2, d3, d4, df⟩ := res_cells HE1.out.box
    have HE2 := hide0 (HE1.out.set (i := 3) (u := .string s) (e' := ⟨k, tk, m, s, ts⟩) hRb.out.2.1 rfl rfl)
    have H2 : Hid (St R (w1.setCell ⟨E, 3, none⟩ (.string s)) b (fR (fieldL (bt nm) ⟨k, tk, m, bd, ts⟩ l))) := by
      rw [HX.out]
      have e0 : fR ((quoteL l).map fun p => ((⟨k, tk, m, ba p.1, ts⟩ : Ev), p.2)) = qR (quoteL l) := by cases quoteL l <;> rfl
      rw [e0]
      exact (Below.heap_setCell _ _ _ _ (by show R ≠ E; have := hRb.out; omega)).trans H1.out
    have HV : Hid (FV (fieldL (bt nm) ⟨k, tk, m, bd, ts⟩ l) ⟨k, tk, m, s, ts⟩) := by
      rw [HX.out]
      intro p hp
      cases hq : quoteL l with
      | none => rw [hq] at hp; cases hp
      | some q =>
        rw [hq] at hp
        rw [← Option.some.inj hp, HS.out q hq]
    go_wp2
    go_end0
    exact ⟨_, _, rfl, H2, HV, HE2, (HF1.out.wide HW1.out).setCell (p := ⟨E, 3, none⟩) (.inl (by simp)) _⟩
  · have x1 : (nm.toList == [98, 111, 100, 121]) = false := by rw [hnl, beq_eq_false_iff_ne]; exact hnB
    by_cases hnK : bt nm = nKind
    · have x2 : (nm.toList == [107, 105, 110, 100]) = true := by rw [hnl, hnK]; rfl
      have HX : Hid (fieldL (bt nm) ⟨k, tk, m, bd, ts⟩ l = (quoteL l).bind fun p => (kindW p.1).map fun j => (⟨j, tk, m, bd, ts⟩, p.2)) := by rw [Hid, fieldL, if_neg hnB, if_pos hnK]
      clear hnl hnB hnK
      go_enter Tryz.func65, Tryz.ntmps65
      go_wp2_with fail
      refine (rkind_any B R l b w G hBR h hl).mono ?_
      rintro e w1 ⟨s, rfl, H1, HS, HF1⟩
      have HE1 := hide0 (HE.out.far HF1.out hRb.out.1 (by have := hRb.out; omega))
      obtain ⟨d0, d1, d2, d3, d4, df⟩ := res_cells HE1.out.box
      have HE2 := hide0 (HE1.out.set (i := 0) (u := .int .i64 s) (e' := ⟨s, tk, m, bd, ts⟩) hRb.out.2.1 rfl rfl)
      have H2 : Hid (St R (w1.setCell ⟨E, 0, none⟩ (.int .i64 s)) b (fR (fieldL (bt nm) ⟨k, tk, m, bd, ts⟩ l))) := by
        rw [HX.out]
        have e0 : fR ((quoteL l).bind fun p => (kindW p.1).map fun j => ((⟨j, tk, m, bd, ts⟩ : Ev), p.2)) = kR (kindL l) := kind_same l tk m bd ts
        rw [e0]
        exact (Below.heap_setCell _ _ _ _ (by show R ≠ E; have := hRb.out; omega)).trans H1.out
      have HV : Hid (FV (fieldL (bt nm) ⟨k, tk, m, bd, ts⟩ l) ⟨s, tk, m, bd, ts⟩) := by
        rw [HX.out]
        exact kind_val HS.out
      go_wp2
      go_end0
      exact ⟨_, _, rfl, H2, HV, HE2, (HF1.out.wide HW1.out).setCell (p := ⟨E, 0, none⟩) (.inl (by simp)) _⟩
    · have x2 : (nm.toList == [107, 105, 110, 100]) = false := by rw [hnl, beq_eq_false_iff_ne]; exact hnK
      by_cases hnG : bt nm = nTags
      · have x3 : (nm.toList == [116, 97, 103, 115]) = true := by rw [hnl, hnG]; rfl
        have HX : Hid (fieldL (bt nm) ⟨k, tk, m, bd, ts⟩ l = (tagsL l).map fun p => (⟨k, tk, m, bd, p.1.map ba⟩, p.2)) := by rw [Hid, fieldL, if_neg hnB, if_neg hnK, if_pos hnG]
        clear hnl hnB hnK hnG
        go_enter Tryz.func65, Tryz.ntmps65
        go_wp2_with fail
        refine (rtags_any B R l b w G hBR h hl).mono ?_
        rintro e w1 ⟨s, us, rfl, H1, HO, HS, HF1⟩
        obtain ⟨va, vc, rfl, _⟩ := own_tags HO.out
        have HE1 := hide0 (HE.out.far HF1.out hRb.out.1 (by have := hRb.out; omega))
        obtain ⟨d0, d1, d2, d3, d4, df⟩ := res_cells HE1.out.box
        have HE2 : Hid (Eb E base (w1.setCell ⟨E, 4, none⟩ (.slice va us.length vc)) ⟨k, tk, m, bd, us⟩ (.slice va us.length vc)) := HE1.out.tag hRb.out.2.1 (own_mono HO.out hRb.out.2.2.2)
        have H2 : Hid (St R (w1.setCell ⟨E, 4, none⟩ (.slice va us.length vc)) b (fR (fieldL (bt nm) ⟨k, tk, m, bd, ts⟩ l))) := by
          rw [HX.out]
          have e0 : fR ((tagsL l).map fun p => ((⟨k, tk, m, bd, p.1.map ba⟩ : Ev), p.2)) = lisR (tagsL l) := by cases tagsL l <;> rfl
          rw [e0]
          exact (Below.heap_setCell _ _ _ _ (by show R ≠ E; have := hRb.out; omega)).trans H1.out
        have HV : Hid (FV (fieldL (bt nm) ⟨k, tk, m, bd, ts⟩ l) ⟨k, tk, m, bd, us⟩) := by
          rw [HX.out]
          intro p hp
          cases hq : tagsL l with
          | none => rw [hq] at hp; cases hp
          | some q =>
            rw [hq] at hp
            rw [← Option.some.inj hp, map_ba_bt (HS.out q hq)]
        go_wp2
        go_end0
        exact ⟨_, _, rfl, H2, HV, HE2, (HF1.out.wide HW1.out).setCell (p := ⟨E, 4, none⟩) (.inl (by simp)) _⟩
      · have x3 : (nm.toList == [116, 97, 103, 115]) = false := by rw [hnl, beq_eq_false_iff_ne]; exact hnG
        by_cases hnT : bt nm = nTask
        · have x4 : (nm.toList == [116, 97, 115, 107]) = true := by rw [hnl, hnT]; rfl
          have HX : Hid (fieldL (bt nm) ⟨k, tk, m, bd, ts⟩ l = (quoteL l).map fun p => (⟨k, ba p.1, m, bd, ts⟩, p.2)) := by rw [Hid, fieldL, if_neg hnB, if_neg hnK, if_neg hnG, if_pos hnT]
          clear hnl hnB hnK hnG hnT
          go_enter Tryz.func65, Tryz.ntmps65
          go_wp2_with fail
          refine (rtext_any B R l b w G hBR h hl).mono ?_
          rintro e w1 ⟨s, rfl, H1, HS, HF1⟩
          have HE1 := hide0 (HE.out.far HF1.out hRb.out.1 (by have := hRb.out; omega))
          obtain ⟨d0, d1, d2, d3, d4, df⟩ := res_cells HE1.out.box
          have HE2 := hide0 (HE1.out.set (i := 1) (u := .string s) (e' := ⟨k, s, m, bd, ts⟩) hRb.out.2.1 rfl rfl)
          have H2 : Hid (St R (w1.setCell ⟨E, 1, none⟩ (.string s)) b (fR (fieldL (bt nm) ⟨k, tk, m, bd, ts⟩ l))) := by
            rw [HX.out]
            have e0 : fR ((quoteL l).map fun p => ((⟨k, ba p.1, m, bd, ts⟩ : Ev), p.2)) = qR (quoteL l) := by cases quoteL l <;> rfl
            rw [e0]
            exact (Below.heap_setCell _ _ _ _ (by show R ≠ E; have := hRb.out; omega)).trans H1.out
          have HV : Hid (FV (fieldL (bt nm) ⟨k, tk, m, bd, ts⟩ l) ⟨k, s, m, bd, ts⟩) := by
            rw [HX.out]
            intro p hp
            cases hq : quoteL l with
            | none => rw [hq] at hp; cases hp
            | some q =>
              rw [hq] at hp
              rw [← Option.some.inj hp, HS.out q hq]
          go_wp2
          go_end0
          exact ⟨_, _, rfl, H2, HV, HE2, (HF1.out.wide HW1.out).setCell (p := ⟨E, 1, none⟩) (.inl (by simp)) _⟩
        · have x4 : (nm.toList == [116, 97, 115, 107]) = false := by rw [hnl, beq_eq_false_iff_ne]; exact hnT
          by_cases hnM : bt nm = nTime
          · have x5 : (nm.toList == [116, 105, 109, 101]) = true := by rw [hnl, hnM]; rfl
            have HX : Hid (fieldL (bt nm) ⟨k, tk, m, bd, ts⟩ l = (countL l).map fun p => (⟨k, tk, (p.1 : Int), bd, ts⟩, p.2)) := by rw [Hid, fieldL, if_neg hnB, if_neg hnK, if_neg hnG, if_neg hnT, if_pos hnM]
            clear hnl hnB hnK hnG hnT hnM
            go_enter Tryz.func65, Tryz.ntmps65
            go_wp2_with fail
            refine (rnumber_any R l b w h hl).mono ?_
            rintro e w1 ⟨s, rfl, H1, HS, HF1⟩
            have HE1 := hide0 (HE.out.far HF1.out hRb.out.1 (by have := hRb.out; omega))
            obtain ⟨d0, d1, d2, d3, d4, df⟩ := res_cells HE1.out.box
            have HE2 := hide0 (HE1.out.set (i := 2) (u := .int .i64 s) (e' := ⟨k, tk, s, bd, ts⟩) hRb.out.2.1 rfl rfl)
            have H2 : Hid (St R (w1.setCell ⟨E, 2, none⟩ (.int .i64 s)) b (fR (fieldL (bt nm) ⟨k, tk, m, bd, ts⟩ l))) := by
              rw [HX.out]
              have e0 : fR ((countL l).map fun p => ((⟨k, tk, (p.1 : Int), bd, ts⟩ : Ev), p.2)) = cR (countL l) := by cases countL l <;> rfl
              rw [e0]
              exact (Below.heap_setCell _ _ _ _ (by show R ≠ E; have := hRb.out; omega)).trans H1.out
            have HV : Hid (FV (fieldL (bt nm) ⟨k, tk, m, bd, ts⟩ l) ⟨k, tk, s, bd, ts⟩) := by
              rw [HX.out]
              intro p hp
              cases hq : countL l with
              | none => rw [hq] at hp; cases hp
              | some q =>
                rw [hq] at hp
                rw [← Option.some.inj hp, HS.out q hq]
            go_wp2
            go_end0
            exact ⟨_, _, rfl, H2, HV, HE2, (HF1.out.wide HW1.out).setCell (p := ⟨E, 2, none⟩) (.inl (by simp)) _⟩
          · have x5 : (nm.toList == [116, 105, 109, 101]) = false := by rw [hnl, beq_eq_false_iff_ne]; exact hnM
            have HX : Hid (fieldL (bt nm) ⟨k, tk, m, bd, ts⟩ l = none) := by rw [Hid, fieldL, if_neg hnB, if_neg hnK, if_neg hnG, if_neg hnT, if_neg hnM]
            clear hnl hnB hnK hnG hnT hnM
            go_enter Tryz.func65, Tryz.ntmps65
            go_wp2_with fail
            refine (fail_any R l b w h).mono ?_
            rintro e w1 ⟨rfl, H1, HF1⟩
            have HE1 := hide0 (HE.out.far HF1.out hRb.out.1 (by have := hRb.out; omega))
            have H2 : Hid (St R w1 b (fR (fieldL (bt nm) ⟨k, tk, m, bd, ts⟩ l))) := by rw [HX.out]; exact H1.out
            have HV : Hid (FV (fieldL (bt nm) ⟨k, tk, m, bd, ts⟩ l) ⟨k, tk, m, bd, ts⟩) := by rw [HX.out]; intro p hp; cases hp
            go_wp2
            go_end0
            exact ⟨_, _, rfl, H2, HV, HE1, HF1.out.wide HW1.out⟩
end Go.Proofs.YtdjllnhahhjgmaaGreatDoor
