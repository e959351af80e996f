/- Walk of chroniclekeep.Applied. -/
import Derived.Test.YtdjllnhahhjgmaaG5
import Derived.Test.YtdjllnhahhjgmaaE12
namespace Go.Proofs.Ytdjllnhahhjgmaa
open Go.RowKit Chron
theorem make_any_len (o n : List UInt8) : (makeB o n).1.length ≤ 20 + n.length := by
  rw [makeB]; split
  · simp
  · have h1 := num_len (fr o n)
    have h2 := num_len (en o n)
    have h3 := mid_len o n
    simp; omega
/- the edited text -/
def edited (o c : List UInt8) (a b : Nat) : List UInt8 := o.take a ++ (60 :: c ++ [62]) ++ o.drop (o.length - b)
theorem edited_len {o c : List UInt8} {a b : Nat} (h : a + b ≤ o.length) : (edited o c a b).length = a + c.length + 2 + b := by
  simp [edited]; omega
structure AppliedB (o c : List UInt8) (a b : Nat) : Prop where
  m2 : (makeB o c).2 = 0
  m1 : (makeB o c).1.length ≤ c.length + 6
  t : applyB o (makeB o c).1 = (c, 0)
  u2 : (makeB o o).2 = 0
  u1 : (makeB o o).1.length ≤ 6
  v : (edited o c a b).length ≤ 65000 → (makeB o (edited o c a b)).2 = 0 ∧ (makeB o (edited o c a b)).1.length ≤ c.length + 8 ∧ applyB o (makeB o (edited o c a b)).1 = (edited o c a b, 0)
  vl : (makeB o (edited o c a b)).1.length ≤ 140000
theorem applied_plain {o c : List UInt8} {a b : Nat} (ho : o.length ≤ 60000) (hc : c.length ≤ 60000) (hab : a + b ≤ o.length) : AppliedB o c a b := by
  have h1 := make_len (o := o) (n := c) (by omega) (by omega)
  have h2 := mid_len o c
  refine ⟨make_ok (by omega) (by omega), by omega, apply_make (by omega) (by omega) (by omega), make_ok (by omega) (by omega), make_same (by omega), fun he => ?_, ?_⟩
  · have h3 : (makeB o (edited o c a b)).1.length ≤ 6 + (60 :: c ++ [62]).length := make_edited hab (by omega) (by show (edited o c a b).length ≤ _; omega)
    have h4 : (60 :: c ++ [62] : List UInt8).length = c.length + 2 := by simp
    exact ⟨make_ok (by omega) (by omega), by omega, apply_make (by omega) (by omega) (by omega)⟩
  · have := make_any_len o (edited o c a b)
    rw [edited_len hab] at this
    omega
theorem edited_bytes (o c : ByteArray) (a b q : Nat) (hq : q = o.size - b) : o.extract 0 a ++ ⟨#[60]⟩ ++ c ++ ⟨#[62]⟩ ++ o.extract q o.size = ⟨(edited o.data.toList c.data.toList a b).toArray⟩ := by
  subst hq
  rw [extract_front, extract_end]
  apply bytes_inj
  simp [edited]
set_option maxRecDepth 100000 in
set_option maxHeartbeats 2000000 in
theorem applied_any (o c : ByteArray) (x y : Int) (w : World) (ho : o.size ≤ maxLen) (hc : c.size ≤ maxLen) (hx : Hid (-9223372036854775808 ≤ x)) (hy : Hid (-9223372036854775808 ≤ y)) :
    Calls Try.prog 8 #[.string o, .string c, .int .i64 x, .int .i64 y] w fun e w' => e = .returned (.bool true) ∧ Below w.heap.size w w' := by
  unfold maxLen at ho hc
  by_cases h1 : 60000 < o.size
  · go_enter Try.func8, Try.ntmps8
    go_wp2
    go_ret
    exact ⟨rfl, Below.refl _ _⟩
  by_cases h2 : 60000 < c.size
  · go_enter Try.func8, Try.ntmps8
    go_wp2
    go_ret
    exact ⟨rfl, Below.refl _ _⟩
  have hlo : o.data.toList.length = o.size := rfl
  have hlc : c.data.toList.length = c.size := rfl
  have hm := applied_plain (o := o.data.toList) (c := c.data.toList) (a := 0) (b := 0) (by omega) (by omega) (by omega)
  have hM := fun w' => make_any o c w' (by unfold maxLen; omega) (by unfold maxLen; omega)
  have hU := fun w' => make_any o o w' (by unfold maxLen; omega) (by unfold maxLen; omega)
  have hT := fun w' => apply_any o ⟨(makeB o.data.toList c.data.toList).1.toArray⟩ w' (by unfold maxLen; omega) (by have := hm.m1; unfold maxLen; show (makeB o.data.toList c.data.toList).1.length ≤ _; omega)
  rw [show (⟨(makeB o.data.toList c.data.toList).1.toArray⟩ : ByteArray).data.toList = (makeB o.data.toList c.data.toList).1 from rfl, hm.t] at hT
  simp only [seVal, mk_data] at hM hU hT
  have hm1 := hm.m1
  have hu1 := hm.u1
  rw [hm.m2] at hM
  rw [hm.u2] at hU
  rw [hlc] at hm1
  generalize (makeB o.data.toList c.data.toList).1 = m at hM hT hm1
  generalize (makeB o.data.toList o.data.toList).1 = u at hU hu1
  have HLO := hide0 hlo
  have HLC := hide0 hlc
  clear hm hlo hlc
  go_enter Try.func8, Try.ntmps8
  go_wp2_with fail
  refine (hM _).mono ?_
  rintro e w1 ⟨rfl, hb1⟩
  go_wp2_with fail
  refine (hT _).mono ?_
  rintro e w2 ⟨rfl, hb2⟩
  go_wp2_with fail
  refine (hU _).mono ?_
  rintro e w3 ⟨rfl, hb3⟩
  have s1 := hb1.size
  have s2 := hb2.size
  have HB := hide0 ((hb1.trans (hb2.mono s1)).trans (hb3.mono (by omega)))
  clear hb1 hb2 hb3 s1 s2 hM hT hU
  go_wp2_with fail
  refine (pick_any x _ _ hx.out (by omega)).mono ?_
  rintro e w' ⟨⟨a0, rfl, ha0, ha1⟩, hw⟩
  subst hw
  obtain ⟨a, rfl⟩ := Int.eq_ofNat_of_zero_le ha0
  go_wp2_with fail
  refine (pick_any y _ _ hy.out (by omega)).mono ?_
  rintro e w' ⟨⟨b0, rfl, hb0, hb1⟩, hw⟩
  subst hw
  obtain ⟨b, rfl⟩ := Int.eq_ofNat_of_zero_le hb0
  have hab : a + b ≤ o.size := by omega
  have hP := applied_plain (o := o.data.toList) (c := c.data.toList) (a := a) (b := b) (by have := HLO.out; omega) (by have := HLC.out; omega) (by have := HLO.out; omega)
  have hel := edited_len (o := o.data.toList) (c := c.data.toList) (a := a) (b := b) (by have := HLO.out; omega)
  rw [HLC.out] at hel
  obtain ⟨q, hq, hq2, HQ⟩ : ∃ q : Nat, IntKind.i64.wrap ((o.size : Int) - (b : Int)) = q ∧ q ≤ o.size ∧ Hid (q = o.size - b) := ⟨o.size - b, by rw [wrapI_small (by omega) (by omega)]; omega, by omega, rfl⟩
  have hao : a ≤ o.size := by omega
  obtain ⟨ED, hED, hEL⟩ : ∃ ED : ByteArray, o.extract 0 a ++ ⟨#[60]⟩ ++ c ++ ⟨#[62]⟩ ++ o.extract q o.size = ED ∧ ED.data.toList = edited o.data.toList c.data.toList a b := ⟨_, rfl, by rw [edited_bytes o c a b q HQ.out]⟩
  have hES : ED.size = a + c.size + 2 + b := by rw [← hel, ← hEL]; rfl
  have hV := fun w' => make_any o ED w' (by unfold maxLen; omega) (by unfold maxLen; omega)
  have hvl := hP.vl
  have hW := fun w' => apply_any o ⟨(makeB o.data.toList ED.data.toList).1.toArray⟩ w' (by unfold maxLen; omega) (by rw [hEL]; unfold maxLen; show (makeB o.data.toList _).1.length ≤ _; omega)
  have hPv := hP.v
  rw [hel] at hPv
  rw [show (⟨(makeB o.data.toList ED.data.toList).1.toArray⟩ : ByteArray).data.toList = (makeB o.data.toList ED.data.toList).1 from rfl] at hW
  rw [← hEL] at hPv hvl
  generalize makeB o.data.toList ED.data.toList = V at hV hW hPv hvl
  obtain ⟨v1, v2⟩ := V
  simp only [seVal] at hV hW hPv hvl
  have hES2 : ED.size ≤ 140000 := by omega
  have hcut : (ED.size ≤ 65000 ∧ (v2 = 0 ∧ v1.length ≤ c.size + 8 ∧ applyB o.data.toList v1 = (ED.data.toList, 0))) ∨ 65000 < ED.size := by
    by_cases h : ED.size ≤ 65000
    · have := hPv (by omega); rw [HLC.out] at this; exact .inl ⟨h, this⟩
    · exact .inr (by omega)
  clear hPv hP hel hEL hES
  go_wp2_with fail
  go_quiet (fail)
  clear hED hq hq2 HQ hao
  have hm2 : (m.length : Int) ≤ (c.size : Int) + 6 := by omega
  have hu2 : (u.length : Int) ≤ 6 := by omega
  rcases hcut with ⟨hle, rfl, hv8, hap⟩ | hgt
  · rw [hap] at hW
    simp only [mk_data] at hW
    have hv9 : (v1.length : Int) ≤ (c.size : Int) + 8 := by omega
    clear hap
    go_wp2_with fail
    refine (hV _).mono ?_
    rintro e w5 ⟨rfl, hb5⟩
    go_wp2_with fail
    refine (hW _).mono ?_
    rintro e w6 ⟨rfl, hb6⟩
    have HB1 := hide0 (below_drewN HB.out nq)
    have HB5 := hide0 (HB1.out.trans (hb5.mono HB1.out.size))
    have HB6 := hide0 (HB5.out.trans (hb6.mono HB5.out.size))
    go_wp2
    go_ret
    exact ⟨rfl, HB6.out⟩
  · generalize applyB o.data.toList v1 = A at hW
    go_wp2_with fail
    refine (hV _).mono ?_
    rintro e w5 ⟨rfl, hb5⟩
    go_wp2_with fail
    refine (hW _).mono ?_
    rintro e w6 ⟨rfl, hb6⟩
    have HB1 := hide0 (below_drewN HB.out nq)
    have HB5 := hide0 (HB1.out.trans (hb5.mono HB1.out.size))
    have HB6 := hide0 (HB5.out.trans (hb6.mono HB5.out.size))
    go_wp2
    go_ret
    exact ⟨rfl, HB6.out⟩
end Go.Proofs.Ytdjllnhahhjgmaa
