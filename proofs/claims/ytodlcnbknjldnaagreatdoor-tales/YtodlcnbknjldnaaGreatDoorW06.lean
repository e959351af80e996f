/- Walks and plain facts, in the order in which they lean on one another. -/
import Derived.Test.YtodlcnbknjldnaaGreatDoorW05
import Derived.Test.YtodlcnbknjldnaaGreatDoorW03
import Derived.Test.YtodlcnbknjldnaaGreatDoorW01
namespace Go.Proofs.YtodlcnbknjldnaaGreatDoor
open Go.RowKit Chron
def refN (ds : List UInt8) : Nat := ds.foldl (fun n d => if n ≤ 1125899906842624 then 10 * n + (d.toNat - 48) else n) 0
theorem refN_snoc (ds : List UInt8) (d : UInt8) : refN (ds ++ [d]) = if refN ds ≤ 1125899906842624 then 10 * refN ds + (d.toNat - 48) else refN ds := by unfold refN; rw [List.foldl_append]; rfl
theorem refN_from (ds : List UInt8) : ∀ a b : Nat, min a 1125899906842625 = b → min (ds.foldl (fun n d => if n ≤ 1125899906842624 then 10 * n + (d.toNat - 48) else n) a) 1125899906842625 = ds.foldl (fun n d => capN n d.toNat) b := by
  induction ds with
  | nil => intro a b h; exact h
  | cons d ds ih =>
    intro a b h
    simp only [List.foldl_cons]
    apply ih
    unfold capN
    split <;> omega
theorem refN_num (ds : List UInt8) : min (refN ds) 1125899906842625 = numL ds := refN_from ds 0 0 rfl
theorem refN_top (ds : List UInt8) : ∀ a : Nat, a ≤ 11258999068426249 → (∀ d ∈ ds, isDig d = true) → ds.foldl (fun n d => if n ≤ 1125899906842624 then 10 * n + (d.toNat - 48) else n) a ≤ 11258999068426249 := by
  induction ds with
  | nil => intro a h _; exact h
  | cons d ds ih =>
    intro a h hd
    have h0 := hd d (by simp)
    simp only [isDig, Bool.and_eq_true, decide_eq_true_eq] at h0
    simp only [List.foldl_cons]
    apply ih _ _ (fun x hx => hd x (by simp [hx]))
    split <;> omega
theorem refN_le {ds : List UInt8} (h : ∀ d ∈ ds, isDig d = true) : refN ds ≤ 11258999068426249 := refN_top ds 0 (by decide) h
def cN (l : List UInt8) : Int := if badNum ((skipL l).takeWhile isDig) then 0 else (refN ((skipL l).takeWhile isDig) : Int)
def cP (l : List UInt8) : Option (List UInt8) := if badNum ((skipL l).takeWhile isDig) then none else some ((skipL l).dropWhile isDig)
theorem dig_iff (d : UInt8) : isDig d = true ↔ (48 ≤ (d.toNat : Int) ∧ (d.toNat : Int) ≤ 57) := by simp only [isDig, Bool.and_eq_true, decide_eq_true_eq]; omega
theorem take_dig {dd t : List UInt8} (h1 : ∀ d ∈ dd, isDig d = true) (h2 : t = [] ∨ ∃ x r, t = x :: r ∧ isDig x = false) : (dd ++ t).takeWhile isDig = dd ∧ (dd ++ t).dropWhile isDig = t := by
  induction dd with
  | nil =>
    rcases h2 with rfl | ⟨x, r, rfl, hx⟩
    · exact ⟨rfl, rfl⟩
    · simp [hx]
  | cons d dd ih =>
    have := ih (fun x hx => h1 x (by simp [hx]))
    have hd := h1 d (by simp)
    simp [hd, this]
set_option maxRecDepth 100000 in
set_option maxHeartbeats 2000000 in
theorem countRef_any (s : ByteArray) (l : List UInt8) (w : World) (h : Suf s l) (hs : s.size ≤ 1048576) :
    Calls Tryz.prog 70 #[.string s, .int .i64 (pos s (some l))] w fun e w' => e = .returned (.tuple #[.int .i64 (cN l), .int .i64 (pos s (cP l))]) ∧ w' = w := by
  have hB := behind_any s l w h hs
  have hsk : Suf s (skipL l) := h.trans (skip_suf l)
  obtain ⟨k0, hk0⟩ : ∃ k0 : Nat, pos s (some (skipL l)) = k0 := ⟨s.size - (skipL l).length, by have := hsk.le; simp only [pos]; omega⟩
  rw [hk0] at hB
  have HK0 : Hid (k0 = s.size - (skipL l).length) := by have := hsk.le; simp only [pos] at hk0; show _ = _; omega
  have hks : k0 ≤ s.size := by have := HK0.out; omega
  have HSK := hide0 hsk
  clear hk0 hsk
  go_enter Tryz.func70, Tryz.ntmps70
  go_wp2_with fail
  refine hB.mono ?_
  rintro e w1 ⟨rfl, hw1⟩
  have hw2 := hw1.symm
  subst hw2
  clear hw1 hB
  go_wp2_with fail
  go_loop [6, 7] (fun nv iv => ∃ (k n : Nat), iv = .int .i64 k ∧ nv = .int .i64 n ∧ k0 ≤ k ∧ k ≤ s.size ∧ n ≤ 11258999068426249 ∧ Hid (∃ dd t, Suf s t ∧ skipL l = dd ++ t ∧ k = s.size - t.length ∧ k = k0 + dd.length ∧ n = refN dd ∧ ∀ d ∈ dd, isDig d = true)) (fun _ iv => s.size - (intOf iv).toNat)
  case atStart => exact ⟨k0, 0, rfl, rfl, Nat.le_refl _, hks, by decide, [], skipL l, HSK.out, rfl, HK0.out, by simp, rfl, by simp⟩
  case round =>
    obtain ⟨k, n, rfl, rfl, hk0k, hk, hn, HD⟩ := hrel
    by_cases hmore : ∃ hlt : k < s.size, isDig s[k] = true
    · obtain ⟨hlt, hdg⟩ := hmore
      obtain ⟨hd1, hd2⟩ := (dig_iff _).1 hdg
      have hN : Hid (∃ dd t, Suf s t ∧ skipL l = dd ++ t ∧ k + 1 = s.size - t.length ∧ k + 1 = k0 + dd.length ∧ (if n ≤ 1125899906842624 then 10 * n + (s[k].toNat - 48) else n) = refN dd ∧ ∀ d ∈ dd, isDig d = true) := by
        obtain ⟨dd, t, h1, h2, h3, h4, h5, h6⟩ := HD.out
        have hle := h1.le
        match t, h1, h2, h3, hle with
        | [], h1, h2, h3, hle => simp at h3; omega
        | x :: t', h1, h2, h3, hle =>
          obtain ⟨_, hx⟩ := h1.byte h3
          refine ⟨dd ++ [s[k]], t', h1.tail, by rw [h2, hx]; simp, ?_, by simp; omega, by rw [refN_snoc, ← h5], ?_⟩
          · simp only [List.length_cons] at h3 hle; omega
          · intro d hd
            rcases List.mem_append.1 hd with hd | hd
            · exact h6 d hd
            · simp only [List.mem_singleton] at hd
              rw [hd]; exact hdg
      have hle2 : (if n ≤ 1125899906842624 then 10 * n + (s[k].toNat - 48) else n) ≤ 11258999068426249 := by
        obtain ⟨dd, t, _, _, _, _, h5, h6⟩ := hN.out
        rw [h5]; exact refN_le h6
      by_cases hsm : n ≤ 1125899906842624
      · rw [if_pos hsm] at hN hle2
        have hsmI : (n : Int) ≤ 1125899906842624 := by omega
        have hval : 10 * (n : Int) + (s[k].toNat : Int) - 48 = ((10 * n + (s[k].toNat - 48) : Nat) : Int) := by omega
        have HV := hide0 hval
        clear hdg hval
        go_wp2
        go_round
        case rel => exact ⟨k + 1, 10 * n + (s[k].toNat - 48), by go_num, by rw [← HV.out], by omega, by omega, hle2, hN⟩
        case measure => simp [intOf]; omega
      · rw [if_neg hsm] at hN hle2
        have hsmI : ¬ (n : Int) ≤ 1125899906842624 := by omega
        clear hdg
        go_wp2
        go_round
        case rel => exact ⟨k + 1, n, by go_num, rfl, by omega, by omega, hle2, hN⟩
        case measure => simp [intOf]; omega
    · have HTD : Hid (∃ dd t, Suf s t ∧ (skipL l).takeWhile isDig = dd ∧ (skipL l).dropWhile isDig = t ∧ skipL l = dd ++ t ∧ k = s.size - t.length ∧ k = k0 + dd.length ∧ n = refN dd) := by
        obtain ⟨dd, t, h1, h2, h3, h4, h5, h6⟩ := HD.out
        have hle := h1.le
        have := take_dig (dd := dd) (t := t) h6 (by
          match t, h1, h3, hle with
          | [], h1, h3, hle => exact .inl rfl
          | x :: t', h1, h3, hle =>
            obtain ⟨hlt, hx⟩ := h1.byte h3
            refine .inr ⟨x, t', rfl, ?_⟩
            cases hd : isDig x with
            | false => rfl
            | true => exact absurd ⟨hlt, by rw [hx]; exact hd⟩ hmore)
        exact ⟨dd, t, h1, by rw [h2]; exact this.1, by rw [h2]; exact this.2, h2, h3, h4, h5⟩
      have hstop : (k = s.size ∨ ∃ hlt : k < s.size, (s[k].toNat : Int) < 48 ∨ 57 < (s[k].toNat : Int)) := by
        by_cases hlt : k < s.size
        · refine .inr ⟨hlt, ?_⟩
          have : ¬ (48 ≤ (s[k].toNat : Int) ∧ (s[k].toNat : Int) ≤ 57) := fun h => hmore ⟨hlt, (dig_iff _).2 h⟩
          omega
        · exact .inl (by omega)
      have hcases : (k = k0 ∧ cN l = 0 ∧ cP l = none) ∨ (k = k0 + 1 ∧ cN l = n ∧ pos s (cP l) = k) ∨ (∃ hlt : k0 < s.size, k0 + 1 < k ∧ (s[k0].toNat : Int) = 48 ∧ cN l = 0 ∧ cP l = none) ∨ (∃ hlt : k0 < s.size, k0 + 1 < k ∧ ¬ (s[k0].toNat : Int) = 48 ∧ cN l = n ∧ pos s (cP l) = k) := by
        obtain ⟨dd, t, h1, h2, h3, h4, h5, h6, h7⟩ := HTD.out
        have hpt : pos s (some t) = (k : Int) := by have := pos_at (k := k) (n := 0) h1 (by omega); simpa using this
        match dd, h2, h4, h6, h7 with
        | [], h2, h4, h6, h7 => exact .inl ⟨by simpa using h6, by rw [cN, h2]; rfl, by rw [cP, h2]; rfl⟩
        | [d], h2, h4, h6, h7 =>
          have hb : badNum [d] = false := by
            simp only [badNum, List.isEmpty_cons, List.head?_cons, Bool.false_or]
            by_cases hd : d = 48
            · subst hd; rfl
            · simp [hd]
          refine .inr (.inl ⟨by simpa using h6, ?_, ?_⟩)
          · rw [cN, h2, hb, h7]; rfl
          · rw [cP, h2, hb, h3]; exact hpt
        | d :: d2 :: ds, h2, h4, h6, h7 =>
          have hsuf : Suf s (d :: (d2 :: ds ++ t)) := by have := HSK.out; rw [h4] at this; exact this
          obtain ⟨hlt, hd⟩ := hsuf.byte (k := k0) (by have := HK0.out; rw [h4] at this; exact this)
          have hkk : k0 + 1 < k := by simp only [List.length_cons] at h6; omega
          by_cases h48 : d = 48
          · subst h48
            have hb : badNum (48 :: d2 :: ds) = true := by simp [badNum]
            exact .inr (.inr (.inl ⟨hlt, hkk, by rw [hd]; rfl, by rw [cN, h2, hb]; rfl, by rw [cP, h2, hb]; rfl⟩))
          · have hb : badNum (d :: d2 :: ds) = false := by simp [badNum, h48]
            refine .inr (.inr (.inr ⟨hlt, hkk, ?_, ?_, ?_⟩))
            · rw [hd]; intro h; exact h48 (UInt8.toNat_inj.1 (by show d.toNat = 48; omega))
            · rw [cN, h2, hb, h7]; rfl
            · rw [cP, h2, hb, h3]; exact hpt
      clear hmore
      rcases hstop with hst | ⟨hlt, hst | hst⟩
      · have hst2 : ¬ k < s.size := by omega
        rcases hcases with ⟨q1, q2, q3⟩ | ⟨q1, q2, q3⟩ | ⟨qlt, q1, q4, q2, q3⟩ | ⟨qlt, q1, q4, q2, q3⟩
        · have HF := hide0 (And.intro q2 q3)
          clear q2 q3
          have hqb : ((k : Int) == (k0 : Int)) = true := by simp; omega
          clear hst HTD HD HSK HK0 q1
          go_wp2
          go_ret2
          exact ⟨ret_two (by rw [HF.out.1]) (by rw [HF.out.2]; rfl), rfl⟩
        · have HF := hide0 (And.intro q2 q3)
          clear q2 q3
          have hqb : ((k : Int) == (k0 : Int)) = false := by simp; omega
          have hqc : ¬ (k0 : Int) + 1 < (k : Int) := by omega
          clear hst HTD HD HSK HK0 q1
          go_wp2
          go_ret2
          exact ⟨ret_two (by rw [HF.out.1]) (by rw [HF.out.2]), rfl⟩
        · have HF := hide0 (And.intro q2 q3)
          clear q2 q3
          have hqb : ((k : Int) == (k0 : Int)) = false := by simp; omega
          have hqc : (k0 : Int) + 1 < (k : Int) := by omega
          clear hst HTD HD HSK HK0 q1
          go_wp2
          go_ret2
          exact ⟨ret_two (by rw [HF.out.1]) (by rw [HF.out.2]; rfl), rfl⟩
        · have HF := hide0 (And.intro q2 q3)
          clear q2 q3
          have hqb : ((k : Int) == (k0 : Int)) = false := by simp; omega
          have hqc : (k0 : Int) + 1 < (k : Int) := by omega
          have hqd : ((s[k0].toNat : Int) == 48) = false := by simp [q4]
          clear hst HTD HD HSK HK0 q1
          go_wp2
          go_ret2
          exact ⟨ret_two (by rw [HF.out.1]) (by rw [HF.out.2]), rfl⟩
      · rcases hcases with ⟨q1, q2, q3⟩ | ⟨q1, q2, q3⟩ | ⟨qlt, q1, q4, q2, q3⟩ | ⟨qlt, q1, q4, q2, q3⟩
        · have HF := hide0 (And.intro q2 q3)
          clear q2 q3
          have hqb : ((k : Int) == (k0 : Int)) = true := by simp; omega
          clear HTD HD HSK HK0 q1
          go_wp2
          go_ret2
          exact ⟨ret_two (by rw [HF.out.1]) (by rw [HF.out.2]; rfl), rfl⟩
        · have HF := hide0 (And.intro q2 q3)
          clear q2 q3
          have hqb : ((k : Int) == (k0 : Int)) = false := by simp; omega
          have hqc : ¬ (k0 : Int) + 1 < (k : Int) := by omega
          clear HTD HD HSK HK0 q1
          go_wp2
          go_ret2
          exact ⟨ret_two (by rw [HF.out.1]) (by rw [HF.out.2]), rfl⟩
        · have HF := hide0 (And.intro q2 q3)
          clear q2 q3
          have hqb : ((k : Int) == (k0 : Int)) = false := by simp; omega
          have hqc : (k0 : Int) + 1 < (k : Int) := by omega
          clear HTD HD HSK HK0 q1
          go_wp2
          go_ret2
          exact ⟨ret_two (by rw [HF.out.1]) (by rw [HF.out.2]; rfl), rfl⟩
        · have HF := hide0 (And.intro q2 q3)
          clear q2 q3
          have hqb : ((k : Int) == (k0 : Int)) = false := by simp; omega
          have hqc : (k0 : Int) + 1 < (k : Int) := by omega
          have hqd : ((s[k0].toNat : Int) == 48) = false := by simp [q4]
          clear HTD HD HSK HK0 q1
          go_wp2
          go_ret2
          exact ⟨ret_two (by rw [HF.out.1]) (by rw [HF.out.2]), rfl⟩
      · have hst2 : 48 ≤ (s[k].toNat : Int) := by omega
        rcases hcases with ⟨q1, q2, q3⟩ | ⟨q1, q2, q3⟩ | ⟨qlt, q1, q4, q2, q3⟩ | ⟨qlt, q1, q4, q2, q3⟩
        · have HF := hide0 (And.intro q2 q3)
          clear q2 q3
          have hqb : ((k : Int) == (k0 : Int)) = true := by simp; omega
          clear HTD HD HSK HK0 q1
          go_wp2
          go_ret2
          exact ⟨ret_two (by rw [HF.out.1]) (by rw [HF.out.2]; rfl), rfl⟩
        · have HF := hide0 (And.intro q2 q3)
          clear q2 q3
          have hqb : ((k : Int) == (k0 : Int)) = false := by simp; omega
          have hqc : ¬ (k0 : Int) + 1 < (k : Int) := by omega
          clear HTD HD HSK HK0 q1
          go_wp2
          go_ret2
          exact ⟨ret_two (by rw [HF.out.1]) (by rw [HF.out.2]), rfl⟩
        · have HF := hide0 (And.intro q2 q3)
          clear q2 q3
          have hqb : ((k : Int) == (k0 : Int)) = false := by simp; omega
          have hqc : (k0 : Int) + 1 < (k : Int) := by omega
          clear HTD HD HSK HK0 q1
          go_wp2
          go_ret2
          exact ⟨ret_two (by rw [HF.out.1]) (by rw [HF.out.2]; rfl), rfl⟩
        · have HF := hide0 (And.intro q2 q3)
          clear q2 q3
          have hqb : ((k : Int) == (k0 : Int)) = false := by simp; omega
          have hqc : (k0 : Int) + 1 < (k : Int) := by omega
          have hqd : ((s[k0].toNat : Int) == 48) = false := by simp [q4]
          clear HTD HD HSK HK0 q1
          go_wp2
          go_ret2
          exact ⟨ret_two (by rw [HF.out.1]) (by rw [HF.out.2]), rfl⟩
end Go.Proofs.YtodlcnbknjldnaaGreatDoor
namespace Go.Proofs.YtodlcnbknjldnaaGreatDoor
open Go.RowKit Chron
def strV (l : List (List UInt8)) : List Value := l.map fun s => .string (ba s)
def tT : Option (List (List UInt8) × List UInt8) → List (List UInt8)
  | some (l, _) => l
  | none => []
def tP : Option (List (List UInt8) × List UInt8) → Option (List UInt8)
  | some (_, r) => some r
  | none => none
theorem qP_some {o : Option (List UInt8 × List UInt8)} {r : List UInt8} (h : qP o = some r) : ∃ b, o = some (b, r) := by
  match o, h with
  | some (b, r'), h => simp only [qP, Option.some.injEq] at h; subst h; exact ⟨b, rfl⟩
theorem pos_neg {s : ByteArray} {o : Option (List UInt8)} (h : ∀ r, o = some r → Suf s r) : (pos s o < 0 ∧ o = none) ∨ (0 ≤ pos s o ∧ ∃ r, o = some r) := by
  cases o with
  | none => exact .inl ⟨by simp [pos], rfl⟩
  | some r => exact .inr ⟨by have := (h r rfl).le; simp only [pos]; omega, r, rfl⟩
set_option maxRecDepth 100000 in
set_option maxHeartbeats 2000000 in
theorem tagsRef_any (s : ByteArray) (o : Option (List UInt8)) (w : World) (h : ∀ r, o = some r → Suf s r) (hs : s.size ≤ 1048576) :
    Calls Tryz.prog 69 #[.string s, .int .i64 (pos s o)] w fun e w' => ∃ v, e = .returned (.tuple #[v, .int .i64 (pos s (tP (o.bind tagsL)))]) ∧ w'.ownsRow w.heap.size 9 1 v (tT (o.bind tagsL)).length (strV (tT (o.bind tagsL))) ∧ Below w.heap.size w w' := by
  obtain ⟨i0, hi, hz0, hz1, hz2⟩ := info_parts infoText
  have hS1 := sign_pos s o 91 91 rfl w h hs
  cases hq : o.bind (signL 91) with
  | none =>
    have HF : Hid (o.bind tagsL = none) := by
      cases o with
      | none => rfl
      | some r => simp only [Option.bind_some] at hq ⊢; rw [Hid, tagsL, listL, hq]
    rw [hq] at hS1
    have hS2 := sign_no s 93 w
    have hm : pos s none = -1 := rfl
    rw [hm] at hS1
    go_enter Tryz.func69, Tryz.ntmps69
    go_wp2_with fail
    refine hS1.mono ?_
    rintro e w1 ⟨rfl, hw1⟩
    have hw2 := hw1.symm
    subst hw2
    clear hw1 hS1
    go_wp2_with fail
    refine hS2.mono ?_
    rintro e w2 ⟨rfl, hw3⟩
    have hw4 := hw3.symm
    subst hw4
    clear hw3 hS2
    go_wp2
    go_ret2
    exact ⟨_, by rw [HF.out]; rfl, by rw [HF.out]; exact World.ownsRow_nil _ _ _ _, Below.refl _ _⟩
  | some r =>
    have hr : Suf s r := by
      cases o with
      | none => cases hq
      | some r0 => exact (h r0 rfl).trans (sign_suf hq).1
    rw [hq] at hS1
    have hS2 := sign_any s r 93 93 rfl w hr hs
    have hpr : 0 ≤ pos s (some r) := by have := hr.le; simp only [pos]; omega
    cases hq2 : signL 93 r with
    | some r2 =>
      have HF : Hid (o.bind tagsL = some ([], r2)) := by
        cases o with
        | none => cases hq
        | some r0 => simp only [Option.bind_some] at hq ⊢; rw [Hid, tagsL, listL, hq]; simp only [hq2]
      have hp2 : 0 ≤ pos s (some r2) := by have := (hr.trans (sign_suf hq2).1).le; simp only [pos]; omega
      rw [hq2] at hS2
      generalize pos s (some r) = p1 at hS1 hS2 hpr
      obtain ⟨p2, hp2e, HP2⟩ : ∃ p2, pos s (some r2) = p2 ∧ Hid (pos s (some r2) = p2) := ⟨_, rfl, rfl⟩
      rw [hp2e] at hS2 hp2
      clear hp2e
      go_enter Tryz.func69, Tryz.ntmps69
      go_wp2_with fail
      refine hS1.mono ?_
      rintro e w1 ⟨rfl, hw1⟩
      have hw2 := hw1.symm
      subst hw2
      clear hw1 hS1
      go_wp2_with fail
      refine hS2.mono ?_
      rintro e w2 ⟨rfl, hw3⟩
      have hw4 := hw3.symm
      subst hw4
      clear hw3 hS2
      go_wp2
      go_ret2
      exact ⟨_, by rw [HF.out]; show _ = Ending.returned (.tuple #[_, .int .i64 (pos s (some r2))]); rw [HP2.out]; rfl, by rw [HF.out]; exact World.ownsRow_nil _ _ _ _, Below.refl _ _⟩
    | none =>
      have HF : Hid (o.bind tagsL = itemsL quoteL quote_one r) := by
        cases o with
        | none => cases hq
        | some r0 => simp only [Option.bind_some] at hq ⊢; rw [Hid, tagsL, listL, hq]; simp only [hq2]
      rw [hq2] at hS2
      have hm : pos s none = -1 := rfl
      rw [hm] at hS2
      obtain ⟨p1, hp1e, HP1⟩ : ∃ p1, pos s (some r) = p1 ∧ Hid (pos s (some r) = p1) := ⟨_, rfl, rfl⟩
      rw [hp1e] at hS1 hS2 hpr
      clear hp1e
      go_enter Tryz.func69, Tryz.ntmps69
      go_wp2_with fail
      refine hS1.mono ?_
      rintro e w1 ⟨rfl, hw1⟩
      have hw2 := hw1.symm
      subst hw2
      clear hw1 hS1
      go_wp2_with fail
      refine hS2.mono ?_
      rintro e w2 ⟨rfl, hw3⟩
      have hw4 := hw3.symm
      subst hw4
      clear hw3 hS2
      go_wp2_with fail
      go_loopw [1, 7] (fun i v wx => ∃ (t : List UInt8) (acc : List (List UInt8)) (p : Int), i = .int .i64 p ∧ Hid (p = pos s (some t)) ∧ acc.length ≤ 1048576 ∧ Hid (Suf s t ∧ acc.length + t.length ≤ s.size ∧ itemsL quoteL quote_one r = (itemsL quoteL quote_one t).map fun q => (acc ++ q.1, q.2)) ∧ wx.ownsRow w.heap.size 9 1 v acc.length (strV acc) ∧ Below w.heap.size w wx) (fun i _ _ => left s.size (intOf i))
      case atStart => exact ⟨r, [], p1, rfl, HP1.out.symm, by decide, ⟨hr, by have := hr.le; simpa using this, by simp⟩, World.ownsRow_nil _ _ _ _, Below.refl _ _⟩
      case round =>
        obtain ⟨t, acc, p, rfl, HP, hacc, HI, hown, hbl⟩ := hrel
        have hsz := hbl.size
        have HB := hide0 hbl
        have hst := HI.out.1
        have hQ := quoteRef_any s (some t) wr (fun x hx => by rw [← Option.some.inj hx]; exact hst) hs
        rw [Option.bind_some, ← HP.out] at hQ
        clear hbl
        cases hqt : quoteL t with
        | none =>
          have HR : Hid (o.bind tagsL = none) := by rw [HF.out, HI.out.2.2, items_none hqt]; exact rfl
          rw [hqt] at hQ
          have hm1 : pos s (qP none) = -1 := rfl
          rw [hm1] at hQ
          clear hown
          go_wp2_with fail
          refine hQ.mono ?_
          rintro e w3 ⟨rfl, hb3⟩
          go_wp2
          go_ret2
          exact ⟨_, by rw [HR.out]; rfl, by rw [HR.out]; exact World.ownsRow_nil _ _ _ _, HB.out.trans (hb3.mono hsz)⟩
        | some q =>
          obtain ⟨b, t1⟩ := q
          have hsq := quote_suf hqt
          have hst1 : Suf s t1 := hst.trans hsq.1
          have hlt1 := hsq.2.1
          rw [hqt] at hQ
          obtain ⟨p3, hp3, HP3⟩ : ∃ p3, pos s (some t1) = p3 ∧ Hid (pos s (some t1) = p3) := ⟨_, rfl, rfl⟩
          have hp3n : 0 ≤ p3 := by rw [← hp3]; have := hst1.le; simp only [pos]; omega
          have hm1 : pos s (qP (some (b, t1))) = p3 := hp3
          have hm2 : qS (some (b, t1)) = ba b := rfl
          rw [hm1, hm2] at hQ
          have hSE := fun X => sign_any s t1 93 93 rfl X hst1 hs
          have hSC := fun X => sign_any s t1 44 44 rfl X hst1 hs
          rw [hp3] at hSE hSC
          have hacc1 : acc.length + 1 ≤ 1048576 := by have := HI.out.2.1; omega
          clear hp3 hm1 hm2
          have HIT : Hid (∀ z, itemsL quoteL quote_one t = z → o.bind tagsL = z.map fun q => (acc ++ q.1, q.2)) := fun z hz => by rw [HF.out, HI.out.2.2, hz]
          cases hqe : signL 93 t1 with
          | some r3 =>
            have h44 := sign_other (d := 44) hqe (by decide)
            have HR : Hid (o.bind tagsL = some (acc ++ [b], r3)) := HIT.out (some ([b], r3)) (by rw [items_last hqt h44, hqe]; rfl)
            have hp4n : 0 ≤ pos s (some r3) := by have := (hst1.trans (sign_suf hqe).1).le; simp only [pos]; omega
            rw [hqe] at hSE
            obtain ⟨p4, hp4, HP4⟩ : ∃ p4, pos s (some r3) = p4 ∧ Hid (pos s (some r3) = p4) := ⟨_, rfl, rfl⟩
            rw [hp4] at hSE hp4n
            clear hp4 hSC h44
            go_wp2_with fail
            refine hQ.mono ?_
            rintro e w3 ⟨rfl, hb3⟩
            have hs3 := hb3.size
            have hown3 := own_below hown hb3
            clear hQ
            go_wp2_with (first
              | (at_builtin; refine wpList_append_own _ rfl _ _ 22 rfl w.heap.size 9 i0 (.string ⟨#[]⟩) 1 16 Tryz.underlying22 hi hz0 hz1 hz2 rfl (by decide) _ _ _ rfl (hown3.alloc _) ⟨w3.heap.size, 0, none⟩ 1 1 [_] rfl rfl (cell_one_new _ _ _) (one_string _) ?c3 ?c4 ?c5 ?_)
              | (go_at_call 32; refine (hSE _).mono ?_; rintro e w5 ⟨rfl, hw5⟩; have hw6 := hw5.symm; subst hw6; clear hw5))
            case c3 => unfold maxLen; omega
            case c4 => omega
            case c5 => first | omega | (simp; omega)
            intro v' w4 hown' hgrow _
            have HB4 := hide0 (Below.grown ((HB.out.trans (hb3.mono hsz)).alloc (by omega) _) hgrow (by simp; omega) (fun j hj => by have := (hown3.lt _ hj).1; omega))
            go_wp2_with fail
            refine (hSE _).mono ?_
            rintro e w5 ⟨rfl, hw5⟩
            have hw6 := hw5.symm
            subst hw6
            clear hw5 hSE
            go_wp2
            go_ret2
            exact ⟨_, by rw [HR.out]; show _ = Ending.returned (.tuple #[_, .int .i64 (pos s (some r3))]); rw [HP4.out]; rfl, by rw [HR.out]; simpa [tT, strV] using hown', HB4.out⟩
          | none =>
            rw [hqe] at hSE
            have hm3 : pos s none = -1 := rfl
            rw [hm3] at hSE
            cases hqc : signL 44 t1 with
            | none =>
              have HR : Hid (o.bind tagsL = none) := HIT.out none (by rw [items_last hqt hqc, hqe]; rfl)
              rw [hqc, hm3] at hSC
              go_wp2_with fail
              refine hQ.mono ?_
              rintro e w3 ⟨rfl, hb3⟩
              have hs3 := hb3.size
              have hown3 := own_below hown hb3
              clear hQ
              go_wp2_with (first
                | (at_builtin; refine wpList_append_own _ rfl _ _ 22 rfl w.heap.size 9 i0 (.string ⟨#[]⟩) 1 16 Tryz.underlying22 hi hz0 hz1 hz2 rfl (by decide) _ _ _ rfl (hown3.alloc _) ⟨w3.heap.size, 0, none⟩ 1 1 [_] rfl rfl (cell_one_new _ _ _) (one_string _) ?c3 ?c4 ?c5 ?_))
              case c3 => unfold maxLen; omega
              case c4 => omega
              case c5 => first | omega | (simp; omega)
              intro v' w4 hown' hgrow _
              have HB4 := hide0 (Below.grown ((HB.out.trans (hb3.mono hsz)).alloc (by omega) _) hgrow (by simp; omega) (fun j hj => by have := (hown3.lt _ hj).1; omega))
              go_wp2_with fail
              refine (hSE _).mono ?_
              rintro e w5 ⟨rfl, hw5⟩
              have hw6 := hw5.symm
              subst hw6
              clear hw5
              go_wp2_with fail
              refine (hSC _).mono ?_
              rintro e w7 ⟨rfl, hw7⟩
              have hw8 := hw7.symm
              subst hw8
              clear hw7 hSE hSC
              go_wp2
              go_ret2
              exact ⟨_, by rw [HR.out]; rfl, by rw [HR.out]; exact World.ownsRow_nil _ _ _ _, HB4.out⟩
            | some t2 =>
              have hst2 := hst1.trans (sign_suf hqc).1
              have hlt2 := (sign_suf hqc).2
              have HN : Hid (Suf s t2 ∧ (acc ++ [b]).length + t2.length ≤ s.size ∧ itemsL quoteL quote_one r = (itemsL quoteL quote_one t2).map fun q => ((acc ++ [b]) ++ q.1, q.2)) := by
                refine ⟨hst2, by have := HI.out.2.1; simp; omega, ?_⟩
                rw [HI.out.2.2, items_more hqt hqc, Option.map_map]
                congr 1
                funext q
                simp
              rw [hqc] at hSC
              obtain ⟨p5, hp5, HP5⟩ : ∃ p5, pos s (some t2) = p5 ∧ Hid (pos s (some t2) = p5) := ⟨_, rfl, rfl⟩
              have hp5n : 0 ≤ p5 := by rw [← hp5]; have := hst2.le; simp only [pos]; omega
              have HM : Hid (left s.size p5 < left s.size p) := by
                have h1 := HP5.out
                have h2 := HP.out
                have h3 := hst2.le
                have h4 := hst.le
                simp only [pos] at h1 h2
                show left s.size p5 < left s.size p
                simp only [left]
                rw [if_neg (by omega), if_neg (by omega)]
                omega
              rw [hp5] at hSC
              clear hp5
              go_wp2_with fail
              refine hQ.mono ?_
              rintro e w3 ⟨rfl, hb3⟩
              have hs3 := hb3.size
              have hown3 := own_below hown hb3
              clear hQ
              go_wp2_with (first
                | (at_builtin; refine wpList_append_own _ rfl _ _ 22 rfl w.heap.size 9 i0 (.string ⟨#[]⟩) 1 16 Tryz.underlying22 hi hz0 hz1 hz2 rfl (by decide) _ _ _ rfl (hown3.alloc _) ⟨w3.heap.size, 0, none⟩ 1 1 [_] rfl rfl (cell_one_new _ _ _) (one_string _) ?c3 ?c4 ?c5 ?_))
              case c3 => unfold maxLen; omega
              case c4 => omega
              case c5 => first | omega | (simp; omega)
              intro v' w4 hown' hgrow _
              have HB4 := hide0 (Below.grown ((HB.out.trans (hb3.mono hsz)).alloc (by omega) _) hgrow (by simp; omega) (fun j hj => by have := (hown3.lt _ hj).1; omega))
              go_wp2_with fail
              refine (hSE _).mono ?_
              rintro e w5 ⟨rfl, hw5⟩
              have hw6 := hw5.symm
              subst hw6
              clear hw5
              go_wp2_with fail
              refine (hSC _).mono ?_
              rintro e w7 ⟨rfl, hw7⟩
              have hw8 := hw7.symm
              subst hw8
              clear hw7 hSE hSC
              go_wp2
              go_roundw
              case rel => exact ⟨t2, acc ++ [b], p5, rfl, HP5.out.symm, by simp; omega, HN, by simpa [strV] using hown', HB4.out⟩
              case measure => exact HM.out
end Go.Proofs.YtodlcnbknjldnaaGreatDoor
namespace Go.Proofs.YtodlcnbknjldnaaGreatDoor
open Go.RowKit Chron
theorem cut_one (s : ByteArray) (k : Nat) (h : k < s.size) : (s.data.toList.drop k).take 1 = [s[k]] := by
  have hl : k < s.data.toList.length := by simpa using h
  rw [List.drop_eq_getElem_cons hl]; rfl
def wordCells : Array Value := #[.string ⟨#[98, 101, 103, 117, 110]⟩, .string ⟨#[100, 111, 110, 101]⟩, .string ⟨#[102, 97, 105, 108, 101, 100]⟩, .string ⟨#[110, 111, 116, 101, 100]⟩]
set_option maxRecDepth 100000 in
theorem words_any (w : World) : Calls Tryz.prog 68 #[] w fun e w' => e = .returned (.slice (some ⟨w.heap.size, 0, none⟩) 4 4) ∧ w' = w.alloc (.cells #[.string ⟨#[98, 101, 103, 117, 110]⟩, .string ⟨#[100, 111, 110, 101]⟩, .string ⟨#[102, 97, 105, 108, 101, 100]⟩, .string ⟨#[110, 111, 116, 101, 100]⟩] 9) := by
  go_enter Tryz.func68, Tryz.ntmps68
  go_wp2
  go_ret
  exact ⟨rfl, rfl⟩
end Go.Proofs.YtodlcnbknjldnaaGreatDoor
namespace Go.Proofs.YtodlcnbknjldnaaGreatDoor
open Go.RowKit Chron
def capE (e : Ev) : Ev := { e with time := min e.time 1125899906842625 }
def memL (e : Ev) (l : List UInt8) : Option (List UInt8 × Ev × List UInt8) :=
  match quoteL l with
  | none => none
  | some (nm, r1) => match signL 58 r1 with
    | none => none
    | some r2 => (fieldL nm e r2).map fun p => (nm, p.1, p.2)
def idx (nm : List UInt8) : Int := if nm = nBody then 1 else if nm = nKind then 2 else if nm = nTags then 3 else if nm = nTask then 4 else 5
/- what a reading of one name, and of what it has, leaves -/
def MemR (s : ByteArray) (e : Ev) (t : List UInt8) (E : Ev) (which p : Int) : Prop :=
  match memL e t with
  | some (nm, e', r) => capE E = e' ∧ which = idx nm ∧ p = pos s (some r) ∧ Suf s r
  | none => p = -1
structure Mb (N base : Nat) (w wx : World) (e : Ev) (x : Value) : Prop where
  box : wx.heap[N]? = some (.cells #[.int .i64 e.kind, .string e.task, .int .i64 e.time, .string e.body, x] 29)
  res : wx.heap[N + 1]? = some (.cells #[.int .i64 0, .string ⟨#[]⟩, .int .i64 0, .string ⟨#[]⟩, .slice none 0 0] 29)
  own : wx.ownsRow base 9 1 x e.tags.length (e.tags.map Value.string)
  ap : x.ownBlock ≠ some N ∧ x.ownBlock ≠ some (N + 1)
  bel : Below N w wx
theorem Mb.big {N base : Nat} {w wx : World} {e : Ev} {x : Value} (h : Mb N base w wx e x) : N + 2 ≤ wx.heap.size := (Array.getElem?_eq_some_iff.1 h.res).1
theorem Mb.more {N base : Nat} {w wx wy : World} {e : Ev} {x : Value} (h : Mb N base w wx e x) (hb : Below wx.heap.size wx wy) : Mb N base w wy e x := by
  have := h.big
  exact ⟨(hb.block N (by omega)).trans h.box, (hb.block (N + 1) (by omega)).trans h.res, own_below h.own hb, h.ap, h.bel.trans (hb.mono (by omega))⟩
theorem Mb.set {N base : Nat} {w wx : World} {e e' : Ev} {x : Value} {i : Nat} {u : Value} (h : Mb N base w wx e x) (ht : e'.tags = e.tags)
    (hc : #[.int .i64 e.kind, .string e.task, .int .i64 e.time, .string e.body, x].setIfInBounds i u = #[.int .i64 e'.kind, .string e'.task, .int .i64 e'.time, .string e'.body, x]) : Mb N base w (wx.setCell ⟨N, i, none⟩ u) e' x := by
  refine ⟨by rw [loan_set h.box, hc], (Below.heap_setCell _ _ _ _ (by show N + 1 ≠ N; omega)).trans h.res, ?_, h.ap, h.bel.setCell (Nat.le_refl _) _⟩
  rw [ht]
  exact own_of_block h.own fun q hq => Below.heap_setCell _ _ _ _ (by rintro rfl; exact h.ap.1 hq)
theorem Mb.tag {N base : Nat} {w wx : World} {e : Ev} {x y : Value} {ts : List ByteArray} (h : Mb N base w wx e x) (hbN : base ≤ N) {B : Nat} (hB : N + 2 ≤ B) (hy : wx.ownsRow B 9 1 y ts.length (ts.map Value.string)) : Mb N base w (wx.setCell ⟨N, 4, none⟩ y) { e with tags := ts } y := by
  have hap : y.ownBlock ≠ some N ∧ y.ownBlock ≠ some (N + 1) := ⟨fun e => by have := (hy.lt _ e).1; omega, fun e => by have := (hy.lt _ e).1; omega⟩
  refine ⟨loan_set h.box, (Below.heap_setCell _ _ _ _ (by show N + 1 ≠ N; omega)).trans h.res, ?_, hap, h.bel.setCell (Nat.le_refl _) _⟩
  exact own_mono (own_of_block hy fun q hq => Below.heap_setCell _ _ _ _ (by rintro rfl; exact hap.1 hq)) (by omega)
theorem Mb.out {N base : Nat} {w wx : World} {e : Ev} {x x0 x1 x2 x3 x4 : Value} (h : Mb N base w wx e x) :
    (((((wx.setCell ⟨N + 1, 0, none⟩ x0).setCell ⟨N + 1, 1, none⟩ x1).setCell ⟨N + 1, 2, none⟩ x2).setCell ⟨N + 1, 3, none⟩ x3).setCell ⟨N + 1, 4, none⟩ x4).ownsRow base 9 1 x e.tags.length (e.tags.map Value.string) ∧
    Below N w (((((wx.setCell ⟨N + 1, 0, none⟩ x0).setCell ⟨N + 1, 1, none⟩ x1).setCell ⟨N + 1, 2, none⟩ x2).setCell ⟨N + 1, 3, none⟩ x3).setCell ⟨N + 1, 4, none⟩ x4) := by
  refine ⟨own_of_block h.own fun q hq => ?_, below_set5 h.bel (by omega)⟩
  have hq1 : q ≠ N + 1 := by rintro rfl; exact h.ap.2 hq
  rw [Below.heap_setCell _ _ _ _ hq1, Below.heap_setCell _ _ _ _ hq1, Below.heap_setCell _ _ _ _ hq1, Below.heap_setCell _ _ _ _ hq1, Below.heap_setCell _ _ _ _ hq1]
theorem ba_list (l : List UInt8) : (ba l).toList = l := by rw [ByteArray.toList_eq]; simp [ba]
theorem wordsAt (X : World) {i : Nat} {k : Int} (hk : (i : Int) + 1 = k) (hi : i < 4) : (X.alloc (.cells #[.string ⟨#[98, 101, 103, 117, 110]⟩, .string ⟨#[100, 111, 110, 101]⟩, .string ⟨#[102, 97, 105, 108, 101, 100]⟩, .string ⟨#[110, 111, 116, 101, 100]⟩] 9)).cell? ⟨X.heap.size, i, none⟩ = some (.string (ba (wordB k))) := by
  subst hk
  have hh := heap_alloc_new X (.cells #[.string ⟨#[98, 101, 103, 117, 110]⟩, .string ⟨#[100, 111, 110, 101]⟩, .string ⟨#[102, 97, 105, 108, 101, 100]⟩, .string ⟨#[110, 111, 116, 101, 100]⟩] 9)
  have h4 : i = 0 ∨ i = 1 ∨ i = 2 ∨ i = 3 := by omega
  rcases h4 with rfl | rfl | rfl | rfl <;> (simp only [World.cell?, hh]; rfl)
def kpre (q : List UInt8) (n : Nat) : Int := if 0 < n ∧ q = wordB 1 then 1 else if 1 < n ∧ q = wordB 2 then 2 else if 2 < n ∧ q = wordB 3 then 3 else if 3 < n ∧ q = wordB 4 then 4 else 0
theorem kpre_kind (q : List UInt8) : (∀ k, kindW q = some k → kpre q 4 = k ∧ ¬ kpre q 4 = 0) ∧ (kindW q = none → kpre q 4 = 0) := by
  unfold kindW kpre
  by_cases h1 : q = wordB 1
  · simp [h1]
  · by_cases h2 : q = wordB 2
    · simp [h2, show ¬ wordB 2 = wordB 1 by decide]
    · by_cases h3 : q = wordB 3
      · simp [h3, show ¬ wordB 3 = wordB 1 by decide, show ¬ wordB 3 = wordB 2 by decide]
      · by_cases h4 : q = wordB 4
        · simp [h4, show ¬ wordB 4 = wordB 1 by decide, show ¬ wordB 4 = wordB 2 by decide, show ¬ wordB 4 = wordB 3 by decide]
        · simp [h1, h2, h3, h4]
theorem kpre_step (q : List UInt8) {n : Nat} (hn : n < 4) : kpre q (n + 1) = if q = wordB ((n : Int) + 1) then (n : Int) + 1 else kpre q n := by
  have h4 : n = 0 ∨ n = 1 ∨ n = 2 ∨ n = 3 := by omega
  unfold kpre
  rcases h4 with rfl | rfl | rfl | rfl
  · by_cases h : q = wordB 1
    · simp [h]
    · simp [h]
  · by_cases h : q = wordB 2
    · simp [h, show ¬ wordB 2 = wordB 1 by decide]
    · simp [h]
  · by_cases h : q = wordB 3
    · simp [h, show ¬ wordB 3 = wordB 1 by decide, show ¬ wordB 3 = wordB 2 by decide]
    · simp [h]
  · by_cases h : q = wordB 4
    · simp [h, show ¬ wordB 4 = wordB 1 by decide, show ¬ wordB 4 = wordB 2 by decide, show ¬ wordB 4 = wordB 3 by decide]
    · simp [h]
set_option maxRecDepth 100000 in
set_option maxHeartbeats 4000000 in
theorem member_any (s : ByteArray) (t : List UInt8) (k : Int) (tk : ByteArray) (m : Int) (b : ByteArray) (ts : List ByteArray) (v : Value) (w : World) (base : Nat) (h : Suf s t) (hs : s.size ≤ 1048576) (hb : base ≤ w.heap.size)
    (hv : Hid (w.ownsRow base 9 1 v ts.length (ts.map Value.string))) :
    Calls Tryz.prog 49 #[.string s, .int .i64 (pos s (some t)), .agg #[.int .i64 k, .string tk, .int .i64 m, .string b, v]] w fun e w' =>
      ∃ E v' which p, e = .returned (.tuple #[evVal E v', .int .i64 which, .int .i64 p]) ∧ MemR s (capE ⟨k, tk, m, b, ts⟩) t E which p ∧ w'.ownsRow base 9 1 v' E.tags.length (E.tags.map Value.string) ∧ Below w.heap.size w w' ∧ ∀ q, v'.ownBlock = some q → v.ownBlock = some q ∨ w.heap.size ≤ q := by
  obtain ⟨va, vc, hve, _⟩ := own_tags hv.out
  subst hve
  have hQ := fun X => quoteRef_any s (some t) X (fun x hx => by rw [← Option.some.inj hx]; exact h) hs
  simp only [Option.bind_some] at hQ
  have HM0 : Hid (Mb w.heap.size base w ((w.alloc (.cells #[.int .i64 k, .string tk, .int .i64 m, .string b, .slice va ts.length vc] 29)).alloc (.cells #[.int .i64 0, .string ⟨#[]⟩, .int .i64 0, .string ⟨#[]⟩, .slice none 0 0] 29)) ⟨k, tk, m, b, ts⟩ (.slice va ts.length vc)) := by
    refine ⟨?_, ?_, (hv.out.alloc _).alloc _, ?_, ((Below.refl _ _).alloc (Nat.le_refl _) _).alloc (by simp) _⟩
    · rw [Below.heap_alloc _ _ _ (by simp), heap_alloc_new]
    · have := heap_alloc_new (w.alloc (.cells #[.int .i64 k, .string tk, .int .i64 m, .string b, .slice va ts.length vc] 29)) (.cells #[.int .i64 0, .string ⟨#[]⟩, .int .i64 0, .string ⟨#[]⟩, .slice none 0 0] 29)
      rw [World.size_alloc] at this; exact this
    · exact ⟨fun e => by have := (hv.out.lt _ e).2; omega, fun e => by have := (hv.out.lt _ e).2; omega⟩
  have n1 : ¬ w.heap.size = w.heap.size + 1 := by omega
  have n2 : ¬ w.heap.size + 1 = w.heap.size := by omega
  cases hq : quoteL t with
  | none =>
    have HR : Hid (memL (capE ⟨k, tk, m, b, ts⟩) t = none) := by rw [Hid, memL, hq]
    rw [hq] at hQ
    have hm1 : pos s (qP none) = -1 := rfl
    rw [hm1] at hQ
    have hS := fun X => sign_no s 58 X
    go_enter Tryz.func49, Tryz.ntmps49
    go_wp2_with fail
    refine (hQ _).mono ?_
    rintro e w1 ⟨rfl, hb1⟩
    have HM1 := hide0 (HM0.out.more hb1)
    obtain ⟨d0, d1, d2, d3, d4, df⟩ := res_cells HM1.out.box
    obtain ⟨r0, r1, r2, r3, r4, rf⟩ := res_cells HM1.out.res
    clear hb1
    go_wp2_with fail
    refine (hS _).mono ?_
    rintro e w2 ⟨rfl, hw2⟩
    have hw3 := hw2.symm
    subst hw3
    clear hw2
    go_wp2
    refine bodyPost_ret (v := .tuple #[.agg #[.int .i64 k, .string tk, .int .i64 m, .string b, .slice va ts.length vc], .int .i64 0, .int .i64 (-1)]) (by simp [results, Tryz.results49, go_sem, r0, r1, r2, r3, r4]) rfl ?_
    exact ⟨⟨k, tk, m, b, ts⟩, .slice va ts.length vc, 0, -1, rfl, by rw [MemR, HR.out], HM1.out.out.1, HM1.out.out.2, fun q hq => .inl hq⟩
  | some q =>
    obtain ⟨nm, t1⟩ := q
    have hsq := quote_suf hq
    have ht1 : Suf s t1 := h.trans hsq.1
    rw [hq] at hQ
    obtain ⟨p1, hp1, HP1⟩ : ∃ p1, pos s (some t1) = p1 ∧ Hid (pos s (some t1) = p1) := ⟨_, rfl, rfl⟩
    have hm1 : pos s (qP (some (nm, t1))) = p1 := hp1
    have hm2 : qS (some (nm, t1)) = ba nm := rfl
    rw [hm1, hm2] at hQ
    have hS := fun X => sign_any s t1 58 58 rfl X ht1 hs
    rw [hp1] at hS
    clear hp1 hm1 hm2
    cases hc : signL 58 t1 with
    | none =>
      have HR : Hid (memL (capE ⟨k, tk, m, b, ts⟩) t = none) := by rw [Hid, memL, hq]; simp only [hc]
      rw [hc] at hS
      have hm3 : pos s none = -1 := rfl
      rw [hm3] at hS
      go_enter Tryz.func49, Tryz.ntmps49
      go_wp2_with fail
      refine (hQ _).mono ?_
      rintro e w1 ⟨rfl, hb1⟩
      have HM1 := hide0 (HM0.out.more hb1)
      obtain ⟨d0, d1, d2, d3, d4, df⟩ := res_cells HM1.out.box
      obtain ⟨r0', r1', r2', r3', r4', rf⟩ := res_cells HM1.out.res
      clear hb1
      go_wp2_with fail
      refine (hS _).mono ?_
      rintro e w2 ⟨rfl, hw2⟩
      have hw3 := hw2.symm
      subst hw3
      clear hw2
      go_wp2
      refine bodyPost_ret (v := .tuple #[.agg #[.int .i64 k, .string tk, .int .i64 m, .string b, .slice va ts.length vc], .int .i64 0, .int .i64 (-1)]) (by simp [results, Tryz.results49, go_sem, r0', r1', r2', r3', r4']) rfl ?_
      exact ⟨⟨k, tk, m, b, ts⟩, .slice va ts.length vc, 0, -1, rfl, by rw [MemR, HR.out], HM1.out.out.1, HM1.out.out.2, fun q hq => .inl hq⟩
    | some t2 =>
      have ht2 : Suf s t2 := ht1.trans (sign_suf hc).1
      have HML : Hid (memL (capE ⟨k, tk, m, b, ts⟩) t = (fieldL nm (capE ⟨k, tk, m, b, ts⟩) t2).map fun p => (nm, p.1, p.2)) := by rw [Hid, memL, hq]; simp only [hc]
      rw [hc] at hS
      obtain ⟨p2, hp2, HP2⟩ : ∃ p2, pos s (some t2) = p2 ∧ Hid (pos s (some t2) = p2) := ⟨_, rfl, rfl⟩
      have hp2n : 0 ≤ p2 := by rw [← hp2]; have := ht2.le; simp only [pos]; omega
      have hQ2 := fun X => quoteRef_any s (some t2) X (fun x hx => by rw [← Option.some.inj hx]; exact ht2) hs
      have hC2 := fun X => countRef_any s t2 X ht2 hs
      have hT2 := fun X => tagsRef_any s (some t2) X (fun x hx => by rw [← Option.some.inj hx]; exact ht2) hs
      simp only [Option.bind_some] at hQ2 hT2
      rw [hp2] at hS hQ2 hC2 hT2
      clear hp2
      have hnl := ba_list nm
      by_cases hnB : nm = nBody
      · have x1 : ((ba nm).toList == [98, 111, 100, 121]) = true := by rw [hnl, hnB]; rfl
        have HX : Hid (MemR s (capE ⟨k, tk, m, b, ts⟩) t ⟨k, tk, m, qS (quoteL t2), ts⟩ 1 (pos s (qP (quoteL t2)))) := by
          show MemR _ _ _ _ _ _
          rw [MemR, HML.out, fieldL, if_pos hnB]
          cases hz : quoteL t2 with
          | none => rfl
          | some z => exact ⟨rfl, by rw [hnB]; rfl, rfl, ht2.trans (quote_suf (s := z.1) (r := z.2) hz).1⟩
        generalize quoteL t2 = z at hQ2 HX
        clear hnl hnB hC2 hT2
        go_enter Tryz.func49, Tryz.ntmps49
        go_wp2_with fail
        refine (hQ _).mono ?_
        rintro e w1 ⟨rfl, hb1⟩
        have HM1 := hide0 (HM0.out.more hb1)
        obtain ⟨d0, d1, d2, d3, d4, df⟩ := res_cells HM1.out.box
        obtain ⟨r0', r1', r2', r3', r4', rf⟩ := res_cells HM1.out.res
        clear hb1
        go_wp2_with fail
        refine (hS _).mono ?_
        rintro e w2 ⟨rfl, hw2⟩
        have hw3 := hw2.symm
        subst hw3
        clear hw2
        go_wp2_with fail
        refine (hQ2 _).mono ?_
        rintro e w3 ⟨rfl, hb3⟩
        have HM3 := hide0 (HM1.out.more hb3)
        have HM4 := hide0 (HM3.out.set (i := 3) (u := .string (qS z)) (e' := ⟨k, tk, m, qS z, ts⟩) rfl rfl)
        clear d0 d1 d2 d3 d4 df r0' r1' r2' r3' r4' rf hb3
        obtain ⟨d0, d1, d2, d3, d4, df⟩ := res_cells HM3.out.box
        obtain ⟨r0', r1', r2', r3', r4', rf⟩ := res_cells HM3.out.res
        go_wp2
        refine bodyPost_ret (v := .tuple #[.agg #[.int .i64 k, .string tk, .int .i64 m, .string (qS z), .slice va ts.length vc], .int .i64 1, .int .i64 (pos s (qP z))]) (by simp [results, Tryz.results49, go_sem, r0', r1', r2', r3', r4']) rfl ?_
        exact ⟨⟨k, tk, m, qS z, ts⟩, .slice va ts.length vc, 1, _, rfl, HX.out, HM4.out.out.1, HM4.out.out.2, fun q hq => .inl hq⟩
      · have x1 : ((ba nm).toList == [98, 111, 100, 121]) = false := by rw [hnl, beq_eq_false_iff_ne]; exact hnB
        by_cases hnK : nm = nKind
        · have x2 : ((ba nm).toList == [107, 105, 110, 100]) = true := by rw [hnl, hnK]; rfl
          have HX : Hid (∀ E, E = (⟨kpre (qS (quoteL t2)).toList 4, tk, m, b, ts⟩ : Ev) → (kpre (qS (quoteL t2)).toList 4 = 0 → MemR s (capE ⟨k, tk, m, b, ts⟩) t E 0 (-1)) ∧ (¬ kpre (qS (quoteL t2)).toList 4 = 0 → MemR s (capE ⟨k, tk, m, b, ts⟩) t E 2 (pos s (qP (quoteL t2))))) := by
            intro E hE
            subst hE
            rw [MemR, MemR, HML.out, fieldL, if_neg hnB, if_pos hnK]
            cases hz : quoteL t2 with
            | none =>
              have h0 : kpre (qS none).toList 4 = 0 := by have e : (qS none).toList = [] := ba_list []; rw [e]; decide
              exact ⟨fun _ => rfl, fun h => absurd h0 h⟩
            | some z =>
              have hl : (qS (some z)).toList = z.1 := ba_list z.1
              rw [hl]
              cases hkw : kindW z.1 with
              | none =>
                have h0 := (kpre_kind z.1).2 hkw
                simp only [Option.bind_some, hkw, Option.map_none]
                exact ⟨fun _ => trivial, fun h => absurd h0 h⟩
              | some kk =>
                have h0 := (kpre_kind z.1).1 kk hkw
                simp only [Option.bind_some, hkw, Option.map_some]
                refine ⟨fun h => absurd h h0.2, fun _ => ⟨?_, by rw [hnK]; rfl, rfl, ht2.trans (quote_suf (s := z.1) (r := z.2) hz).1⟩⟩
                simp only [capE, h0.1]
          generalize quoteL t2 = z at hQ2 HX
          clear hnl hnB hnK hC2 hT2
          go_enter Tryz.func49, Tryz.ntmps49
          go_wp2_with fail
          refine (hQ _).mono ?_
          rintro e w1 ⟨rfl, hb1⟩
          have HM1 := hide0 (HM0.out.more hb1)
          obtain ⟨d0, d1, d2, d3, d4, df⟩ := res_cells HM1.out.box
          obtain ⟨r0', r1', r2', r3', r4', rf⟩ := res_cells HM1.out.res
          clear hb1
          go_wp2_with fail
          refine (hS _).mono ?_
          rintro e w2 ⟨rfl, hw2⟩
          have hw3 := hw2.symm
          subst hw3
          clear hw2
          go_wp2_with fail
          refine (hQ2 _).mono ?_
          rintro e w3 ⟨rfl, hb3⟩
          have HM3 := hide0 (HM1.out.more hb3)
          have HM4 := hide0 (HM3.out.set (i := 0) (u := .int .i64 0) (e' := ⟨0, tk, m, b, ts⟩) rfl rfl)
          clear hb3
          clear d0 d1 d2 d3 d4 df r0' r1' r2' r3' r4' rf
          obtain ⟨d0, d1, d2, d3, d4, df⟩ := res_cells HM3.out.box
          go_wp2_with fail
          go_loopw [12] (fun iv wx => ∃ n : Nat, n ≤ 4 ∧ iv = .int .i64 n ∧ Hid (Mb w.heap.size base w wx ⟨kpre (qS z).toList n, tk, m, b, ts⟩ (.slice va ts.length vc))) (fun iv _ => 4 - (intOf iv).toNat)
          case atStart => exact ⟨0, by omega, rfl, HM4⟩
          case round =>
            clear d0 d1 d2 d3 d4 df
            obtain ⟨n, hn, rfl, HM5⟩ := hrel
            obtain ⟨d0, d1, d2, d3, d4, df⟩ := res_cells HM5.out.box
            obtain ⟨r0', r1', r2', r3', r4', rf⟩ := res_cells HM5.out.res
            by_cases hn4 : n < 4
            · have hnI : (n : Int) < 4 := by omega
              have HST := hide0 (kpre_step (qS z).toList hn4)
              obtain ⟨wd, hcell, HWD⟩ : ∃ wd : ByteArray, (wr.alloc (.cells #[.string ⟨#[98, 101, 103, 117, 110]⟩, .string ⟨#[100, 111, 110, 101]⟩, .string ⟨#[102, 97, 105, 108, 101, 100]⟩, .string ⟨#[110, 111, 116, 101, 100]⟩] 9)).cell? ⟨wr.heap.size, n, none⟩ = some (.string wd) ∧ Hid (wd.toList = wordB ((n : Int) + 1)) := ⟨_, wordsAt wr rfl hn4, ba_list _⟩
              have hbA : Below wr.heap.size wr (wr.alloc (.cells #[.string ⟨#[98, 101, 103, 117, 110]⟩, .string ⟨#[100, 111, 110, 101]⟩, .string ⟨#[102, 97, 105, 108, 101, 100]⟩, .string ⟨#[110, 111, 116, 101, 100]⟩] 9)) := (Below.refl _ _).alloc (Nat.le_refl _) _
              have HM6 := hide0 (HM5.out.more hbA)
              go_wp2_with fail
              refine (words_any _).mono ?_
              rintro e w5 ⟨rfl, hw5⟩
              have hw5' := hw5
              rw [← hw5'] at hcell HM6
              clear hw5' hbA hw5
              clear d0 d1 d2 d3 d4 df r0' r1' r2' r3' r4' rf
              obtain ⟨d0, d1, d2, d3, d4, df⟩ := res_cells HM6.out.box
              by_cases hqq : (qS z).toList = wordB ((n : Int) + 1)
              · have hcmp : (wd.toList == (qS z).toList) = true := by rw [HWD.out, hqq]; simp
                have HN := hide0 (HM6.out.set (i := 0) (u := .int .i64 ((n : Int) + 1)) (e' := ⟨kpre (qS z).toList (n + 1), tk, m, b, ts⟩) rfl (by rw [HST.out, if_pos hqq]; rfl))
                clear hqq
                go_wp2
                go_roundw
                case rel => exact ⟨n + 1, by omega, by go_num, HN⟩
                case measure => simp [intOf]; omega
              · have hcmp : (wd.toList == (qS z).toList) = false := by rw [HWD.out, beq_eq_false_iff_ne]; exact fun h => hqq h.symm
                have HN : Hid (Mb w.heap.size base w w5 ⟨kpre (qS z).toList (n + 1), tk, m, b, ts⟩ (.slice va ts.length vc)) := by rw [HST.out, if_neg hqq]; exact HM6
                clear hqq
                go_wp2
                go_roundw
                case rel => exact ⟨n + 1, by omega, by go_num, HN⟩
                case measure => simp [intOf]; omega
            · have hnI : ¬ (n : Int) < 4 := by omega
              have hne : n = 4 := by omega
              have HXX : Hid ((kpre (qS z).toList n = 0 → MemR s (capE ⟨k, tk, m, b, ts⟩) t ⟨kpre (qS z).toList n, tk, m, b, ts⟩ 0 (-1)) ∧ (¬ kpre (qS z).toList n = 0 → MemR s (capE ⟨k, tk, m, b, ts⟩) t ⟨kpre (qS z).toList n, tk, m, b, ts⟩ 2 (pos s (qP z)))) := by
                rw [hne]; exact HX.out _ rfl
              generalize kpre (qS z).toList n = kk at HXX HM5 d0
              clear hne
              by_cases hkk : kk = 0
              · have HF := hide0 (HXX.out.1 hkk)
                have hkb : (kk == 0) = true := by simp [hkk]
                clear hkk
                go_wp2
                refine bodyPost_ret (v := .tuple #[.agg #[.int .i64 kk, .string tk, .int .i64 m, .string b, .slice va ts.length vc], .int .i64 0, .int .i64 (-1)]) (by simp [results, Tryz.results49, go_sem, r0', r1', r2', r3', r4']) rfl ?_
                exact ⟨⟨kk, tk, m, b, ts⟩, .slice va ts.length vc, 0, -1, rfl, HF.out, HM5.out.out.1, HM5.out.out.2, fun q hq => .inl hq⟩
              · have HF := hide0 (HXX.out.2 hkk)
                have hkb : (kk == 0) = false := by simp [hkk]
                clear hkk
                go_wp2
                refine bodyPost_ret (v := .tuple #[.agg #[.int .i64 kk, .string tk, .int .i64 m, .string b, .slice va ts.length vc], .int .i64 2, .int .i64 (pos s (qP z))]) (by simp [results, Tryz.results49, go_sem, r0', r1', r2', r3', r4']) rfl ?_
                exact ⟨⟨kk, tk, m, b, ts⟩, .slice va ts.length vc, 2, _, rfl, HF.out, HM5.out.out.1, HM5.out.out.2, fun q hq => .inl hq⟩
        · have x2 : ((ba nm).toList == [107, 105, 110, 100]) = false := by rw [hnl, beq_eq_false_iff_ne]; exact hnK
          by_cases hnG : nm = nTags
          · have x3 : ((ba nm).toList == [116, 97, 103, 115]) = true := by rw [hnl, hnG]; rfl
            have HX : Hid (MemR s (capE ⟨k, tk, m, b, ts⟩) t ⟨k, tk, m, b, (tT (tagsL t2)).map ba⟩ 3 (pos s (tP (tagsL t2)))) := by
              show MemR _ _ _ _ _ _
              rw [MemR, HML.out, fieldL, if_neg hnB, if_neg hnK, if_pos hnG]
              cases hz : tagsL t2 with
              | none => rfl
              | some z => exact ⟨rfl, by rw [hnG]; rfl, rfl, ht2.trans (list_suf (fun l x r h => (quote_suf h).1) (xs := z.1) (r := z.2) hz).1⟩
            generalize tagsL t2 = z at hT2 HX
            clear hnl hnB hnK hnG hC2 hQ2
            go_enter Tryz.func49, Tryz.ntmps49
            go_wp2_with fail
            refine (hQ _).mono ?_
            rintro e w1 ⟨rfl, hb1⟩
            have HM1 := hide0 (HM0.out.more hb1)
            obtain ⟨d0, d1, d2, d3, d4, df⟩ := res_cells HM1.out.box
            obtain ⟨r0', r1', r2', r3', r4', rf⟩ := res_cells HM1.out.res
            clear hb1
            go_wp2_with fail
            refine (hS _).mono ?_
            rintro e w2 ⟨rfl, hw2⟩
            have hw3 := hw2.symm
            subst hw3
            clear hw2
            go_wp2_with fail
            refine (hT2 _).mono ?_
            rintro e w3 ⟨y, rfl, hy, hb3⟩
            have hbig := HM1.out.big
            have HM3 := hide0 (HM1.out.more hb3)
            have hy2 : w3.ownsRow w1.heap.size 9 1 y ((tT z).map ba).length (((tT z).map ba).map Value.string) := by
              have e : strV (tT z) = ((tT z).map ba).map Value.string := by simp [strV]
              rw [← e, List.length_map]; exact hy
            generalize (tT z).map ba = L at HX hy2
            obtain ⟨ya, yc, hye, _⟩ := own_tags hy2
            subst hye
            have HM4 := hide0 (HM3.out.tag hb hbig hy2)
            have HYL : Hid (∀ q, (Value.slice ya L.length yc).ownBlock = some q → w.heap.size ≤ q) := fun q hq => by have := (hy2.lt q hq).1; omega
            clear hy hy2 hb3
            clear d0 d1 d2 d3 d4 df r0' r1' r2' r3' r4' rf
            obtain ⟨d0, d1, d2, d3, d4, df⟩ := res_cells HM3.out.box
            obtain ⟨r0', r1', r2', r3', r4', rf⟩ := res_cells HM3.out.res
            go_wp2
            refine bodyPost_ret (v := .tuple #[.agg #[.int .i64 k, .string tk, .int .i64 m, .string b, .slice ya L.length yc], .int .i64 3, .int .i64 (pos s (tP z))]) (by simp [results, Tryz.results49, go_sem, r0', r1', r2', r3', r4']) rfl ?_
            exact ⟨⟨k, tk, m, b, L⟩, .slice ya L.length yc, 3, _, rfl, HX.out, HM4.out.out.1, HM4.out.out.2, fun q hq => .inr (HYL.out q hq)⟩
          · have x3 : ((ba nm).toList == [116, 97, 103, 115]) = false := by rw [hnl, beq_eq_false_iff_ne]; exact hnG
            by_cases hnT : nm = nTask
            · have x4 : ((ba nm).toList == [116, 97, 115, 107]) = true := by rw [hnl, hnT]; rfl
              have HX : Hid (MemR s (capE ⟨k, tk, m, b, ts⟩) t ⟨k, qS (quoteL t2), m, b, ts⟩ 4 (pos s (qP (quoteL t2)))) := by
                show MemR _ _ _ _ _ _
                rw [MemR, HML.out, fieldL, if_neg hnB, if_neg hnK, if_neg hnG, if_pos hnT]
                cases hz : quoteL t2 with
                | none => rfl
                | some z => exact ⟨rfl, by rw [hnT]; rfl, rfl, ht2.trans (quote_suf (s := z.1) (r := z.2) hz).1⟩
              generalize quoteL t2 = z at hQ2 HX
              clear hnl hnB hnK hnG hnT hC2 hT2
              go_enter Tryz.func49, Tryz.ntmps49
              go_wp2_with fail
              refine (hQ _).mono ?_
              rintro e w1 ⟨rfl, hb1⟩
              have HM1 := hide0 (HM0.out.more hb1)
              obtain ⟨d0, d1, d2, d3, d4, df⟩ := res_cells HM1.out.box
              obtain ⟨r0', r1', r2', r3', r4', rf⟩ := res_cells HM1.out.res
              clear hb1
              go_wp2_with fail
              refine (hS _).mono ?_
              rintro e w2 ⟨rfl, hw2⟩
              have hw3 := hw2.symm
              subst hw3
              clear hw2
              go_wp2_with fail
              refine (hQ2 _).mono ?_
              rintro e w3 ⟨rfl, hb3⟩
              have HM3 := hide0 (HM1.out.more hb3)
              have HM4 := hide0 (HM3.out.set (i := 1) (u := .string (qS z)) (e' := ⟨k, qS z, m, b, ts⟩) rfl rfl)
              clear hb3
              clear d0 d1 d2 d3 d4 df r0' r1' r2' r3' r4' rf
              obtain ⟨d0, d1, d2, d3, d4, df⟩ := res_cells HM3.out.box
              obtain ⟨r0', r1', r2', r3', r4', rf⟩ := res_cells HM3.out.res
              go_wp2
              refine bodyPost_ret (v := .tuple #[.agg #[.int .i64 k, .string (qS z), .int .i64 m, .string b, .slice va ts.length vc], .int .i64 4, .int .i64 (pos s (qP z))]) (by simp [results, Tryz.results49, go_sem, r0', r1', r2', r3', r4']) rfl ?_
              exact ⟨⟨k, qS z, m, b, ts⟩, .slice va ts.length vc, 4, _, rfl, HX.out, HM4.out.out.1, HM4.out.out.2, fun q hq => .inl hq⟩
            · have x4 : ((ba nm).toList == [116, 97, 115, 107]) = false := by rw [hnl, beq_eq_false_iff_ne]; exact hnT
              by_cases hnM : nm = nTime
              · have x5 : ((ba nm).toList == [116, 105, 109, 101]) = true := by rw [hnl, hnM]; rfl
                have HX : Hid (MemR s (capE ⟨k, tk, m, b, ts⟩) t ⟨k, tk, cN t2, b, ts⟩ 5 (pos s (cP t2))) := by
                  show MemR _ _ _ _ _ _
                  rw [MemR, HML.out, fieldL, if_neg hnB, if_neg hnK, if_neg hnG, if_neg hnT, if_pos hnM]
                  cases hbn : badNum ((skipL t2).takeWhile isDig) with
                  | true =>
                    have hcl : countL t2 = none := by unfold countL; simp only [hbn]; rfl
                    have hcp : cP t2 = none := by rw [cP, hbn]; rfl
                    rw [hcl, hcp]; rfl
                  | false =>
                    have hcl : countL t2 = some (numL ((skipL t2).takeWhile isDig), (skipL t2).dropWhile isDig) := by unfold countL; simp only [hbn]; rfl
                    have hcp : cP t2 = some ((skipL t2).dropWhile isDig) := by rw [cP, hbn]; rfl
                    have hcn : cN t2 = (refN ((skipL t2).takeWhile isDig) : Int) := by rw [cN, hbn]; rfl
                    rw [hcl, hcp, hcn]
                    refine ⟨?_, by rw [hnM]; rfl, rfl, ht2.trans (count_suf hcl).1⟩
                    have := refN_num ((skipL t2).takeWhile isDig)
                    simp only [capE, Ev.mk.injEq, true_and, and_true]
                    omega
                clear hnl hnB hnK hnG hnT hnM hQ2 hT2
                go_enter Tryz.func49, Tryz.ntmps49
                go_wp2_with fail
                refine (hQ _).mono ?_
                rintro e w1 ⟨rfl, hb1⟩
                have HM1 := hide0 (HM0.out.more hb1)
                obtain ⟨d0, d1, d2, d3, d4, df⟩ := res_cells HM1.out.box
                obtain ⟨r0', r1', r2', r3', r4', rf⟩ := res_cells HM1.out.res
                clear hb1
                go_wp2_with fail
                refine (hS _).mono ?_
                rintro e w2 ⟨rfl, hw2⟩
                have hw3 := hw2.symm
                subst hw3
                clear hw2
                go_wp2_with fail
                refine (hC2 _).mono ?_
                rintro e w3 ⟨rfl, hw3⟩
                have hw4 := hw3.symm
                subst hw4
                clear hw3
                have HM4 := hide0 (HM1.out.set (i := 2) (u := .int .i64 (cN t2)) (e' := ⟨k, tk, cN t2, b, ts⟩) rfl rfl)
                go_wp2
                refine bodyPost_ret (v := .tuple #[.agg #[.int .i64 k, .string tk, .int .i64 (cN t2), .string b, .slice va ts.length vc], .int .i64 5, .int .i64 (pos s (cP t2))]) (by simp [results, Tryz.results49, go_sem, r0', r1', r2', r3', r4']) rfl ?_
                exact ⟨⟨k, tk, cN t2, b, ts⟩, .slice va ts.length vc, 5, _, rfl, HX.out, HM4.out.out.1, HM4.out.out.2, fun q hq => .inl hq⟩
              · have x5 : ((ba nm).toList == [116, 105, 109, 101]) = false := by rw [hnl, beq_eq_false_iff_ne]; exact hnM
                have HR : Hid (memL (capE ⟨k, tk, m, b, ts⟩) t = none) := by rw [HML.out, fieldL, if_neg hnB, if_neg hnK, if_neg hnG, if_neg hnT, if_neg hnM]; exact rfl
                clear hnl hnB hnK hnG hnT hnM hQ2 hT2 hC2
                go_enter Tryz.func49, Tryz.ntmps49
                go_wp2_with fail
                refine (hQ _).mono ?_
                rintro e w1 ⟨rfl, hb1⟩
                have HM1 := hide0 (HM0.out.more hb1)
                obtain ⟨d0, d1, d2, d3, d4, df⟩ := res_cells HM1.out.box
                obtain ⟨r0', r1', r2', r3', r4', rf⟩ := res_cells HM1.out.res
                clear hb1
                go_wp2_with fail
                refine (hS _).mono ?_
                rintro e w2 ⟨rfl, hw2⟩
                have hw3 := hw2.symm
                subst hw3
                clear hw2
                go_wp2
                refine bodyPost_ret (v := .tuple #[.agg #[.int .i64 k, .string tk, .int .i64 m, .string b, .slice va ts.length vc], .int .i64 0, .int .i64 (-1)]) (by simp [results, Tryz.results49, go_sem, r0', r1', r2', r3', r4']) rfl ?_
                exact ⟨⟨k, tk, m, b, ts⟩, .slice va ts.length vc, 0, -1, rfl, by rw [MemR, HR.out], HM1.out.out.1, HM1.out.out.2, fun q hq => .inl hq⟩
end Go.Proofs.YtodlcnbknjldnaaGreatDoor
