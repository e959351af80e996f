/- What the document's answer guesses of bytes, as plain functions; it is what is read. -/
import Derived.Test.YtdjllnhahhjgmaaV
import Derived.Test.YtdjllnhahhjgmaaU
import Derived.Test.YtdjllnhahhjgmaaS
namespace Chron
open Go Go.RowKit
def nAt (r : List UInt8) : Nat × Option (List UInt8) := match readNum r with | none => (0, none) | some (n, q) => (n, some q)
def tAt (r : List UInt8) : List UInt8 × Option (List UInt8) := match readTx r with | none => ([], none) | some (t, q) => (t, some q)
def gstep (e : Ev) (c : UInt8) (r : List UInt8) : Ev × Option (List UInt8) :=
  if c = 1 then ({ e with kind := (nAt r).1 }, (nAt r).2)
  else if c = 3 then ({ e with time := (nAt r).1 }, (nAt r).2)
  else if c = 2 then ({ e with task := ⟨(tAt r).1.toArray⟩ }, (tAt r).2)
  else if c = 4 then ({ e with body := ⟨(tAt r).1.toArray⟩ }, (tAt r).2)
  else if c = 5 then ({ e with tags := e.tags ++ [⟨(tAt r).1.toArray⟩] }, (tAt r).2)
  else (e, (tAt r).2)
def guessF : Nat → Ev → List UInt8 → Ev
  | 0, e, _ => e
  | _ + 1, e, [] => e
  | f + 1, e, c :: r => match gstep e c r with
    | (e', none) => e'
    | (e', some q) => guessF f e' q
theorem nAt_len {r q : List UInt8} (h : (nAt r).2 = some q) : q.length ≤ r.length := by
  unfold nAt at h
  rcases hr : readNum r with _ | ⟨n, x⟩
  · rw [hr] at h; cases h
  · rw [hr] at h
    simp only [Option.some.injEq] at h
    subst h; exact readNum_len hr
theorem tAt_len {r q : List UInt8} (h : (tAt r).2 = some q) : q.length ≤ r.length := by
  unfold tAt at h
  rcases hr : readTx r with _ | ⟨n, x⟩
  · rw [hr] at h; cases h
  · rw [hr] at h
    simp only [Option.some.injEq] at h
    subst h; have := readTx_len hr; omega
theorem gstep_len {e : Ev} {c : UInt8} {r q : List UInt8} (h : (gstep e c r).2 = some q) : q.length ≤ r.length := by
  unfold gstep at h
  split at h
  · exact nAt_len h
  · split at h
    · exact nAt_len h
    · split at h
      · exact tAt_len h
      · split at h
        · exact tAt_len h
        · split at h <;> exact tAt_len h
theorem guessF_fuel : ∀ (f : Nat) (e : Ev) (s : List UInt8), s.length ≤ f → guessF f e s = guessF s.length e s
  | 0, e, s, h => by have : s = [] := List.eq_nil_of_length_eq_zero (by omega); subst this; rfl
  | f + 1, e, [], _ => rfl
  | f + 1, e, c :: r, h => by
    rw [List.length_cons, guessF, guessF]
    rcases hg : gstep e c r with ⟨e', _ | q⟩
    · rfl
    · have hq := gstep_len (e := e) (c := c) (r := r) (q := q) (by rw [hg])
      simp only [List.length_cons] at h
      simp only
      rw [guessF_fuel f e' q (by omega), guessF_fuel r.length e' q hq]
def guessG (e : Ev) (s : List UInt8) : Ev := guessF s.length e s
theorem guessG_nil (e : Ev) : guessG e [] = e := rfl
theorem guessG_stop {e e' : Ev} {c : UInt8} {r : List UInt8} (h : gstep e c r = (e', none)) : guessG e (c :: r) = e' := by
  rw [guessG, List.length_cons, guessF, h]
theorem guessG_next {e e' : Ev} {c : UInt8} {r q : List UInt8} (h : gstep e c r = (e', some q)) : guessG e (c :: r) = guessG e' q := by
  have hq := gstep_len (e := e) (c := c) (r := r) (q := q) (by rw [h])
  rw [guessG, List.length_cons, guessF, h]
  exact guessF_fuel _ _ _ hq
def bump (v : Int) (e : Ev) : Ev := if v = 2 ∧ e.kind < 9 then { e with kind := e.kind + 1 } else e
def guessB (v : Int) (s : List UInt8) : Ev := bump v (guessG zeroEv s)
theorem nAt_of {n : Nat} (hn : n < 128 ^ 9) (r : List UInt8) : nAt (num n ++ r) = (n, some r) := by rw [nAt, readNum_of hn]
theorem tAt_of {t : List UInt8} (ht : t.length ≤ 60) (r : List UInt8) : tAt (text t ++ r) = (t, some r) := by rw [tAt, readTx_of ht]
theorem guess_kind {e : Ev} {n : Nat} (hn : n < 128 ^ 9) (r : List UInt8) : guessG e (num 1 ++ num n ++ r) = guessG { e with kind := n } r := by
  rw [List.append_assoc]
  refine guessG_next (c := 1) (r := num n ++ r) ?_
  rw [gstep, if_pos rfl]
  rw [nAt_of hn]
theorem guess_time {e : Ev} {n : Nat} (hn : n < 128 ^ 9) (r : List UInt8) : guessG e (num 3 ++ num n ++ r) = guessG { e with time := n } r := by
  rw [List.append_assoc]
  refine guessG_next (c := 3) (r := num n ++ r) ?_
  rw [gstep, if_neg (by decide), if_pos rfl]
  rw [nAt_of hn]
theorem guess_task {e : Ev} {t : ByteArray} (ht : t.size ≤ 60) (r : List UInt8) : guessG e (num 2 ++ text t.data.toList ++ r) = guessG { e with task := t } r := by
  rw [List.append_assoc]
  refine guessG_next (c := 2) (r := text t.data.toList ++ r) ?_
  rw [gstep, if_neg (by decide), if_neg (by decide), if_pos rfl]
  rw [tAt_of (by simpa using ht)]
theorem guess_body {e : Ev} {t : ByteArray} (ht : t.size ≤ 60) (r : List UInt8) : guessG e (num 4 ++ text t.data.toList ++ r) = guessG { e with body := t } r := by
  rw [List.append_assoc]
  refine guessG_next (c := 4) (r := text t.data.toList ++ r) ?_
  rw [gstep, if_neg (by decide), if_neg (by decide), if_neg (by decide), if_pos rfl]
  rw [tAt_of (by simpa using ht)]
theorem guess_tag {e : Ev} {t : ByteArray} (ht : t.size ≤ 60) (r : List UInt8) : guessG e (tagPart t ++ r) = guessG { e with tags := e.tags ++ [t] } r := by
  rw [tagPart, List.append_assoc]
  refine guessG_next (c := 5) (r := text t.data.toList ++ r) ?_
  rw [gstep, if_neg (by decide), if_neg (by decide), if_neg (by decide), if_neg (by decide), if_pos rfl]
  rw [tAt_of (by simpa using ht)]
theorem guess_tags : ∀ (ts : List ByteArray) (e : Ev), Lines ts → guessG e (tagParts ts) = { e with tags := e.tags ++ ts }
  | [], e, _ => by simp [tagParts, guessG_nil]
  | t :: ts, e, h => by
    have ht := h t (by simp)
    rw [show tagParts (t :: ts) = tagPart t ++ tagParts ts from rfl, guess_tag ht, guess_tags ts _ (fun x hx => h x (by simp [hx]))]
    simp
theorem guess_fields {v : Int} {e : Ev} (hv : v = 2 ∨ v = 3) (hk : Known e) : guessB v (fieldsB v e) = e := by
  obtain ⟨k, t, m, b, ts⟩ := e
  obtain ⟨h1, h4, htk, _, ht0, ht1, hbd, hfew, hlines⟩ := hk
  simp only at h1 h4 htk ht0 ht1 hbd hfew hlines
  have hsb := shift_bd v
  have hj : (k - shift v).toNat < 128 ^ 9 := by have : (k - shift v).toNat ≤ 4 := by omega
                                                exact Nat.lt_of_le_of_lt this (by decide)
  have hG : guessG zeroEv (fieldsB v ⟨k, t, m, b, ts⟩) = ⟨k - shift v, t, m, b, ts⟩ := by
    rw [fieldsB, front]
    simp only [List.append_assoc]
    rw [← List.append_assoc (num 1) (num _), guess_kind hj, ← List.append_assoc (num 2) (text _), guess_task htk]
    have hT : ∀ e' : Ev, e'.time = 0 → guessG e' (timePart m ++ (bodyPart b ++ tagParts ts)) = guessG { e' with time := m } (bodyPart b ++ tagParts ts) := by
      intro e' he
      unfold timePart
      split
      · rename_i hm; obtain ⟨a1, a2, a3, a4, a5⟩ := e'; simp only at he; subst he; subst hm; rfl
      · rw [guess_time (time_small ht1)]
        congr 1
        simp only [Ev.mk.injEq, true_and, and_true]; omega
    have hB : ∀ e' : Ev, e'.body = ⟨#[]⟩ → guessG e' (bodyPart b ++ tagParts ts) = guessG { e' with body := b } (tagParts ts) := by
      intro e' he
      unfold bodyPart
      split
      · rename_i hm
        have hb0 : b = ⟨#[]⟩ := by apply bytes_inj; rw [← ByteArray.toList_eq, hm]
        obtain ⟨a1, a2, a3, a4, a5⟩ := e'; simp only at he; subst he; subst hb0; rfl
      · rw [guess_body hbd]
    rw [hT _ rfl, hB _ rfl, guess_tags ts _ hlines]
    simp only [zeroEv, List.nil_append, Ev.mk.injEq, and_true]
    omega
  rw [guessB, hG, bump]
  rcases hv with rfl | rfl
  · rw [if_pos ⟨rfl, by rw [shift_two rfl]; show k - 1 < 9; omega⟩, shift_two rfl]
    simp
  · rw [if_neg (by omega), shift_not (by omega)]
    simp
/- the answer that is read off the guess -/
def refF (v : Int) (s : List UInt8) : Ev × Int := if (encB v (guessB v s)).2 ≠ 0 ∨ (encB v (guessB v s)).1 ≠ s then (zeroEv, 3) else (guessB v s, 0)
theorem refF_dec {v : Int} (hv : v = 2 ∨ v = 3) (s : List UInt8) : refF v s = decB v s := by
  have hver : isVer v = true := by rcases hv with rfl | rfl <;> rfl
  have hv1 : ¬ v = 1 := by omega
  have hf : ∀ e, goesB v e = true → encB v e = (fieldsB v e, 0) := fun e he => by rw [encB, if_neg (by simp [hver]), if_neg (by simp [he]), if_neg hv1]
  rw [decB, if_neg (by simp [hver]), rdB, if_neg hv1]
  by_cases h : (encB v (guessB v s)).2 ≠ 0 ∨ (encB v (guessB v s)).1 ≠ s
  · rw [refF, if_pos h, if_pos]
    simp only [okOf, Bool.and_eq_false_iff, decide_eq_false_iff_not, beq_eq_false_iff_ne]
    by_cases hq : (encB v (rdFields v s)).2 = 0 ∧ (encB v (rdFields v s)).1 = s
    · exfalso
      have hg := (enc_ok hq.1).2
      have e1 := hf _ hg
      have e2 : fieldsB v (rdFields v s) = s := by have := hq.2; rw [e1] at this; exact this
      have e3 : guessB v s = rdFields v s := by
        have := guess_fields hv (is_known (goes_is hg))
        rwa [e2] at this
      rw [e3] at h
      rcases h with h | h
      · exact h hq.1
      · exact h hq.2
    · by_cases h1 : (encB v (rdFields v s)).2 = 0
      · exact .inr (fun e => hq ⟨h1, e⟩)
      · exact .inl h1
  · have h1 : (encB v (guessB v s)).2 = 0 := Classical.byContradiction fun e => h (.inl e)
    have h2 : (encB v (guessB v s)).1 = s := Classical.byContradiction fun e => h (.inr e)
    have hg := (enc_ok h1).2
    have e1 := hf _ hg
    have e2 : fieldsB v (guessB v s) = s := by have := h2; rw [e1] at this; exact this
    have e3 : rdFields v s = guessB v s := by
      have := rdFields_of (v := v) (is_known (goes_is hg))
      rwa [e2] at this
    rw [refF, if_neg h, if_neg, e3]
    rw [okOf, e3, h1, h2]; simp
/- the first version: what is read of bytes that begin with a letter -/
def dashE (c : UInt8) (b : List UInt8) : Ev := ⟨letterKind c, ⟨#[45]⟩, 0, ⟨b.toArray⟩, []⟩
def plainE (c : UInt8) (t b : List UInt8) : Ev := ⟨letterKind c, ⟨t.toArray⟩, 0, ⟨b.toArray⟩, []⟩
theorem dec_one (s : List UInt8) : decB 1 s = if (rdLetter s).2 = false then (zeroEv, 3) else ((rdLetter s).1, 0) := by
  rw [decB, if_neg (by decide), rdB, if_pos rfl]
theorem dec_short {s : List UInt8} (h : s.length ≤ 1) : decB 1 s = (zeroEv, 3) := by
  rw [dec_one, if_pos]
  match s, h with
  | [], _ => rfl
  | [c], _ =>
    have : readTx ([] : List UInt8) = none := by decide
    rw [rdLetter, this]
theorem not_is {e : Ev} (h : e.kind < 1) : isB e = false := by
  rw [isB]; simp only [Bool.and_eq_false_iff, decide_eq_false_iff_not]; left; omega
theorem dec_null (r : List UInt8) : decB 1 (0 :: r) = (zeroEv, 3) := by
  rw [dec_one, if_pos]
  have hk : letterKind 0 = 0 := by decide
  rw [rdLetter]
  rcases readTx r with _ | ⟨t, b⟩
  · rfl
  · simp only
    split
    · exact not_is (e := ⟨letterKind 0, ⟨#[45]⟩, 0, ⟨b.toArray⟩, []⟩) (by show letterKind 0 < 1; rw [hk]; decide)
    · rw [goesB, not_is (by show letterKind 0 < 1; rw [hk]; decide)]; simp
theorem dec_nothing {c : UInt8} {r : List UInt8} (h : readTx r = none) : decB 1 (c :: r) = (zeroEv, 3) := by
  rw [dec_one, if_pos]; rw [rdLetter, h]
theorem dec_dash {c : UInt8} {r b : List UInt8} (h : readTx r = some ([], b)) : decB 1 (c :: r) = if isB (dashE c b) = false then (zeroEv, 3) else (dashE c b, 0) := by
  rw [dec_one, rdLetter, h]; rfl
theorem is_dash (c : UInt8) (b : List UInt8) : isB (dashE c b) = (decide (1 ≤ letterKind c) && lineB ⟨b.toArray⟩) := by
  have hk := letterKind_bd c
  have hn : nameB ⟨#[45]⟩ = true := by decide +kernel
  have ht : tagsB [] = true := by decide
  have key : isB (dashE c b) = true ↔ (1 ≤ letterKind c ∧ lineB ⟨b.toArray⟩ = true) := by
    rw [isB]
    simp only [Bool.and_eq_true, decide_eq_true_eq]
    constructor
    · rintro ⟨h1, _, _, _, _, h6, _⟩; exact ⟨h1, h6⟩
    · rintro ⟨h1, h6⟩; exact ⟨h1, by show letterKind c ≤ 4; omega, hn, Int.le_refl _, by show (0 : Int) ≤ 1125899906842624; decide, h6, ht⟩
  rw [Bool.eq_iff_iff, key]; simp
theorem dec_plain {c : UInt8} {r t b : List UInt8} (h : readTx r = some (t, b)) (ht : t ≠ []) : decB 1 (c :: r) = if goesB 1 (plainE c t b) = false then (zeroEv, 3) else (plainE c t b, 0) := by
  rw [dec_one, rdLetter, h]
  simp only [if_neg ht]
  rfl
theorem enc_plain {c : UInt8} {r t b : List UInt8} (h : readTx r = some (t, b)) : encB 1 (plainE c t b) = if goesB 1 (plainE c t b) = false then ([], 2) else (c :: r, 0) := by
  rw [encB, if_neg (by decide)]
  split
  · rfl
  · rename_i hg
    have hg' : goesB 1 (plainE c t b) = true := by simpa using hg
    rw [if_pos rfl]
    have h1 := (is_known (goes_is hg')).k1
    have hl := letterOf_kind (c := c) h1
    rw [readTx_text h]
    show (letterOf (letterKind c) :: text t ++ b, (0 : Int)) = _
    rw [hl]; rfl
theorem bad_is {e : Ev} (h : e.task.toList = []) : isB e = false := by
  rw [isB]
  have : nameB e.task = false := by simp [nameB, h]
  simp [this]
theorem bad_enc {e : Ev} (h : isB e = false) : (encB 1 e).2 = 2 := by
  rw [encB, if_neg (by decide), if_pos (by simp [goesB, h])]
end Chron
