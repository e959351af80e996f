/- Walks and plain facts, in the order in which they lean on one another. -/
import Derived.Test.YtdjllnhahhjgmaaGreatDoorW14
import Derived.Test.YtdjllnhahhjgmaaGreatDoorW11
import Derived.Test.YtdjllnhahhjgmaaGreatDoorW03
import Derived.Deep.QuietTactic
import Derived.BigQuiet
import Derived.Deep.RegionWith
namespace Chron
open Go Go.RowKit Go.Proofs.YtdjllnhahhjgmaaGreatDoor
theorem dig_of (k : Nat) (h : k < 10) : isDig (UInt8.ofNat (48 + k)) = true ∧ (UInt8.ofNat (48 + k)).toNat - 48 = k ∧ (UInt8.ofNat (48 + k) = 48 → k = 0) := by
  have : k = 0 ∨ k = 1 ∨ k = 2 ∨ k = 3 ∨ k = 4 ∨ k = 5 ∨ k = 6 ∨ k = 7 ∨ k = 8 ∨ k = 9 := by omega
  rcases this with rfl | rfl | rfl | rfl | rfl | rfl | rfl | rfl | rfl | rfl <;> decide
theorem digits_all (n : Nat) : (∀ d ∈ Lib.decDigits n, isDig d = true) ∧ Lib.decDigits n ≠ [] ∧ ((Lib.decDigits n).head? = some 48 → Lib.decDigits n = [48]) ∧ numL (Lib.decDigits n) = min n 1125899906842625 := by
  induction n using Nat.strongRecOn with
  | ind n ih =>
    rw [Lib.decDigits]
    split
    · rename_i h
      obtain ⟨h1, h2, h3⟩ := dig_of n h
      refine ⟨by simpa using h1, by simp, fun e => ?_, ?_⟩
      · simp only [List.head?_cons, Option.some.injEq] at e
        rw [e]
      · simp only [numL, List.foldl_cons, List.foldl_nil, capN, h2]; omega
    · rename_i h
      obtain ⟨i1, i2, i3, i4⟩ := ih (n / 10) (by omega)
      obtain ⟨h1, h2, h3⟩ := dig_of (n % 10) (by omega)
      refine ⟨fun d hd => ?_, by simp, fun e => ?_, ?_⟩
      · rcases List.mem_append.1 hd with hd | hd
        · exact i1 d hd
        · simp only [List.mem_singleton] at hd; rw [hd]; exact h1
      · have hh : (Lib.decDigits (n / 10)).head? = some 48 := by
          cases hz : Lib.decDigits (n / 10) with
          | nil => exact absurd hz i2
          | cons x r => rw [hz] at e; simpa using e
        have h48 := i3 hh
        rw [h48] at i4
        have : numL [48] = 0 := by decide
        rw [this] at i4
        omega
      · rw [numL_snoc, i4, capN, h2]; omega
theorem digits_bad (n : Nat) : badNum (Lib.decDigits n) = false := by
  obtain ⟨_, h2, h3, _⟩ := digits_all n
  unfold badNum
  cases hz : Lib.decDigits n with
  | nil => exact absurd hz h2
  | cons x r =>
    rw [hz] at h3
    simp only [List.isEmpty_cons, Bool.false_or, List.head?_cons]
    by_cases hx : x = 48
    · have := h3 (by rw [hx]; rfl)
      rw [this]; simp
    · simp [hx]
theorem Sp.digits : ∀ {ds s o : List UInt8}, (∀ d ∈ ds, isDig d = true) → Sp false (ds ++ s) o → ∃ o', o = ds ++ o' ∧ Sp false s o'
  | [], s, o, _, h => ⟨o, rfl, h⟩
  | d :: ds, s, o, hd, h => by
    have h1 := hd d (by simp)
    have ns : isSign d = false := by
      cases hs : isSign d with
      | false => rfl
      | true =>
        simp only [isSign, Bool.or_eq_true, beq_iff_eq] at hs
        rcases hs with ((((rfl | rfl) | rfl) | rfl) | rfl) | rfl <;> simp [isDig] at h1
    have n34 : d ≠ 34 := by rintro rfl; simp [isDig] at h1
    have next : ∀ {o : List UInt8}, Sp false (ds ++ s) o → ∃ o', o = ds ++ o' ∧ Sp false s o' := fun h => Sp.digits (fun x hx => hd x (by simp [hx])) h
    rw [List.cons_append] at h
    generalize ds ++ s = z at h next
    rcases h.out with ⟨h2, _⟩ | ⟨h2, _⟩ | ⟨_, _, o, rfl, h2⟩
    · rw [ns] at h2; cases h2
    · exact absurd h2 n34
    · obtain ⟨o', rfl, h3⟩ := next h2
      exact ⟨o', rfl, h3⟩
theorem Sp.first {c : UInt8} {s o : List UInt8} (hc : isSign c = true) (h : Sp false (c :: s) o) : o = [] ∨ ∃ x l, o = x :: l ∧ isDig x = false := by
  rcases h.out with ⟨_, b1, b2, o, h2, h3, rfl, h4⟩ | ⟨rfl, _⟩ | ⟨h1, _⟩
  · cases b1 with
    | nil =>
      refine .inr ⟨c, b2 ++ o, rfl, ?_⟩
      simp only [isSign, Bool.or_eq_true, beq_iff_eq] at hc
      rcases hc with ((((rfl | rfl) | rfl) | rfl) | rfl) | rfl <;> decide
    | cons y b1 =>
      refine .inr ⟨y, b1 ++ c :: (b2 ++ o), rfl, ?_⟩
      have hy := h2 y (by simp)
      simp only [isBlank, Bool.or_eq_true, beq_iff_eq] at hy
      rcases hy with ((rfl | rfl) | rfl) | rfl <;> decide
  · simp [isSign] at hc
  · rw [hc] at h1; cases h1
theorem SpB.count {n : Nat} {c : UInt8} {s o : List UInt8} (hn : n ≤ 1125899906842624) (hc : isSign c = true) (h : SpB (Lib.decDigits n ++ c :: s) o) : ∃ o', countL o = some (n, o') ∧ SpB (c :: s) o' := by
  obtain ⟨b, r, hb, rfl, hr⟩ := h
  obtain ⟨d1, d2, _, d4⟩ := digits_all n
  obtain ⟨o', rfl, h2⟩ := hr.digits d1
  have hsk : skipL (b ++ (Lib.decDigits n ++ o')) = Lib.decDigits n ++ o' := by
    rw [skip_blanks hb]
    cases hz : Lib.decDigits n with
    | nil => exact absurd hz d2
    | cons x l =>
      rw [hz] at d1
      have hx := d1 x (by simp)
      rw [List.cons_append, skip_other]
      cases hbk : isBlank x with
      | false => rfl
      | true =>
        simp only [isBlank, Bool.or_eq_true, beq_iff_eq] at hbk
        rcases hbk with ((rfl | rfl) | rfl) | rfl <;> simp [isDig] at hx
  have ho := h2.first hc
  obtain ⟨t1, t2⟩ := take_dig d1 ho
  refine ⟨o', ?_, h2.b⟩
  unfold countL
  simp only [hsk, t1, t2, digits_bad, d4]
  rw [Nat.min_eq_left (by omega)]
  rfl
/- things with a comma between two -/
theorem SpB.items {α : Type} {one : List UInt8 → Option (α × List UInt8)} {hone : ∀ l x r, one l = some (x, r) → r.length < l.length} {tx : α → List UInt8} {ok : α → Prop} {R : List UInt8}
    (h1 : ∀ x c s o, ok x → isSign c = true → SpB (tx x ++ c :: s) o → ∃ o', one o = some (x, o') ∧ SpB (c :: s) o') (hend : ∀ x o, ok x → R = [] → SpB (tx x ++ R) o → ∃ o', one o = some (x, o') ∧ SpB R o') (hR : R = [] ∨ ∃ s, R = 93 :: s) :
    ∀ {xs : List α} {x : α} {o : List UInt8}, (∀ y ∈ x :: xs, ok y) → SpB (jn ((x :: xs).map tx) ++ R) o → ∃ o', itemsL one hone o = (signL 93 o').map (fun r => (x :: xs, r)) ∧ SpB R o'
  | [], x, o, hok, h => by
    have hx := hok x (by simp)
    simp only [List.map_cons, List.map_nil, jn_one] at h
    obtain ⟨o', h2, h3⟩ : ∃ o', one o = some (x, o') ∧ SpB R o' := by
      rcases hR with hR | ⟨s, hR⟩
      · exact hend x o hx hR h
      · subst hR; exact h1 x 93 s o hx (by decide) h
    have h44 : signL 44 o' = none := by
      rcases hR with hR | ⟨s, hR⟩
      · subst hR
        unfold signL; rw [h3.nil]
      · subst hR
        obtain ⟨_, _, h5, _⟩ := h3.sign (by decide)
        exact h5 44 (by decide)
    exact ⟨o', by rw [items_last h2 h44], h3⟩
  | y :: xs, x, o, hok, h => by
    have hx := hok x (by simp)
    have e1 : jn ((x :: y :: xs).map tx) ++ R = tx x ++ 44 :: (jn ((y :: xs).map tx) ++ R) := by simp [jn]
    rw [e1] at h
    obtain ⟨o1, h2, h3⟩ := h1 x 44 _ o hx (by decide) h
    obtain ⟨o2, h4, _, h5⟩ := h3.sign (by decide)
    obtain ⟨o', h6, h7⟩ := SpB.items h1 hend hR (xs := xs) (x := y) (fun z hz => hok z (by simp [List.mem_cons.1 hz])) h5
    refine ⟨o', ?_, h7⟩
    rw [items_more h2 h4, h6]
    cases signL 93 o' <;> rfl
end Chron
namespace Chron
open Go Go.RowKit Go.Proofs.YtdjllnhahhjgmaaGreatDoor
theorem line_bytes {s : ByteArray} (h : lineB s = true) : ∀ c ∈ s.data.toList, byteOk c = true := by
  simp only [lineB, Bool.and_eq_true, List.all_eq_true] at h
  exact h.2
theorem name_bytes {s : ByteArray} (h : nameB s = true) : ∀ c ∈ s.data.toList, byteOk c = true := by
  simp only [nameB, Bool.and_eq_true] at h
  exact line_bytes h.2
theorem tagsT_q (ts : List ByteArray) : tagsT ts = (ts.map bt).map qB := by simp [tagsT, bt]
theorem jn_cons_first (x : List UInt8) (xs : List (List UInt8)) (R : List UInt8) : ∃ z, jn (x :: xs) ++ R = x ++ z := ⟨_, by rw [jn, List.append_assoc]⟩
theorem SpB.tags {ts : List ByteArray} {s o : List UInt8} (hb : ∀ t ∈ ts, ∀ c ∈ t.data.toList, byteOk c = true) (h : SpB (listB (tagsT ts) ++ s) o) : ∃ o', tagsL o = some (ts.map bt, o') ∧ SpB s o' := by
  have e1 : listB (tagsT ts) ++ s = 91 :: (jn (tagsT ts) ++ 93 :: s) := by simp [listB]
  rw [e1] at h
  obtain ⟨o1, h1, _, h2⟩ := h.sign (by decide)
  rw [tagsT_q] at h2
  rw [tagsL, listL, h1]
  simp only
  cases ts with
  | nil =>
    obtain ⟨o2, h3, _, h4⟩ := SpB.sign (c := 93) (by decide) h2
    exact ⟨o2, by rw [h3]; rfl, h4⟩
  | cons t ts =>
    rw [List.map_cons] at h2 ⊢
    have hone : ∀ x s o, (∀ c ∈ x, byteOk c = true) → SpB (qB x ++ s) o → ∃ o', quoteL o = some (x, o') ∧ SpB s o' := fun x s o hx h => by
      obtain ⟨o', a, b, _⟩ := SpB.quote hx h
      exact ⟨o', a, b⟩
    have hall : ∀ y ∈ bt t :: ts.map bt, ∀ c ∈ y, byteOk c = true := by
      intro y hy
      rw [← List.map_cons] at hy
      obtain ⟨z, hz, rfl⟩ := List.mem_map.1 hy
      exact hb z hz
    have h93 : signL 93 o1 = none := by
      obtain ⟨z, hz⟩ := jn_cons_first (qB (bt t)) ((ts.map bt).map qB) (93 :: s)
      have h3 := h2
      rw [List.map_cons, hz] at h3
      obtain ⟨_, _, _, h4⟩ := SpB.quote (hall (bt t) (by simp)) h3
      exact h4 93 (by decide)
    obtain ⟨o2, h3, h4⟩ := SpB.items (one := quoteL) (hone := quote_one) (tx := qB) (ok := fun x => ∀ c ∈ x, byteOk c = true) (R := 93 :: s) (fun x c s o hx _ h => hone x _ o hx h) (fun x o hx _ h => hone x _ o hx h) (.inr ⟨s, rfl⟩) (xs := ts.map bt) (x := bt t) hall h2
    obtain ⟨o3, h5, _, h6⟩ := h4.sign (by decide)
    exact ⟨o3, by rw [h93, h3, h5]; rfl, h6⟩
theorem step_of {c : UInt8} {e e' : Ev} {o o1 o2 o3 o4 nm : List UInt8} (h1 : signL c o = some o1) (h2 : quoteL o1 = some (nm, o2)) (h3 : signL 58 o2 = some o3) (h4 : fieldL nm e o3 = some (e', o4)) : stepL c e o = some (nm, e', o4) := by
  unfold stepL
  rw [h1]; simp only
  rw [h2]; simp only
  rw [h3]; simp only
  rw [h4]; rfl
/- a sign, a name in quotes, and a colon -/
theorem SpB.name {c : UInt8} {nm s o : List UInt8} (hc : isSign c = true) (hn : ∀ x ∈ nm, byteOk x = true) (h : SpB (c :: (qB nm ++ 58 :: s)) o) : ∃ o1 o2 o3, signL c o = some o1 ∧ quoteL o1 = some (nm, o2) ∧ signL 58 o2 = some o3 ∧ SpB s o3 := by
  obtain ⟨o1, h1, _, h2⟩ := h.sign hc
  obtain ⟨o2, h3, h4, _⟩ := SpB.quote hn h2
  obtain ⟨o3, h5, _, h6⟩ := h4.sign (by decide)
  exact ⟨o1, o2, o3, h1, h3, h5, h6⟩
theorem kind_word {k : Int} (h1 : 1 ≤ k) (h4 : k ≤ 4) : kindW (wordB k) = some k := by
  have : k = 1 ∨ k = 2 ∨ k = 3 ∨ k = 4 := by omega
  rcases this with rfl | rfl | rfl | rfl <;> decide
theorem word_bytes (k : Int) : ∀ c ∈ wordB k, byteOk c = true := by
  unfold wordB
  split; · decide
  split; · decide
  split <;> decide
theorem SpB.event {e : Ev} {s o : List UInt8} (hk : Known e) (hbd : ∀ c ∈ e.body.data.toList, byteOk c = true) (htk : ∀ c ∈ e.task.data.toList, byteOk c = true) (htg : ∀ t ∈ e.tags, ∀ c ∈ t.data.toList, byteOk c = true) (h : SpB (tellB e ++ s) o) : ∃ o', eventL o = some (e, o') ∧ SpB s o' := by
  have e1 : tellB e ++ s = 123 :: (qB nBody ++ 58 :: (qB e.body.data.toList ++ 44 :: (qB nKind ++ 58 :: (qB (wordB e.kind) ++ 44 :: (qB nTags ++ 58 :: (listB (tagsT e.tags) ++ 44 :: (qB nTask ++ 58 :: (qB e.task.data.toList ++ 44 :: (qB nTime ++ 58 :: (Lib.itoa e.time ++ 125 :: s)))))))))) := by
    have a1 : lit1 = 123 :: (qB nBody ++ [58]) := by decide
    have a2 : lit2 = 44 :: (qB nKind ++ [58]) := by decide
    have a3 : lit3 = 44 :: (qB nTags ++ [58]) := by decide
    have a4 : lit4 = 44 :: (qB nTask ++ [58]) := by decide
    have a5 : lit5 = 44 :: (qB nTime ++ [58]) := by decide
    rw [tellB, a1, a2, a3, a4, a5]
    simp
  rw [e1] at h
  obtain ⟨a1, a2, a3, ha1, ha2, ha3, h⟩ := SpB.name (by decide) (by decide) h
  obtain ⟨a4, ha4, h, _⟩ := SpB.quote hbd h
  obtain ⟨b1, b2, b3, hb1, hb2, hb3, h⟩ := SpB.name (by decide) (by decide) h
  obtain ⟨b4, hb4, h, _⟩ := SpB.quote (word_bytes _) h
  obtain ⟨c1, c2, c3, hc1, hc2, hc3, h⟩ := SpB.name (by decide) (by decide) h
  obtain ⟨c4, hc4, h⟩ := SpB.tags htg h
  obtain ⟨d1, d2, d3, hd1, hd2, hd3, h⟩ := SpB.name (by decide) (by decide) h
  obtain ⟨d4, hd4, h, _⟩ := SpB.quote htk h
  obtain ⟨f1, f2, f3, hf1, hf2, hf3, h⟩ := SpB.name (by decide) (by decide) h
  have ht0 := hk.t0
  have ht1 := hk.t1
  rw [Lib.itoa, if_neg (by omega)] at h
  obtain ⟨f4, hf4, h⟩ := SpB.count (n := e.time.toNat) (by omega) (by decide) h
  obtain ⟨g1, hg1, _, h⟩ := h.sign (by decide)
  have s1 := step_of (e := evZero) (e' := { evZero with body := ba e.body.data.toList }) ha1 ha2 ha3 (by rw [fieldL, if_pos rfl, ha4]; rfl)
  have s2 := step_of (e := { evZero with body := ba e.body.data.toList }) (e' := { evZero with body := ba e.body.data.toList, kind := e.kind }) hb1 hb2 hb3 (by rw [fieldL, if_neg (by decide), if_pos rfl, hb4]; simp only [Option.bind_some, kind_word hk.k1 hk.k4]; rfl)
  have s3 := step_of (e := { evZero with body := ba e.body.data.toList, kind := e.kind }) (e' := { evZero with body := ba e.body.data.toList, kind := e.kind, tags := (e.tags.map bt).map ba }) hc1 hc2 hc3 (by rw [fieldL, if_neg (by decide), if_neg (by decide), if_pos rfl, hc4]; rfl)
  have s4 := step_of (e := { evZero with body := ba e.body.data.toList, kind := e.kind, tags := (e.tags.map bt).map ba }) (e' := { evZero with body := ba e.body.data.toList, kind := e.kind, tags := (e.tags.map bt).map ba, task := ba e.task.data.toList }) hd1 hd2 hd3 (by rw [fieldL, if_neg (by decide), if_neg (by decide), if_neg (by decide), if_pos rfl, hd4]; rfl)
  have s5 := step_of (e := { evZero with body := ba e.body.data.toList, kind := e.kind, tags := (e.tags.map bt).map ba, task := ba e.task.data.toList }) (e' := { evZero with body := ba e.body.data.toList, kind := e.kind, tags := (e.tags.map bt).map ba, task := ba e.task.data.toList, time := (e.time.toNat : Int) }) hf1 hf2 hf3 (by rw [fieldL, if_neg (by decide), if_neg (by decide), if_neg (by decide), if_neg (by decide), if_pos rfl, hf4]; rfl)
  have hfin : ({ evZero with body := ba e.body.data.toList, kind := e.kind, tags := (e.tags.map bt).map ba, task := ba e.task.data.toList, time := (e.time.toNat : Int) } : Ev) = e := by
    obtain ⟨k, tk, tm, bd, ts⟩ := e
    have x1 : ba bd.data.toList = bd := ba_bt bd
    have x2 : ba tk.data.toList = tk := ba_bt tk
    have x3 : (ts.map bt).map ba = ts := (map_ba_bt rfl).symm
    have x4 : (tm.toNat : Int) = tm := by simp only at ht0; omega
    simp only [x1, x2, x3, x4]
  refine ⟨g1, ?_, h⟩
  unfold eventL
  simp only [stepsL, s1, s2, s3, s4, s5, List.nil_append]
  rw [if_pos (by decide), hg1, hfin]; rfl
end Chron
namespace Chron
open Go Go.RowKit Go.Proofs.YtdjllnhahhjgmaaGreatDoor
theorem is_parts {e : Ev} (h : isB e = true) : (∀ c ∈ e.body.data.toList, byteOk c = true) ∧ (∀ c ∈ e.task.data.toList, byteOk c = true) ∧ ∀ t ∈ e.tags, ∀ c ∈ t.data.toList, byteOk c = true := by
  simp only [isB, Bool.and_eq_true] at h
  obtain ⟨_, _, h3, _, _, h6, h7⟩ := h
  refine ⟨line_bytes h6, name_bytes h3, fun t ht => ?_⟩
  simp only [tagsB, Bool.and_eq_true, List.all_eq_true, List.mem_range] at h7
  obtain ⟨i, hi, rfl⟩ := List.getElem_of_mem ht
  have h8 := h7.2 i hi
  have h9 : nameB (e.tags[i]?.getD ByteArray.empty) = true := by
    simp only [tagOk, Bool.and_eq_true] at h8
    exact h8.1
  rw [List.getElem?_eq_getElem hi] at h9
  exact name_bytes h9
theorem SpB.told {e : Ev} {s o : List UInt8} (h : isB e = true) (hs : SpB (tellB e ++ s) o) : ∃ o', eventL o = some (e, o') ∧ SpB s o' := by
  obtain ⟨h1, h2, h3⟩ := is_parts h
  exact SpB.event (is_known h) h1 h2 h3 hs
theorem tell_first (e : Ev) (s : List UInt8) : ∃ z, tellB e ++ s = 123 :: z := ⟨_, by rw [tellB, lit1]; rfl⟩
theorem SpB.list {es : List Ev} {R o : List UInt8} (he : ∀ e ∈ es, isB e = true) (hR : R = [] ∨ ∃ s, R = 93 :: s) (h : SpB (91 :: (jn (es.map tellB) ++ R)) o) : ∃ o', listL eventL event_one o = (signL 93 o').map (fun r => (es, r)) ∧ SpB R o' := by
  obtain ⟨o1, h1, _, h2⟩ := h.sign (by decide)
  rw [listL, h1]
  simp only
  cases es with
  | nil =>
    refine ⟨o1, ?_, h2⟩
    simp only [List.map_nil, jn, List.nil_append] at h2
    rcases hR with rfl | ⟨s, rfl⟩
    · have h3 : signL 93 o1 = none := by unfold signL; rw [h2.nil]
      have h4 : eventL o1 = none := by
        have h5 : signL 123 o1 = none := by unfold signL; rw [h2.nil]
        unfold eventL
        rw [steps_mem, h5]; rfl
      rw [h3]
      simp only [items_none h4, Option.map_none]
    · obtain ⟨o2, h3, _, _⟩ := h2.sign (by decide)
      rw [h3]; rfl
  | cons e es =>
    have h93 : signL 93 o1 = none := by
      obtain ⟨z, hz⟩ := jn_cons_first (tellB e) (es.map tellB) R
      obtain ⟨y, hy⟩ := tell_first e z
      have h3 := h2
      rw [List.map_cons, hz, hy] at h3
      obtain ⟨_, _, h4, _⟩ := h3.sign (by decide)
      exact h4 93 (by decide)
    obtain ⟨o2, h3, h4⟩ := SpB.items (one := eventL) (hone := event_one) (tx := tellB) (ok := fun e => isB e = true) (R := R) (fun x c s o hx _ h => SpB.told hx h) (fun x o hx _ h => SpB.told hx h) hR (xs := es) (x := e) he h2
    exact ⟨o2, by rw [h93, h3], h4⟩
theorem SpB.all {es : List Ev} {o : List UInt8} (he : ∀ e ∈ es, isB e = true) (h : SpB (listB (es.map tellB)) o) : allL o = some es := by
  obtain ⟨o', h1, h2⟩ := SpB.list (R := [93]) he (.inr ⟨[], rfl⟩) h
  obtain ⟨o2, h3, _, h4⟩ := h2.sign (by decide)
  rw [allL, h1, h3]
  simp only [Option.map_some, h4.nil, if_true]
theorem SpB.cut {es : List Ev} {o : List UInt8} (he : ∀ e ∈ es, isB e = true) (h : SpB (91 :: jn (es.map tellB)) o) : allL o = none := by
  obtain ⟨o', h1, h2⟩ := SpB.list (R := []) he (.inl rfl) (by simpa using h)
  have h3 : signL 93 o' = none := by unfold signL; rw [h2.nil]
  rw [allL, h1, h3]; rfl
/- quotes that are shut -/
def wf : Bool → List UInt8 → Bool
  | q, [] => !q
  | false, c :: s => if c = 34 then wf true s else wf false s
  | true, [c] => if c = 34 then true else false
  | true, c :: d :: s => if c = 34 then wf false (d :: s) else if c = 92 then wf true s else wf true (d :: s)
theorem wf_shut (s : List UInt8) : wf true (34 :: s) = wf false s := by
  cases s with
  | nil => rfl
  | cons d s =>
    show (if (34 : UInt8) = 34 then wf false (d :: s) else if (34 : UInt8) = 92 then wf true s else wf true (d :: s)) = wf false (d :: s)
    rw [if_pos rfl]
theorem wf_esc (d : UInt8) (s : List UInt8) : wf true (92 :: d :: s) = wf true s := by rw [wf, if_neg (by decide), if_pos rfl]
theorem wf_in {c : UInt8} {s : List UInt8} (h1 : c ≠ 34) (h2 : c ≠ 92) : wf true (c :: s) = wf true s := by
  cases s with
  | nil => simp [wf, h1]
  | cons d s => rw [wf, if_neg h1, if_neg h2]
theorem wf_out {c : UInt8} {s : List UInt8} (h : c ≠ 34) : wf false (c :: s) = wf false s := by rw [wf, if_neg h]
theorem wf_open (s : List UInt8) : wf false (34 :: s) = wf true s := by rw [wf, if_pos rfl]
theorem wf_inQ (b s : List UInt8) : wf true (inQ b ++ 34 :: s) = wf false s := by
  induction b with
  | nil => exact wf_shut s
  | cons c b ih =>
    by_cases he : c = 34 ∨ c = 92
    · have e1 : inQ (c :: b) ++ 34 :: s = 92 :: c :: (inQ b ++ 34 :: s) := by simp [inQ, escB, he]
      rw [e1, wf_esc, ih]
    · have e1 : inQ (c :: b) ++ 34 :: s = c :: (inQ b ++ 34 :: s) := by simp [inQ, escB, he]
      rw [e1, wf_in (fun e => he (.inl e)) (fun e => he (.inr e)), ih]
theorem wf_q (b s : List UInt8) : wf false (qB b ++ s) = wf false s := by
  have e1 : qB b ++ s = 34 :: (inQ b ++ 34 :: s) := by simp [qB]
  rw [e1, wf_open, wf_inQ]
theorem wf_digits {ds s : List UInt8} (h : ∀ d ∈ ds, isDig d = true) : wf false (ds ++ s) = wf false s := by
  induction ds with
  | nil => rfl
  | cons d ds ih =>
    have h1 := h d (by simp)
    rw [List.cons_append, wf_out (by rintro rfl; simp [isDig] at h1), ih (fun x hx => h x (by simp [hx]))]
theorem wf_jn {α : Type} {tx : α → List UInt8} (h : ∀ x s, wf false (tx x ++ s) = wf false s) (xs : List α) (s : List UInt8) : wf false (jn (xs.map tx) ++ s) = wf false s := by
  have key : ∀ (xs : List α) (s : List UInt8), wf false ((xs.map tx).flatMap (fun y => 44 :: y) ++ s) = wf false s := by
    intro xs
    induction xs with
    | nil => intro s; rfl
    | cons x xs ih =>
      intro s
      simp only [List.map_cons, List.flatMap_cons, List.cons_append, List.append_assoc]
      rw [wf_out (by decide), h, ih]
  cases xs with
  | nil => rfl
  | cons x xs =>
    rw [List.map_cons, jn, List.append_assoc, h, key]
theorem wf_tell {e : Ev} (ht : 0 ≤ e.time) (s : List UInt8) : wf false (tellB e ++ s) = wf false s := by
  have l1 : lit1 = 123 :: (qB nBody ++ [58]) := by decide
  have l2 : lit2 = 44 :: (qB nKind ++ [58]) := by decide
  have l3 : lit3 = 44 :: (qB nTags ++ [58]) := by decide
  have l4 : lit4 = 44 :: (qB nTask ++ [58]) := by decide
  have l5 : lit5 = 44 :: (qB nTime ++ [58]) := by decide
  have out : ∀ (c : UInt8) (s : List UInt8), c ≠ 34 → wf false (c :: s) = wf false s := fun c s h => wf_out h
  rw [tellB, l1, l2, l3, l4, l5, Lib.itoa, if_neg (by omega), listB, tagsT_q]
  simp only [List.append_assoc, List.cons_append, List.nil_append]
  rw [out _ _ (by decide), wf_q, out _ _ (by decide), wf_q, out _ _ (by decide), wf_q, out _ _ (by decide), wf_q, out _ _ (by decide), wf_q, out _ _ (by decide), out _ _ (by decide), wf_jn (fun x s => wf_q x s), out _ _ (by decide), out _ _ (by decide), wf_q, out _ _ (by decide), wf_q, out _ _ (by decide), wf_q, out _ _ (by decide), wf_digits (digits_all _).1, out _ _ (by decide)]
theorem wf_tells {es : List Ev} (he : ∀ e ∈ es, isB e = true) (s : List UInt8) : wf false (jn (es.map tellB) ++ s) = wf false s := by
  have key : ∀ (es : List Ev) (s : List UInt8), (∀ e ∈ es, isB e = true) → wf false ((es.map tellB).flatMap (fun y => 44 :: y) ++ s) = wf false s := by
    intro es
    induction es with
    | nil => intro s _; rfl
    | cons e es ih =>
      intro s h
      simp only [List.map_cons, List.flatMap_cons, List.cons_append, List.append_assoc]
      rw [wf_out (by decide), wf_tell (is_known (h e (by simp))).t0, ih s (fun x hx => h x (by simp [hx]))]
  cases es with
  | nil => rfl
  | cons e es =>
    rw [List.map_cons, jn, List.append_assoc, wf_tell (is_known (he e (by simp))).t0, key es _ (fun x hx => he x (by simp [hx]))]
theorem wf_list {es : List Ev} (he : ∀ e ∈ es, isB e = true) : wf false (listB (es.map tellB)) = true := by
  rw [listB, wf_out (by decide), wf_tells he]; rfl
theorem sp_self : ∀ (n : Nat) (q : Bool) (s : List UInt8), s.length ≤ n → wf q s = true → Sp q s s
  | _, false, [], _, _ => .nil
  | _, true, [], _, h => by cases h
  | 0, _, c :: s, hn, _ => by simp at hn
  | n + 1, false, c :: s, hn, h => by
    have hl : s.length ≤ n := by simpa using hn
    by_cases h34 : c = 34
    · subst h34
      rw [wf_open] at h
      exact .opens _ _ (sp_self n true s hl h)
    · rw [wf_out h34] at h
      have ih := sp_self n false s hl h
      cases hs : isSign c with
      | true => exact .sign c [] [] s s hs (fun x hx => by cases hx) (fun x hx => by cases hx) ih
      | false => exact .other c s s hs h34 ih
  | n + 1, true, c :: s, hn, h => by
    have hl : s.length ≤ n := by simpa using hn
    by_cases h34 : c = 34
    · subst h34
      rw [wf_shut] at h
      exact .shuts _ _ (sp_self n false s hl h)
    · by_cases h92 : c = 92
      · subst h92
        cases s with
        | nil => simp [wf] at h
        | cons d s =>
          rw [wf_esc] at h
          exact .esc d s s (sp_self n true s (by simp at hl; omega) h)
      · rw [wf_in h34 h92] at h
        exact .plain c s s h34 h92 (sp_self n true s hl h)
theorem told_read {es : List Ev} (he : ∀ e ∈ es, isB e = true) : allL (listB (es.map tellB)) = some es := SpB.all he (sp_self _ false _ (Nat.le_refl _) (wf_list he)).b
theorem cut_none {es : List Ev} (he : ∀ e ∈ es, isB e = true) : allL (91 :: jn (es.map tellB)) = none := by
  refine SpB.cut he (sp_self _ false _ (Nat.le_refl _) ?_).b
  have h := wf_tells he []
  rw [List.append_nil] at h
  rw [wf_out (by decide), h]; rfl
end Chron
namespace Go.Proofs.YtdjllnhahhjgmaaGreatDoor
open Go.RowKit Chron
set_option maxRecDepth 100000 in
set_option maxHeartbeats 400000 in
theorem raw2_any (a : Option Addr) (n cap i : Nat) (w : World) (h : Hid (IntsAt w a n)) (_hn : n ≤ maxLen) (_hi : i ≤ 1000000) :
    Calls Tryz.prog 31 #[.slice a n cap, .int .i64 i] w fun e w' => (∃ z, e = .returned (.int .i64 z) ∧ Hid (-9223372036854775808 ≤ z)) ∧ w' = w := by
  unfold maxLen at _hn
  by_cases hlt : i < n
  · obtain ⟨b, off, z, rfl, hc, hz⟩ := h.out i hlt
    have HZ := hide0 hz
    clear hz
    go_enter Tryz.func31, Tryz.ntmps31
    go_wp2
    go_ret
    exact ⟨⟨z, rfl, HZ⟩, rfl⟩
  · go_enter Tryz.func31, Tryz.ntmps31
    go_wp2
    go_ret
    exact ⟨⟨0, rfl, by show (-9223372036854775808 : Int) ≤ 0; decide⟩, rfl⟩
theorem app_list (a b : ByteArray) : (a ++ b).data.toList = a.data.toList ++ b.data.toList := by obtain ⟨⟨a⟩⟩ := a; obtain ⟨⟨b⟩⟩ := b; simp
theorem app_size (a b : ByteArray) : (a ++ b).size = a.size + b.size := by
  have h := congrArg List.length (app_list a b)
  rw [List.length_append] at h
  exact h
def blk (i : Nat) : ByteArray := if i = 0 then ⟨#[]⟩ else if i = 1 then ⟨#[32]⟩ else if i = 2 then ⟨#[10]⟩ else ⟨#[9, 32, 13, 10]⟩
theorem blk_blank (i : Nat) : blanksL (blk i).data.toList ∧ (blk i).size ≤ 4 := by
  unfold blk blanksL
  split; · exact ⟨by decide, by decide⟩
  split; · exact ⟨by decide, by decide⟩
  split <;> exact ⟨by decide, by decide⟩
/- where spaced stands -/
def SpR (s : List UInt8) (q : Bool) (suf : List UInt8) (out : ByteArray) : Prop := wf q suf = true ∧ ∀ o, Sp q suf o → Sp false s (out.data.toList ++ o)
theorem SpR.step {s suf suf' : List UInt8} {q q' : Bool} {out x : ByteArray} (h : SpR s q suf out) (hw : wf q' suf' = true) (hx : ∀ o, Sp q' suf' o → Sp q suf (x.data.toList ++ o)) : SpR s q' suf' (out ++ x) := by
  refine ⟨hw, fun o ho => ?_⟩
  rw [app_list, List.append_assoc]
  exact h.2 _ (hx o ho)
theorem blk_cells {w wr : World} (h : Below (w.alloc (.cells #[.string (blk 0), .string (blk 1), .string (blk 2), .string (blk 3)] 9)).heap.size (w.alloc (.cells #[.string (blk 0), .string (blk 1), .string (blk 2), .string (blk 3)] 9)) wr) {i : Nat} (hi : i < 4) : wr.cell? ⟨w.heap.size, i, none⟩ = some (.string (blk i)) := by
  have hh := (h.block w.heap.size (by simp)).trans (heap_alloc_new w (.cells #[.string (blk 0), .string (blk 1), .string (blk 2), .string (blk 3)] 9))
  have h4 : i = 0 ∨ i = 1 ∨ i = 2 ∨ i = 3 := by omega
  rcases h4 with rfl | rfl | rfl | rfl <;> (simp only [World.cell?, hh]; rfl)
theorem ext_dt (s : ByteArray) (f n : Nat) : (s.extract f (f + n)).data.toList = (s.data.toList.drop f).take n := by
  simp [ByteArray.data_extract, Array.toList_extract, List.extract]
theorem ext_pre {S : ByteArray} {k j : Nat} {pre rest : List UInt8} (h : S.data.toList.drop k = pre ++ rest) (hj : pre.length = j) : ∃ X, S.extract k (k + j) = X ∧ Hid (X.data.toList = pre ∧ X.size = j) := by
  have e := ext_dt S k j
  rw [h, ← hj, List.take_left] at e
  refine ⟨_, rfl, ⟨by rw [← hj]; exact e, ?_⟩⟩
  have := congrArg List.length e
  rw [← hj]; exact this
def hexLo : ByteArray := ⟨#[48, 49, 50, 51, 52, 53, 54, 55, 56, 57, 97, 98, 99, 100, 101, 102]⟩
def hexHi : ByteArray := ⟨#[48, 49, 50, 51, 52, 53, 54, 55, 56, 57, 65, 66, 67, 68, 69, 70]⟩
theorem hex_lo : ∀ n : Fin 16, hexD (hexLo[n.val]'(n.isLt)) = some n.val := by decide
theorem hex_hi : ∀ n : Fin 16, hexD (hexHi[n.val]'(n.isLt)) = some n.val := by decide
theorem conv_two (x y : UInt8) (w X : World) (hX : X.heap[w.heap.size]? = some (.cells #[.int .u8 (x.toNat : Int), .int .u8 (y.toNat : Int)] 5)) :
    (convert 63 9 (.slice (some ⟨w.heap.size, 0, none⟩) 2 2)).run Tryz.prog X = .ok (.string ⟨#[x, y]⟩) X := by
  refine run_convert_bytes_back X _ _ 5 ⟨w.heap.size, 0, none⟩ 2 [x, y] Tryz.underlying63 Tryz.underlying5 Tryz.underlying9 ?_
  intro j hj
  have hj2 : j = 0 ∨ j = 1 := by simp at hj; omega
  rw [Go.WideShapes.add_plain]
  rcases hj2 with rfl | rfl <;> (simp only [World.cell?, hX]; rfl)
set_option maxRecDepth 100000 in
set_option maxHeartbeats 4000000 in
theorem spaced_any (S : ByteArray) (a : Option Addr) (n cap : Nat) (w : World) (h : Hid (IntsAt w a n)) (hn : n ≤ maxLen) (hs : S.size ≤ 30000) (hw : Hid (wf false S.data.toList = true)) :
    Calls Tryz.prog 13 #[.string S, .slice a n cap] w fun e w' => ∃ O : ByteArray, e = .returned (.string O) ∧ Hid (Sp false S.data.toList O.data.toList) ∧ O.size ≤ 270000 ∧ Below w.heap.size w w' := by
  have hR0 : SpR S.data.toList false S.data.toList ⟨#[]⟩ := ⟨hw.out, fun o ho => by simpa using ho⟩
  have HR0 := hide0 hR0
  clear hR0
  go_enter Tryz.func13, Tryz.ntmps13
  go_wp2_with fail
  obtain ⟨w1, HW1⟩ : ∃ w1, Hid (w1 = w.alloc (.cells #[.string (blk 0), .string (blk 1), .string (blk 2), .string (blk 3)] 9)) := ⟨_, rfl⟩
  go_loopw [6, 7, 8, 9] (fun ov qv nv iv wx => ∃ (k m : Nat) (q : Bool) (O : ByteArray), k ≤ S.size ∧ m ≤ k ∧ iv = .int .i64 k ∧ nv = .int .i64 m ∧ qv = .bool q ∧ ov = .string O ∧ O.size ≤ 9 * k ∧ Hid (SpR S.data.toList q (S.data.toList.drop k) O) ∧ Hid (Below w1.heap.size w1 wx)) (fun _ _ _ iv _ => S.size - (intOf iv).toNat)
  case atStart => exact ⟨0, 0, false, ⟨#[]⟩, Nat.zero_le _, Nat.le_refl _, rfl, rfl, rfl, rfl, by decide, HR0, by rw [HW1.out]; exact Below.refl _ _⟩
  case round =>
    obtain ⟨k, m, q, O, hk, hm, rfl, rfl, rfl, rfl, hO, HR, HW⟩ := hrel
    by_cases hlt : k < S.size
    · have hlen : k < S.data.toList.length := by simpa using hlt
      obtain ⟨c, suf, hsuf, hc⟩ : ∃ c suf, Hid (S.data.toList.drop k = c :: suf ∧ S.data.toList.drop (k + 1) = suf) ∧ S[k] = c := ⟨S.data.toList[k], S.data.toList.drop (k + 1), ⟨List.drop_eq_getElem_cons hlen, rfl⟩, rfl⟩
      rw [hsuf.out.1] at HR
      have HWw : Hid (Below w.heap.size w wr) := by
        have := HW.out
        rw [HW1.out] at this
        exact ((Below.refl _ _).alloc (Nat.le_refl _) _).trans (this.mono (by simp))
      have HI : Hid (IntsAt wr a n) := h.out.below HWw.out (Nat.le_refl _)
      have hRaw := raw2_any a n cap m wr HI hn (by omega)
      go_wp2_with fail
      refine hRaw.mono ?_
      rintro e w2 ⟨⟨z, rfl, HZ⟩, hw2⟩
      have hw3 := hw2.symm
      subst hw3
      clear hw2 hRaw
      go_wp2_with fail
      refine (pick_any z 8 _ HZ.out (by decide)).mono ?_
      rintro e w4 ⟨⟨p, rfl, hp0, hp8⟩, hw4⟩
      have hw5 := hw4.symm
      subst hw5
      clear hw4
      have HK := hk
      have hpb : p ≤ 8 := by omega
      obtain ⟨X1, hX1, HX1⟩ := ext_pre (j := 1) (pre := [c]) (rest := suf) hsuf.out.1 rfl
      have hcat1 : ¬ 9223372036854775807 < O.size + X1.size := by rw [HX1.out.2]; omega
      have hne : ∀ d : UInt8, c ≠ d → ((c.toNat : Int) == (d.toNat : Int)) = false := fun d hd => by
        rw [beq_eq_false_iff_ne]
        intro h
        exact hd (UInt8.toNat_inj.1 (by omega))
      cases q with
      | true =>
        by_cases h92 : c = 92
        · have HW92 := HR.out.1
          rw [h92] at HW92
          obtain ⟨d, suf2, rfl⟩ : ∃ d suf2, suf = d :: suf2 := by
            cases suf with
            | nil => simp [wf] at HW92
            | cons d s => exact ⟨d, s, rfl⟩
          have HD2 : Hid (S.data.toList.drop (k + 2) = suf2 ∧ k + 2 ≤ S.size) := by
            have h1 := hsuf.out.2
            have h2 := congrArg List.length h1
            simp at h2
            refine ⟨?_, by omega⟩
            have h3 := congrArg (List.drop 1) h1
            rw [List.drop_drop] at h3
            simpa using h3
          have hk2 : (k : Int) + 2 ≤ (S.size : Int) := by have := HD2.out.2; omega
          obtain ⟨X2, hX2, HX2⟩ := ext_pre (j := 2) (pre := [c, d]) (rest := suf2) hsuf.out.1 rfl
          have HN := hide0 (HR.out.step (q' := true) (suf' := suf2) (x := X2) (by rw [wf_esc] at HW92; exact HW92) (fun o ho => by rw [HX2.out.1, h92]; exact .esc d suf2 o ho))
          have hc92 : ((c.toNat : Int) == 92) = true := by rw [h92]; rfl
          have hcat2 : ¬ 9223372036854775807 < O.size + X2.size := by rw [HX2.out.2]; omega
          have HSZ : Hid ((O ++ X2).size ≤ 9 * (k + 2)) := by show _ ≤ _; rw [app_size, HX2.out.2]; omega
          rw [← HD2.out.1] at HN
          clear h92 HW92 hne
          go_wp2
          go_roundw
          case rel => exact ⟨k + 2, m + 1, true, O ++ X2, by omega, by omega, by go_num, by go_num, rfl, rfl, HSZ.out, HN, HW⟩
          case measure => simp [intOf]; omega
        · have hc92 : ((c.toNat : Int) == 92) = false := hne 92 h92
          by_cases h34 : c = 34
          · have hc34 : ((c.toNat : Int) == 34) = true := by rw [h34]; rfl
            have HN := hide0 (HR.out.step (q' := false) (suf' := suf) (x := X1) (by have := HR.out.1; rw [h34, wf_shut] at this; exact this) (fun o ho => by rw [HX1.out.1, h34]; exact .shuts suf o ho))
            have HSZ : Hid ((O ++ X1).size ≤ 9 * (k + 1)) := by show _ ≤ _; rw [app_size, HX1.out.2]; omega
            rw [← hsuf.out.2] at HN
            clear h34 h92 hne
            go_wp2
            go_roundw
            case rel => exact ⟨k + 1, m + 1, false, O ++ X1, by omega, by omega, by go_num, by go_num, rfl, rfl, HSZ.out, HN, HW⟩
            case measure => simp [intOf]; omega
          · have hc34 : ((c.toNat : Int) == 34) = false := hne 34 h34
            have hwf : wf true suf = true := by have := HR.out.1; rw [wf_in h34 h92] at this; exact this
            by_cases hhex : p = 0 ∧ 20 < k
            · obtain ⟨hp, h20⟩ := hhex
              have hg : (p == 0) = true := by simp [hp]
              have hg2 : (20 : Int) < (k : Int) := by omega
              have hc256 : c.toNat < 256 := c.toNat_lt
              obtain ⟨n1, e1, hn1⟩ : ∃ n1 : Nat, (c.toNat : Int) / 16 = (n1 : Int) ∧ Hid (n1 = c.toNat / 16 ∧ n1 < 16) := ⟨c.toNat / 16, by omega, rfl, by omega⟩
              obtain ⟨n2, e2, hn2⟩ : ∃ n2 : Nat, (c.toNat : Int) % 16 = (n2 : Int) ∧ Hid (n2 = c.toNat % 16 ∧ n2 < 16) := ⟨c.toNat % 16, by omega, rfl, by omega⟩
              obtain ⟨A, HA, hA⟩ : ∃ A : UInt8, Hid (hexD A = some n1) ∧ ∀ W, (Instr.index 9 (.string ⟨#[48, 49, 50, 51, 52, 53, 54, 55, 56, 57, 97, 98, 99, 100, 101, 102]⟩) (.int .u8 (n1 : Int))).run Tryz.prog W = .ok (.int .u8 (A.toNat : Int)) W := by
                refine ⟨hexLo[n1]'(hn1.out.2), hex_lo ⟨n1, hn1.out.2⟩, fun W => ?_⟩
                rw [run_index_string _ _ _ _ _ Tryz.underlying9, dif_pos ⟨by omega, by have := hn1.out.2; show (n1 : Int) < 16; omega⟩]
                rfl
              obtain ⟨Bb, HBb, hB⟩ : ∃ Bb : UInt8, Hid (hexD Bb = some n2) ∧ ∀ W, (Instr.index 9 (.string ⟨#[48, 49, 50, 51, 52, 53, 54, 55, 56, 57, 65, 66, 67, 68, 69, 70]⟩) (.int .u8 (n2 : Int))).run Tryz.prog W = .ok (.int .u8 (Bb.toNat : Int)) W := by
                refine ⟨hexHi[n2]'(hn2.out.2), hex_hi ⟨n2, hn2.out.2⟩, fun W => ?_⟩
                rw [run_index_string _ _ _ _ _ Tryz.underlying9, dif_pos ⟨by omega, by have := hn2.out.2; show (n2 : Int) < 16; omega⟩]
                rfl
              have hcv := conv_two A Bb wr (wr.alloc (.cells #[.int .u8 (A.toNat : Int), .int .u8 (Bb.toNat : Int)] 5)).drew (heap_alloc_new _ _)
              have HN := hide0 (HR.out.step (q' := true) (suf' := suf) (x := ⟨#[92, 117, 48, 48]⟩ ++ ⟨#[A, Bb]⟩) hwf (fun o ho => by rw [app_list]; exact .hex c A Bb suf o h34 h92 ⟨n1, n2, HA.out, HBb.out, by have := hn1.out.1; have := hn2.out.1; omega⟩ ho))
              rw [← hsuf.out.2] at HN
              have HEQ : Hid (O ++ (⟨#[92, 117, 48, 48]⟩ ++ ⟨#[A, Bb]⟩ : ByteArray) = O ++ ⟨#[92, 117, 48, 48]⟩ ++ ⟨#[A, Bb]⟩) := by
                show _ = _
                apply bytes_inj
                simp only [app_list, List.append_assoc]
              rw [HEQ.out] at HN
              have HSZ : Hid ((O ++ ⟨#[92, 117, 48, 48]⟩ ++ ⟨#[A, Bb]⟩ : ByteArray).size ≤ 9 * (k + 1)) := by show _ ≤ _; simp only [app_size]; show O.size + 4 + 2 ≤ _; omega
              have k1 : ¬ 9223372036854775807 < O.size + 4 := by omega
              have k2 : ¬ 9223372036854775807 < (O ++ ⟨#[92, 117, 48, 48]⟩ : ByteArray).size + 2 := by simp only [app_size]; show ¬ _ < O.size + 4 + 2; omega
              have hb1 : (n1 : Int) < 16 := by have := hn1.out.2; omega
              have hb2 : (n2 : Int) < 16 := by have := hn2.out.2; omega
              clear h34 h92 hne hwf hp h20 HEQ HA HBb hn1 hn2
              go_wp2_with fail
              go_region
              have HW' : Hid (Below w1.heap.size w1 (wr.alloc (.cells #[.int .u8 (A.toNat : Int), .int .u8 (Bb.toNat : Int)] 5)).drew) := (HW.out.alloc HW.out.size _).drew
              clear hcv hA hB e1 e2
              go_wp2
              go_roundw
              case rel => exact ⟨k + 1, m + 1, true, O ++ ⟨#[92, 117, 48, 48]⟩ ++ ⟨#[A, Bb]⟩, by omega, by omega, by go_num, by go_num, rfl, rfl, HSZ.out, HN, HW'⟩
              case measure => simp [intOf]; omega
            · have hgd : (p == 0) = false ∨ ((p == 0) = true ∧ ¬ (20 : Int) < (k : Int)) := by
                by_cases hp : p = 0
                · exact .inr ⟨by simp [hp], fun h => hhex ⟨hp, by omega⟩⟩
                · exact .inl (by simp [hp])
              by_cases h47 : c = 47
              · have hc47 : ((c.toNat : Int) == 47) = true := by rw [h47]; rfl
                have HN := hide0 (HR.out.step (q' := true) (suf' := suf) (x := ⟨#[92, 47]⟩) hwf (fun o ho => by rw [h47]; exact .slash suf o ho))
                have HSZ : Hid ((O ++ ⟨#[92, 47]⟩ : ByteArray).size ≤ 9 * (k + 1)) := by show _ ≤ _; rw [app_size]; show O.size + 2 ≤ _; omega
                rw [← hsuf.out.2] at HN
                clear h34 h92 hne h47 hhex hwf
                rcases hgd with hg | ⟨hg, hg2⟩
                all_goals
                  go_wp2
                  go_roundw
                  case rel => exact ⟨k + 1, m + 1, true, O ++ ⟨#[92, 47]⟩, by omega, by omega, by go_num, by go_num, rfl, rfl, HSZ.out, HN, HW⟩
                  case measure => simp [intOf]; omega
              · have hc47 : ((c.toNat : Int) == 47) = false := hne 47 h47
                have HN := hide0 (HR.out.step (q' := true) (suf' := suf) (x := X1) hwf (fun o ho => by rw [HX1.out.1]; exact .plain c suf o h34 h92 ho))
                have HSZ : Hid ((O ++ X1).size ≤ 9 * (k + 1)) := by show _ ≤ _; rw [app_size, HX1.out.2]; omega
                rw [← hsuf.out.2] at HN
                clear h34 h92 hne h47 hhex hwf
                rcases hgd with hg | ⟨hg, hg2⟩
                all_goals
                  go_wp2
                  go_roundw
                  case rel => exact ⟨k + 1, m + 1, true, O ++ X1, by omega, by omega, by go_num, by go_num, rfl, rfl, HSZ.out, HN, HW⟩
                  case measure => simp [intOf]; omega
      | false =>
        by_cases h34 : c = 34
        · have hc34 : ((c.toNat : Int) == 34) = true := by rw [h34]; rfl
          have HN := hide0 (HR.out.step (q' := true) (suf' := suf) (x := X1) (by have := HR.out.1; rw [h34, wf_open] at this; exact this) (fun o ho => by rw [HX1.out.1, h34]; exact .opens suf o ho))
          have HSZ : Hid ((O ++ X1).size ≤ 9 * (k + 1)) := by show _ ≤ _; rw [app_size, HX1.out.2]; omega
          rw [← hsuf.out.2] at HN
          clear h34 hne
          go_wp2
          go_roundw
          case rel => exact ⟨k + 1, m + 1, true, O ++ X1, by omega, by omega, by go_num, by go_num, rfl, rfl, HSZ.out, HN, HW⟩
          case measure => simp [intOf]; omega
        · have hc34 : ((c.toNat : Int) == 34) = false := hne 34 h34
          have hwf : wf false suf = true := by have := HR.out.1; rw [wf_out h34] at this; exact this
          cases hsg : isSign c with
          | true =>
            obtain ⟨j1, e1, hj1⟩ : ∃ j1 : Nat, p % 4 = (j1 : Int) ∧ j1 < 4 := ⟨(p % 4).toNat, by omega, by omega⟩
            obtain ⟨j2, e2, hj2⟩ : ∃ j2 : Nat, p / 2 = (j2 : Int) ∧ j2 < 4 := ⟨(p / 2).toNat, by omega, by omega⟩
            have hW2 := HW.out
            rw [HW1.out] at hW2
            have b1 := blk_cells hW2 hj1
            have b2 := blk_cells hW2 hj2
            clear hW2
            have HN := hide0 (HR.out.step (q' := false) (suf' := suf) (x := blk j1 ++ X1 ++ blk j2) hwf (fun o ho => by rw [app_list, app_list, HX1.out.1]; simpa using Sp.sign c (blk j1).data.toList (blk j2).data.toList suf o hsg (blk_blank j1).1 (blk_blank j2).1 ho))
            rw [← hsuf.out.2] at HN
            have hs1 := (blk_blank j1).2
            have hs2 := (blk_blank j2).2
            have HEQ : Hid (O ++ (blk j1 ++ X1 ++ blk j2) = O ++ blk j1 ++ X1 ++ blk j2) := by
              show _ = _
              apply bytes_inj
              simp only [app_list, List.append_assoc]
            rw [HEQ.out] at HN
            have HSZ : Hid ((O ++ blk j1 ++ X1 ++ blk j2).size ≤ 9 * (k + 1)) := by show _ ≤ _; simp only [app_size, HX1.out.2]; omega
            have k1 : ¬ 9223372036854775807 < O.size + (blk j1).size := by omega
            have k2 : ¬ 9223372036854775807 < (O ++ blk j1).size + X1.size := by simp only [app_size, HX1.out.2]; omega
            have k3 : ¬ 9223372036854775807 < (O ++ blk j1 ++ X1).size + (blk j2).size := by simp only [app_size, HX1.out.2]; omega
            have hcs : c = 44 ∨ c = 58 ∨ c = 91 ∨ c = 93 ∨ c = 123 ∨ c = 125 := by
              simp only [isSign, Bool.or_eq_true, beq_iff_eq] at hsg
              rcases hsg with ((((h | h) | h) | h) | h) | h <;> simp [h]
            generalize blk j1 = B1 at b1 HN HSZ k1 k2 k3
            generalize blk j2 = B2 at b2 HN HSZ k3
            clear h34 hne hwf hsg hs1 hs2 HEQ hc34 HR hsuf HX1
            rcases hcs with rfl | rfl | rfl | rfl | rfl | rfl
            all_goals
              go_wp2_with fail
              go_quiet (fail)
              have HW' := hide0 (show Below w1.heap.size w1 (wr.drewN nq) from ⟨HW.out.os, HW.out.tape, HW.out.output, HW.out.size, HW.out.block⟩)
              go_wp2
              go_roundw
              case rel => exact ⟨k + 1, m + 1, false, O ++ B1 ++ X1 ++ B2, by omega, by omega, by go_num, by go_num, rfl, rfl, HSZ.out, HN, HW'⟩
              case measure => simp [intOf]; omega
          | false =>
            have HN := hide0 (HR.out.step (q' := false) (suf' := suf) (x := X1) hwf (fun o ho => by rw [HX1.out.1]; exact .other c suf o hsg h34 ho))
            have HSZ : Hid ((O ++ X1).size ≤ 9 * (k + 1)) := by show _ ≤ _; rw [app_size, HX1.out.2]; omega
            rw [← hsuf.out.2] at HN
            simp only [isSign, Bool.or_eq_false_iff, beq_eq_false_iff_ne] at hsg
            obtain ⟨⟨⟨⟨⟨g1, g2⟩, g3⟩, g4⟩, g5⟩, g6⟩ := hsg
            have j1 : ((c.toNat : Int) == 44) = false := hne 44 g1
            have j2 : ((c.toNat : Int) == 58) = false := hne 58 g2
            have j3 : ((c.toNat : Int) == 91) = false := hne 91 g3
            have j4 : ((c.toNat : Int) == 93) = false := hne 93 g4
            have j5 : ((c.toNat : Int) == 123) = false := hne 123 g5
            have j6 : ((c.toNat : Int) == 125) = false := hne 125 g6
            clear h34 hne hwf g1 g2 g3 g4 g5 g6
            go_wp2
            go_roundw
            case rel => exact ⟨k + 1, m + 1, false, O ++ X1, by omega, by omega, by go_num, by go_num, rfl, rfl, HSZ.out, HN, HW⟩
            case measure => simp [intOf]; omega
    · have hkn : k = S.size := by omega
      have HF : Hid (Sp false S.data.toList O.data.toList) := by
        have h1 := HR.out
        rw [List.drop_eq_nil_of_le (by simp; omega)] at h1
        cases q with
        | true => have := h1.1; simp [wf] at this
        | false => have := h1.2 [] .nil; show Sp _ _ _; simpa using this
      have HB : Hid (Below w.heap.size w wr) := by
        have := HW.out
        rw [HW1.out] at this
        exact ((Below.refl _ _).alloc (Nat.le_refl _) _).trans (this.mono (by simp))
      go_wp2
      go_ret
      exact ⟨O, rfl, HF, by omega, HB.out⟩
end Go.Proofs.YtdjllnhahhjgmaaGreatDoor
