/- Walks and plain facts, in the order in which they lean on one another. -/
import Derived.Test.YtdjllnhahhjgmaaGreatW07
import Derived.Test.YtdjllnhahhjgmaaGreatW05
import Derived.Test.YtdjllnhahhjgmaaGreatW04
import Derived.Deep.QuietTactic
import Derived.BigQuiet
import Derived.Test.YtdjllnhahhjgmaaGreatW06
namespace Go.Proofs.YtdjllnhahhjgmaaGreat
open Go.RowKit Chron
theorem infoEvent5 : (Tryz.prog.info? 38).map (fun i => (i.zero, i.size, i.bytes)) = some (some (.agg #[.int .i64 0, .string ⟨#[]⟩, .int .i64 0, .string ⟨#[]⟩, .slice none 0 0]), 5, 72) := by kernel_rfl
def Item.five (i : Item) : List Value := [.int .i64 i.ev.kind, .string i.ev.task, .int .i64 i.ev.time, .string i.ev.body, .slice i.at' i.ev.tags.length i.cap]
def fives (l : List Item) : List Value := l.flatMap Item.five
theorem fives_len (l : List Item) : (fives l).length = l.length * 5 := by
  induction l with
  | nil => rfl
  | cons x l ih => simp only [fives, List.flatMap_cons, List.length_append, List.length_cons] at *; rw [ih]; simp [Item.five]; omega
theorem fives_at {l : List Item} {k : Nat} {i : Item} (h : l[k]? = some i) {j : Nat} (hj : j < 5) : (fives l)[k * 5 + j]? = i.five[j]? := by
  induction l generalizing k with
  | nil => simp at h
  | cons x l ih =>
    cases k with
    | zero =>
      simp only [List.getElem?_cons_zero, Option.some.injEq] at h
      subst h
      simp only [fives, List.flatMap_cons, Nat.zero_mul, Nat.zero_add]
      rw [List.getElem?_append_left (by simpa [Item.five] using hj)]
    | succ k =>
      simp only [List.getElem?_cons_succ] at h
      have := ih h
      simp only [fives, List.flatMap_cons]
      rw [List.getElem?_append_right (by simp [Item.five]; omega)]
      have e : (k + 1) * 5 + j - x.five.length = k * 5 + j := by simp [Item.five]; omega
      rw [e]; exact this
/- a list of events that a call has made: a row of its own, and each one's tags apart from it -/
structure Made (N : Nat) (w : World) (lv : Value) (its : List Item) : Prop where
  row : w.ownsRow N 38 5 lv its.length (fives its)
  tags : ∀ it ∈ its, TagsAt w it.at' it.ev.tags ∧ ∀ a, it.at' = some a → lv.ownBlock ≠ some a.block ∧ a.block < w.heap.size
theorem Made.nil (N : Nat) (w : World) : Made N w (.slice none 0 0) [] := ⟨World.ownsRow_nil _ _ _ _, fun it h => by cases h⟩
theorem Made.more {N : Nat} {w w' : World} {lv : Value} {its : List Item} (h : Made N w lv its) (hb : Below w.heap.size w w') : Made N w' lv its :=
  ⟨own_below h.row hb, fun it hi => ⟨(h.tags it hi).1.below hb (Nat.le_refl _), fun a ha => ⟨((h.tags it hi).2 a ha).1, Nat.lt_of_lt_of_le ((h.tags it hi).2 a ha).2 hb.size⟩⟩⟩
theorem Made.push {N : Nat} {w wa : World} {lv : Value} {its : List Item} {o : Obj} {g cap : Nat} {i : Item} (h : Made N w lv its) (hi : TagsAt w i.at' i.ev.tags) (ha : ∀ a, i.at' = some a → lv.ownBlock ≠ some a.block ∧ a.block < w.heap.size)
    (hg : (w.alloc o).grownBy wa lv.ownBlock) (hown : wa.ownsRow N 38 5 (.slice (some ⟨g, 0, none⟩) (its.length + 1) cap) (its.length + 1) (fives its ++ i.five)) (hat : lv.ownBlock = some g ∨ g = (w.alloc o).heap.size) :
    Made N wa (.slice (some ⟨g, 0, none⟩) (its.length + 1) cap) (its ++ [i]) := by
  have hs := hg.size
  rw [World.size_alloc] at hs
  have key : ∀ x : Item, TagsAt w x.at' x.ev.tags → (∀ a, x.at' = some a → lv.ownBlock ≠ some a.block ∧ a.block < w.heap.size) → TagsAt wa x.at' x.ev.tags ∧ ∀ a, x.at' = some a → (Value.slice (some ⟨g, 0, none⟩) (its.length + 1) cap).ownBlock ≠ some a.block ∧ a.block < wa.heap.size := by
    intro x hx hxa
    refine ⟨fun h0 => ?_, fun a ha => ?_⟩
    · obtain ⟨b, off, hb, hc⟩ := hx h0
      refine ⟨b, off, hb, fun k hk => ?_⟩
      obtain ⟨h1, h2⟩ := hxa _ hb
      have hblk : wa.heap[b]? = w.heap[b]? := by
        rw [hg.block b (by rw [World.size_alloc]; simp only at h2; omega) (fun e => h1 e.symm), Below.heap_alloc _ _ _ h2]
      rw [← hc k hk]
      simp [World.cell?, hblk]
    · obtain ⟨h1, h2⟩ := hxa a ha
      refine ⟨?_, by omega⟩
      simp only [Value.ownBlock, ne_eq, Option.some.injEq]
      rcases hat with e | e
      · rintro rfl; exact h1 e
      · rw [World.size_alloc] at e; omega
  refine ⟨?_, fun x hx => ?_⟩
  · have e : fives (its ++ [i]) = fives its ++ i.five := by simp [fives]
    rw [e]
    simpa using hown
  · rcases List.mem_append.1 hx with hx | hx
    · exact key x (h.tags x hx).1 (h.tags x hx).2
    · simp only [List.mem_singleton] at hx
      rw [hx]; exact key i hi ha
theorem Made.evs {N : Nat} {w : World} {lv : Value} {its : List Item} (h : Made N w lv its) (hf : ∀ it ∈ its, Few 1048576 it.ev) : ∃ a cap, lv = .slice a its.length cap ∧ EvsAt w a its := by
  have key : ∀ it ∈ its, ItemOk w it := fun it hi => by
    have f := hf it hi
    refine ⟨(h.tags it hi).1, fun k hk => ?_, by have := f.tags; omega, by have := f.task; unfold maxLen; omega, by have := f.body; unfold maxLen; omega⟩
    rw [List.getElem?_eq_getElem hk]
    have := f.each _ (List.getElem_mem hk)
    simp only [Option.getD_some]
    unfold maxLen
    omega
  rcases h.row.2 with ⟨h1, h2⟩ | ⟨g, cap, cur, hv, _, hg, _, _, _, hx⟩
  · rw [h1]
    refine ⟨none, 0, by rw [h2], fun h0 => by omega⟩
  · refine ⟨some ⟨g, 0, none⟩, cap, hv, fun _ => ⟨g, 0, rfl, fun k i hk => ⟨?_, key i (List.mem_of_getElem? hk)⟩⟩⟩
    have hc : ∀ j, j < 5 → w.cell? ⟨g, 0 + k * 5 + j, none⟩ = i.five[j]? := fun j hj => by
      have h5 := fives_at hk hj
      rw [← hx] at h5
      have hkl := (List.getElem?_eq_some_iff.1 hk).1
      have hlt : k * 5 + j < its.length * 5 := by
        have : (k + 1) * 5 ≤ its.length * 5 := Nat.mul_le_mul_right _ hkl
        omega
      rw [List.getElem?_take_of_lt hlt] at h5
      rw [Nat.zero_add]
      simpa [World.cell?, hg] using h5
    exact ⟨hc 0 (by omega), hc 1 (by omega), hc 2 (by omega), hc 3 (by omega), hc 4 (by omega)⟩
end Go.Proofs.YtdjllnhahhjgmaaGreat
namespace Go.Proofs.YtdjllnhahhjgmaaGreat
open Go.RowKit Chron
def caps (l : List Item) : List Ev := l.map fun i => capE i.ev
/- what is left of the reading of a list: a place for the next thing, or one behind the list -/
def restL (q eo : Option (List UInt8)) : Option (List Ev × List UInt8) :=
  match eo with
  | some r => some ([], r)
  | none => match q with
    | some t => itemsL eventL event_one t
    | none => none
def AllR (s : ByteArray) (w : World) (N : Nat) (lv : Value) (ok : Bool) : Prop :=
  match allL s.data.toList with
  | some es => ok = true ∧ ∃ its, Made N w lv its ∧ caps its = es ∧ ∀ it ∈ its, Few 1048576 it.ev
  | none => ok = false
structure Sofar (s : ByteArray) (acc : List Item) (q eo : Option (List UInt8)) : Prop where
  goal : listL eventL event_one s.data.toList = (restL q eo).map fun x => (caps acc ++ x.1, x.2)
  few : (q = none ∧ eo = none) ∨ ∀ it ∈ acc, Few 1048576 it.ev
  sq : ∀ r, q = some r → Suf s r
  se : ∀ r, eo = some r → Suf s r
  len : ∀ t, q = some t → acc.length + t.length ≤ s.size
theorem few_cap {n : Nat} {E : Ev} (h : Few n (capE E)) : Few n E := ⟨h.tags, h.each, h.task, h.body⟩
theorem few_mono {n m : Nat} {E : Ev} (h : Few n E) (hm : n ≤ m) : Few m E := ⟨Nat.le_trans h.tags hm, fun t ht => Nat.le_trans (h.each t ht) hm, Nat.le_trans h.task hm, Nat.le_trans h.body hm⟩
theorem Sofar.start (s : ByteArray) : Sofar s [] (signL 91 s.data.toList) ((signL 91 s.data.toList).bind (signL 93)) := by
  refine ⟨?_, .inr (fun it h => by cases h), fun r h => (sign_suf h).1, fun r h => ?_, fun t h => ?_⟩
  · unfold listL restL
    cases h1 : signL 91 s.data.toList with
    | none => rfl
    | some r =>
      simp only [Option.bind_some]
      cases h2 : signL 93 r with
      | none => simp [caps]
      | some r2 => rfl
  · cases h1 : signL 91 s.data.toList with
    | none => rw [h1] at h; cases h
    | some r0 => rw [h1] at h; exact (sign_suf h).1.trans (sign_suf h1).1
  · have := (sign_suf h).2
    simp only [List.length_nil]
    have e : s.data.toList.length = s.size := by simp
    omega
/- the place behind an event -/
def nextO (t : List UInt8) : Option (List UInt8) := (eventL t).map (·.2)
theorem Sofar.step {s : ByteArray} {acc : List Item} {t : List UInt8} {i : Item} {p : Int} (h : Sofar s acc (some t) none) (hs : s.size ≤ 1048576) (hE : EvR s (some t) i.ev p) :
    p = pos s (nextO t) ∧ (∀ r, nextO t = some r → Suf s r) ∧ Sofar s (acc ++ [i]) ((nextO t).bind (signL 44)) ((nextO t).bind (signL 93)) := by
  unfold EvR at hE
  simp only [Option.bind_some] at hE
  have hst := h.sq t rfl
  have hfew : ∀ it ∈ acc, Few 1048576 it.ev := by
    rcases h.few with ⟨h1, _⟩ | h1
    · cases h1
    · exact h1
  cases he : eventL t with
  | none =>
    rw [he] at hE
    have hn : nextO t = none := by unfold nextO; rw [he]; rfl
    refine ⟨by rw [hn]; exact hE, (fun r hr => by rw [hn] at hr; cases hr), ?_⟩
    rw [hn]
    refine ⟨?_, .inl ⟨rfl, rfl⟩, (fun r hr => by cases hr), (fun r hr => by cases hr), (fun r hr => by cases hr)⟩
    rw [h.goal]
    simp only [restL, items_none he, Option.bind_none, Option.map_none]
  | some x =>
    obtain ⟨e', r⟩ := x
    rw [he] at hE
    obtain ⟨h1, h2, h3⟩ := hE
    have hn : nextO t = some r := by unfold nextO; rw [he]; rfl
    have hlt := (event_suf he).2
    have hci : caps (acc ++ [i]) = caps acc ++ [e'] := by simp [caps, h1]
    have hfi : Few 1048576 i.ev := by
      have f := event_few he
      rw [← h1] at f
      exact few_mono (few_cap f) (by have := hst.le; omega)
    have hl := h.len t rfl
    refine ⟨by rw [hn]; exact h2, fun y hy => by rw [hn] at hy; rw [← Option.some.inj hy]; exact h3, ?_⟩
    rw [hn]
    simp only [Option.bind_some]
    refine ⟨?_, .inr ?_, fun y hy => h3.trans (sign_suf hy).1, fun y hy => h3.trans (sign_suf hy).1, fun y hy => ?_⟩
    · rw [h.goal, hci]
      cases h44 : signL 44 r with
      | some r2 =>
        have h93 := sign_other (d := 93) h44 (by decide)
        simp only [restL, h93, items_more he h44, Option.map_map]
        congr 1
        funext y
        simp
      | none =>
        simp only [restL, items_last he h44]
        cases h93 : signL 93 r with
        | none => rfl
        | some r3 => simp
    · intro it hit
      rcases List.mem_append.1 hit with hit | hit
      · exact hfew it hit
      · simp only [List.mem_singleton] at hit; rw [hit]; exact hfi
    · have := (sign_suf hy).2
      simp only [List.length_append, List.length_singleton]
      omega
theorem Sofar.done {s : ByteArray} {w : World} {N : Nat} {lv : Value} {acc : List Item} {q eo : Option (List UInt8)} (h : Sofar s acc q eo) (hd : q = none ∨ eo ≠ none) (hm : Made N w lv acc) :
    AllR s w N lv (match eo with | some r => decide (skipL r = []) | none => false) := by
  unfold AllR allL
  rw [h.goal]
  cases eo with
  | none =>
    rcases hd with hd | hd
    · subst hd; rfl
    · exact absurd rfl hd
  | some r =>
    have hfew : ∀ it ∈ acc, Few 1048576 it.ev := by
      rcases h.few with ⟨_, h1⟩ | h1
      · cases h1
      · exact h1
    simp only [restL, Option.map_some, List.append_nil]
    by_cases hr : skipL r = []
    · simp only [hr, if_true, decide_true]
      exact ⟨trivial, acc, hm, rfl, hfew⟩
    · simp [hr]
theorem five_new (X : World) (i : Item) : ∀ j u, i.five[j]? = some u → (X.alloc (.cells #[.int .i64 i.ev.kind, .string i.ev.task, .int .i64 i.ev.time, .string i.ev.body, .slice i.at' i.ev.tags.length i.cap] 38)).cell? ((⟨X.heap.size, 0, none⟩ : Addr).add j) = some u := by
  intro j u hj
  have hh := heap_alloc_new X (.cells #[.int .i64 i.ev.kind, .string i.ev.task, .int .i64 i.ev.time, .string i.ev.body, .slice i.at' i.ev.tags.length i.cap] 38)
  rw [Go.WideShapes.add_plain]
  simp only [World.cell?, hh, Nat.zero_add]
  simpa [Item.five] using hj
theorem five_one (i : Item) : ∀ u ∈ i.five, u.oneCell' = true := by
  intro u hu
  simp only [Item.five, List.mem_cons, List.mem_nil_iff, or_false] at hu
  rcases hu with rfl | rfl | rfl | rfl | rfl <;> rfl
end Go.Proofs.YtdjllnhahhjgmaaGreat
namespace Go.Proofs.YtdjllnhahhjgmaaGreat
open Go.RowKit Chron
def Item.tv (i : Item) : Value := .slice i.at' i.ev.tags.length i.cap
def tagBs (its : List Item) : List Nat := its.filterMap fun i => i.tv.ownBlock
structure MadeO (N : Nat) (w : World) (lv : Value) (its : List Item) : Prop where
  row : w.ownsRow N 38 5 lv its.length (fives its)
  tags : ∀ it ∈ its, w.ownsRow N 9 1 it.tv it.ev.tags.length (it.ev.tags.map Value.string)
  apart : ∀ q ∈ tagBs its, lv.ownBlock ≠ some q
  dist : (tagBs its).Nodup
theorem tagBs_mem {its : List Item} {q : Nat} : q ∈ tagBs its ↔ ∃ it ∈ its, it.tv.ownBlock = some q := by simp [tagBs, List.mem_filterMap]
theorem MadeO.nil (N : Nat) (w : World) : MadeO N w (.slice none 0 0) [] := ⟨World.ownsRow_nil _ _ _ _, fun it h => (by cases h), fun q h => (by cases h), List.nodup_nil⟩
theorem MadeO.keep {N : Nat} {w w' : World} {lv : Value} {its : List Item} (h : MadeO N w lv its) (hb : ∀ q, N ≤ q → q < w.heap.size → w'.heap[q]? = w.heap[q]?) : MadeO N w' lv its :=
  ⟨own_of_block h.row fun q hq => hb q (h.row.lt _ hq).1 (h.row.lt _ hq).2, fun it hi => own_of_block (h.tags it hi) fun q hq => hb q ((h.tags it hi).lt _ hq).1 ((h.tags it hi).lt _ hq).2, h.apart, h.dist⟩
theorem MadeO.far {N R : Nat} {w w' : World} {lv : Value} {its : List Item} (h : MadeO N w lv its) (hf : Far w w' [some R]) (hR : R < N) : MadeO N w' lv its :=
  h.keep fun q h1 h2 => hf.block q h2 (by simp; omega)
theorem MadeO.alloc {N : Nat} {w : World} {lv : Value} {its : List Item} (h : MadeO N w lv its) (o : Obj) : MadeO N (w.alloc o) lv its :=
  h.keep fun _ _ h2 => Below.heap_alloc _ _ _ h2
theorem MadeO.tag_lt {N : Nat} {w : World} {lv : Value} {its : List Item} (h : MadeO N w lv its) {q : Nat} (hq : q ∈ tagBs its) : N ≤ q ∧ q < w.heap.size := by
  obtain ⟨it, hi, hb⟩ := tagBs_mem.1 hq
  exact (h.tags it hi).lt _ hb
theorem MadeO.push {N : Nat} {w wa : World} {lv : Value} {its : List Item} {o : Obj} {g cap M : Nat} {i : Item} (h : MadeO N w lv its) (hi : w.ownsRow M 9 1 i.tv i.ev.tags.length (i.ev.tags.map Value.string)) (hM : N ≤ M) (hlv : ∀ q, lv.ownBlock = some q → q < M) (hts : ∀ q ∈ tagBs its, q < M)
    (hg : (w.alloc o).grownBy wa lv.ownBlock) (hown : wa.ownsRow N 38 5 (.slice (some ⟨g, 0, none⟩) (its.length + 1) cap) (its.length + 1) (fives its ++ i.five)) (hat : lv.ownBlock = some g ∨ g = (w.alloc o).heap.size) :
    MadeO N wa (.slice (some ⟨g, 0, none⟩) (its.length + 1) cap) (its ++ [i]) := by
  have hs := hg.size
  rw [World.size_alloc] at hs
  have key : ∀ q, q < w.heap.size → lv.ownBlock ≠ some q → wa.heap[q]? = w.heap[q]? := fun q hq hne => by
    rw [hg.block q (by rw [World.size_alloc]; omega) (fun e => hne e.symm), Below.heap_alloc _ _ _ hq]
  have hlvi : ∀ q, i.tv.ownBlock = some q → lv.ownBlock ≠ some q := fun q hq e => by have := hlv q e; have := (hi.lt _ hq).1; omega
  have hbs : tagBs (its ++ [i]) = tagBs its ++ tagBs [i] := by simp [tagBs, List.filterMap_append]
  have hone : ∀ q, q ∈ tagBs [i] ↔ i.tv.ownBlock = some q := fun q => by rw [tagBs_mem]; simp
  refine ⟨?_, fun x hx => ?_, fun q hq => ?_, ?_⟩
  · have e : fives (its ++ [i]) = fives its ++ i.five := by simp [fives]
    rw [e]; simpa using hown
  · rcases List.mem_append.1 hx with hx | hx
    · exact own_of_block (h.tags x hx) fun q hq => key q ((h.tags x hx).lt _ hq).2 (h.apart q (tagBs_mem.2 ⟨x, hx, hq⟩))
    · simp only [List.mem_singleton] at hx
      rw [hx]
      exact own_mono (own_of_block hi fun q hq => key q (hi.lt _ hq).2 (hlvi q hq)) hM
  · rw [hbs, List.mem_append, hone] at hq
    have hne : lv.ownBlock ≠ some q ∧ q < w.heap.size := by
      rcases hq with hq | hq
      · exact ⟨h.apart q hq, (h.tag_lt hq).2⟩
      · exact ⟨hlvi q hq, (hi.lt _ hq).2⟩
    simp only [Value.ownBlock, ne_eq, Option.some.injEq]
    rcases hat with e | e
    · rintro rfl; exact hne.1 e
    · rw [World.size_alloc] at e; omega
  · rw [hbs, List.nodup_append]
    refine ⟨h.dist, ?_, ?_⟩
    · simp only [tagBs, List.filterMap_cons, List.filterMap_nil]
      split <;> simp
    · intro a ha b hb
      rw [hone] at hb
      have := hts a ha
      have := (hi.lt _ hb).1
      omega
theorem MadeO.made {N : Nat} {w : World} {lv : Value} {its : List Item} (h : MadeO N w lv its) : Made N w lv its := by
  refine ⟨h.row, fun it hi => ?_⟩
  have ho := h.tags it hi
  obtain ⟨a, cap, hv, ht⟩ := own_tags ho
  have e1 : it.at' = a := by
    have := hv
    simp only [Item.tv, Value.slice.injEq] at this
    exact this.1
  refine ⟨by rw [e1]; exact ht, fun b hb => ?_⟩
  have hq : it.tv.ownBlock = some b.block := by simp only [Item.tv, hb, Value.ownBlock]
  exact ⟨h.apart _ (tagBs_mem.2 ⟨it, hi, hq⟩), (ho.lt _ hq).2⟩
theorem event_skip (l : List UInt8) : eventL (skipL l) = eventL l := by
  unfold eventL
  rw [steps_mem, steps_mem, sign_skip]
def ie (i : Item) : Ev := i.ev
end Go.Proofs.YtdjllnhahhjgmaaGreat
namespace Go.Proofs.YtdjllnhahhjgmaaGreat
open Go.RowKit Chron
theorem MadeO.lts {N : Nat} {w : World} {lv : Value} {its : List Item} (h : MadeO N w lv its) : (∀ q, lv.ownBlock = some q → q < w.heap.size) ∧ ∀ q ∈ tagBs its, q < w.heap.size := ⟨fun q hq => (h.row.lt q hq).2, fun _ hq => (h.tag_lt hq).2⟩
theorem len_event (l : List UInt8) : (stL (oneR (eventL l))).length ≤ l.length := by
  cases hq : eventL l with
  | none => simp [oneR, stL]
  | some p => have := (event_suf (e := p.1) (r := p.2) hq).2; simp only [oneR, Option.map_some, stL]; omega
theorem take_len {c : UInt8} {l : List UInt8} (h : signL c l = none) : (takeL c l).length ≤ l.length := by rw [take_skip h]; exact (skip_suf l).length_le
end Go.Proofs.YtdjllnhahhjgmaaGreat
namespace Go.Proofs.YtdjllnhahhjgmaaGreat
open Go.RowKit Chron
theorem isB_cap (e : Ev) : isB (capE e) = isB e := by
  unfold isB capE
  simp only
  rw [Bool.eq_iff_iff]
  simp only [Bool.and_eq_true, decide_eq_true_eq]
  constructor
  · rintro ⟨h1, h2, h3, h4, h5, h6⟩; exact ⟨h1, h2, h3, by omega, by omega, h6⟩
  · rintro ⟨h1, h2, h3, h4, h5, h6⟩; exact ⟨h1, h2, h3, by omega, by omega, h6⟩
theorem cap_same {e : Ev} (h : isB e = true) : capE e = e := by
  have := (is_known h).t1
  obtain ⟨a, b, c, d, f⟩ := e
  simp only [capE, Ev.mk.injEq, true_and, and_true]
  simp only at this
  omega
theorem caps_bad (l : List Item) : (caps l).all isB = (evs l).all isB := by
  induction l with
  | nil => rfl
  | cons x l ih => simp only [caps, evs, List.map_cons, List.all_cons, isB_cap] at *; rw [ih]
theorem caps_exp (l : List Item) : (expB (caps l)).2 = (expB (evs l)).2 := by
  unfold expB
  have e : (caps l).length = (evs l).length := by simp [caps, evs]
  rw [e, caps_bad]
  split
  · rfl
  · split <;> rfl
theorem caps_evs {l : List Item} (h : (expB (evs l)).2 = 0) : caps l = evs l := by
  unfold expB at h
  split at h
  · simp at h
  · split at h
    · rename_i hall
      rw [List.all_eq_true] at hall
      unfold caps evs at *
      apply List.map_congr_left
      intro x hx
      exact cap_same (hall _ (List.mem_map.2 ⟨x, hx, rfl⟩))
    · simp at h
theorem all_len {l : List UInt8} {es : List Ev} (h : allL l = some es) : es.length ≤ l.length := by
  unfold allL at h
  split at h
  · cases h
  · rename_i es' r hl
    split at h
    · simp only [Option.some.injEq] at h
      rw [← h]
      exact (list_suf (fun l x r h => (event_suf h).1) hl).2.2
    · cases h
def ImpR (L : List UInt8) (w : World) (lv : Value) : Prop := ∃ a cap its, lv = .slice a its.length cap ∧ EvsAt w a its ∧ evs its = (impB L).1 ∧ its.length ≤ 200
theorem ImpR.nil {L : List UInt8} {w : World} (h : (impB L).1 = []) : ImpR L w (.slice none 0 0) := ⟨none, 0, [], rfl, (fun h0 => by simp at h0), by rw [h]; rfl, by simp⟩
end Go.Proofs.YtdjllnhahhjgmaaGreat
namespace Go.Proofs.YtdjllnhahhjgmaaGreat
open Go.RowKit Chron
theorem few_weak {n m : Nat} {e : Ev} (h : Few n e) (hm : n ≤ m) : Few m e := ⟨Nat.le_trans h.tags hm, fun t ht => Nat.le_trans (h.each t ht) hm, Nat.le_trans h.task hm, Nat.le_trans h.body hm⟩
theorem items_few : ∀ (n : Nat) {l r : List UInt8} {xs : List Ev}, l.length ≤ n → itemsL eventL event_one l = some (xs, r) → ∀ x ∈ xs, Few n x
  | n, l, r, xs, hn, h => by
    cases ho : eventL l with
    | none => rw [items_none ho] at h; cases h
    | some p =>
      obtain ⟨x, r0⟩ := p
      have h0 := (event_suf ho).2
      have f0 := few_weak (event_few ho) hn
      cases hs : signL 44 r0 with
      | none =>
        rw [items_last ho hs] at h
        cases h3 : signL 93 r0 with
        | none => rw [h3] at h; cases h
        | some r3 =>
          rw [h3] at h
          simp only [Option.map_some, Option.some.injEq, Prod.mk.injEq] at h
          obtain ⟨rfl, rfl⟩ := h
          intro y hy
          simp only [List.mem_singleton] at hy
          rw [hy]; exact f0
      | some r2 =>
        rw [items_more ho hs] at h
        have hl2 := (sign_suf hs).2
        cases hi : itemsL eventL event_one r2 with
        | none => rw [hi] at h; cases h
        | some q =>
          obtain ⟨ys, r3⟩ := q
          rw [hi] at h
          simp only [Option.map_some, Option.some.injEq, Prod.mk.injEq] at h
          obtain ⟨rfl, rfl⟩ := h
          match n, hn with
          | 0, hn => omega
          | n + 1, hn =>
            have ih := items_few n (by omega) hi
            intro y hy
            rcases List.mem_cons.1 hy with rfl | hy
            · exact f0
            · exact few_weak (ih y hy) (by omega)
theorem list_few {l r : List UInt8} {xs : List Ev} (h : listL eventL event_one l = some (xs, r)) : ∀ x ∈ xs, Few l.length x := by
  unfold listL at h
  split at h
  · cases h
  · rename_i r0 e0
    have h0 := (sign_suf e0).2
    split at h
    · simp only [Option.some.injEq, Prod.mk.injEq] at h
      obtain ⟨rfl, rfl⟩ := h
      intro x hx; cases hx
    · intro x hx; exact few_weak (items_few _ (Nat.le_refl _) h x hx) (by omega)
def ReadR (L : List UInt8) (N : Nat) (w : World) (lv : Value) (ok : Bool) : Prop :=
  match allL L with
  | some es => ok = true ∧ ∃ its, MadeO N w lv its ∧ evs its = es ∧ ∀ it ∈ its, Few L.length it.ev
  | none => ok = false
def ImpO (L : List UInt8) (N : Nat) (w : World) (lv : Value) : Prop := ∃ its, MadeO N w lv its ∧ evs its = (impB L).1
end Go.Proofs.YtdjllnhahhjgmaaGreat
namespace Go.Proofs.YtdjllnhahhjgmaaGreat
open Go.RowKit Chron
theorem run_append_keptG {P : Program} (w : World) (t ty : TypeId) (base : Nat) (e : TypeId) (i : TypeInfo) (z : Value) (size bytes : Nat) (ht : P.underlying t = some (.slice e)) (hi : P.info? e = some i) (hz : i.zero = some z)
    (hsize : i.size = size) (hby : i.bytes = bytes) (hzs : z.cells.size = size) (hpos : 0 < size)
    (v : Value) (n : Nat) (xs : List Value) (hown : w.ownsRow base e size v n xs)
    (ad : Addr) (m c : Nat) (news : List Value) (hl : news.length = m * size) (hnews : ∀ j u, news[j]? = some u → w.cell? (ad.add j) = some u) (h1 : ∀ u ∈ news, u.oneCell' = true)
    (hm : 0 < m) (h63 : n + m ≤ maxLen) (hbytes : (n + m) * bytes ≤ 140737488355328) (hbase : base ≤ w.heap.size) :
    ∃ g cap w', (Builtin.append_ #[t, t] ty #[v, .slice (some ad) m c]).run P w = .ok (.slice (some ⟨g, 0, none⟩) (n + m) cap) w' ∧
      w'.ownsRow base e size (.slice (some ⟨g, 0, none⟩) (n + m) cap) (n + m) (xs ++ news) ∧ w'.ownsRow base e size v n xs ∧ Lay w w' v g w.heap.size := by
  rcases hown.2 with ⟨rfl, rfl⟩ | ⟨g0, cap0, cur, rfl, a2, a3, a4, a5, a6, a7⟩
  · obtain ⟨g, cap, w', hr, h2, h3, h4, h5⟩ := run_append_lies (P := P) w t ty base e i z size bytes ht hi hz hsize hby hzs hpos (.slice none 0 0) 0 xs hown ad m c news hl hnews h1 hm h63 hbytes hbase w.heap.size rfl
    refine ⟨g, cap, w', hr, h2, ?_, .inr ⟨?_, h3⟩⟩
    · obtain rfl : xs = [] := List.eq_nil_of_length_eq_zero (by simpa using hown.1)
      exact World.ownsRow_nil _ _ _ _
    · rcases h4 with h4 | h4
      · cases h4
      · omega
  · by_cases hr : n + m ≤ cap0
    · obtain ⟨w', hrun, h2, h3⟩ := run_append_own_spare (P := P) w base t ty e i size ht hi hsize g0 n cap0 xs hown ad m c news hl hnews h1 hr
      refine ⟨g0, cap0, w', hrun, h2, ?_, .inl ⟨rfl, h3⟩⟩
      obtain ⟨b1, ⟨b2, _⟩ | ⟨g', cap', cur', hv, c2, c3, c4, c5, c6, c7⟩⟩ := h2
      · cases b2
      · cases hv
        refine ⟨hown.1, .inr ⟨g0, cap0, cur', rfl, c2, c3, a4, c5, c6, ?_⟩⟩
        have hxl := hown.1
        have : (cur'.toList.take ((n + m) * size)).take (n * size) = (xs ++ news).take (n * size) := by rw [c7]
        rw [List.take_take, Nat.min_eq_left (Nat.mul_le_mul_right _ (by omega))] at this
        rw [this, ← hxl, List.take_left]
    · have hxl := hown.1
      obtain ⟨v', w', hrun, h2, h3⟩ := run_append_arg_grows (P := P) w t ty e i z size bytes ht hi hz hsize hby hzs hpos ⟨g0, 0, none⟩ n cap0 xs hxl (fun j u hu => by
        rw [Addr.add_lit, Nat.zero_add]
        rw [← a7] at hu
        have hj := (List.getElem?_eq_some_iff.1 hu).1
        rw [List.getElem?_take_of_lt (by simp at hj; omega)] at hu
        simpa [World.cell?, a3] using hu) ad m c news hl hnews (by omega) h63 hbytes
      obtain ⟨g, cap, rfl, hg1, hg2⟩ := h2.form (by omega)
      exact ⟨g, cap, w', hrun, own_mono h2 hbase, hown.kept (row := none) h3 (Classical.em _), .inr ⟨hg1, h3⟩⟩
theorem wpList_append_keptG {P : Program} (w : World) {ops : Array Oper} {rest : List Oper} {o : Oper} {a : Act} {Q : Exit → Act → World → Prop} (hgd : o.guard = none) (s x : Operand) (t : TypeId)
    (ho : o.op = .call { callee := .builtin .append, args := #[s, x], argTypes := #[t, t] })
    (base : Nat) (e : TypeId) (i : TypeInfo) (z : Value) (size bytes : Nat) (ht : P.underlying t = some (.slice e)) (hi : P.info? e = some i) (hz : i.zero = some z)
    (hsize : i.size = size) (hby : i.bytes = bytes) (hzs : z.cells.size = size) (hpos : 0 < size)
    (v : Value) (n : Nat) (xs : List Value) (hs : a.eval s = v) (hown : w.ownsRow base e size v n xs)
    (ad : Addr) (m c : Nat) (news : List Value) (hx : a.eval x = .slice (some ad) m c) (hl : news.length = m * size) (hnews : ∀ j u, news[j]? = some u → w.cell? (ad.add j) = some u) (h1 : ∀ u ∈ news, u.oneCell' = true)
    (hm : 0 < m) (h63 : n + m ≤ maxLen) (hbytes : (n + m) * bytes ≤ 140737488355328) (hbase : base ≤ w.heap.size)
    (h : ∀ g cap w', w'.ownsRow base e size (.slice (some ⟨g, 0, none⟩) (n + m) cap) (n + m) (xs ++ news) → w'.ownsRow base e size v n xs → Lay w w' v g w.heap.size → wpList P ops Q rest (a.put o.dst (.slice (some ⟨g, 0, none⟩) (n + m) cap)) w') : wpList P ops Q (o :: rest) a w := by
  refine wpList_plain hgd fun K hK => ?_
  obtain ⟨g, cap, w', hr, h2, h3, h4⟩ := run_append_keptG (P := P) w t o.type base e i z size bytes ht hi hz hsize hby hzs hpos v n xs hown ad m c news hl hnews h1 hm h63 hbytes hbase
  unfold Oper.wp execOp
  simp only [ho, resolve, invoke, builtin, Sem.run_bind, Sem.run_pure, Result.andThen_ok, List.map_toArray, List.map_cons, List.map_nil, hs, hx, hr]
  exact hK _ _ (h g cap w' h2 h3 h4)
def reps (n : Nat) (mc : List Value) : List Value := (List.replicate n mc).flatten
theorem reps_len (n : Nat) (mc : List Value) : (reps n mc).length = n * mc.length := by simp [reps]
theorem reps_add (n m : Nat) (mc : List Value) : reps n mc ++ reps m mc = reps (n + m) mc := by simp [reps, ← List.replicate_append_replicate]
theorem reps_pre {n m : Nat} {mc : List Value} (h : n ≤ m) {j : Nat} {u : Value} (hj : (reps n mc)[j]? = some u) : (reps m mc)[j]? = some u := by
  obtain ⟨k, rfl⟩ : ∃ k, m = n + k := ⟨m - n, by omega⟩
  rw [← reps_add, List.getElem?_append_left (List.getElem?_eq_some_iff.1 hj).1]; exact hj
theorem reps_one (n : Nat) (u : Value) : reps n [u] = List.replicate n u := by
  induction n with
  | zero => rfl
  | succ n ih => simp only [reps, List.replicate_succ, List.flatten_cons] at *; rw [ih]; rfl
structure OutG (w : World) (B most : Nat) (mc : List Value) (v : Value) (g no cap : Nat) : Prop where
  val : v = .slice (some ⟨g, 0, none⟩) no cap
  few : no ≤ most
  room : no ≤ cap
  base : B ≤ g
  lt : g < w.heap.size
  cells : ∀ j u, (reps no mc)[j]? = some u → w.cell? ⟨g, j, none⟩ = some u
theorem OutG.keep {w w' : World} {B most : Nat} {mc : List Value} {v : Value} {g no cap : Nat} (h : OutG w B most mc v g no cap) (hs : w.heap.size ≤ w'.heap.size) (hb : w'.heap[g]? = w.heap[g]?) : OutG w' B most mc v g no cap :=
  ⟨h.val, h.few, h.room, h.base, Nat.lt_of_lt_of_le h.lt hs, fun j u hu => by rw [World.cell?_of_block (a := ⟨g, j, none⟩) hb]; exact h.cells j u hu⟩
theorem OutG.blk {w : World} {B most : Nat} {mc : List Value} {v : Value} {g no cap : Nat} (h : OutG w B most mc v g no cap) : v.ownBlock = some g := by rw [h.val]; rfl
structure MarksG (w : World) (B : Nat) (T sz : Nat) (l : Value) (n : Nat) (mc : List Value) (outs : List Value) (k : Nat) : Prop where
  own : w.ownsRow B T sz l n (reps n mc)
  outs : ∀ o ∈ outs, ∃ g no cap, OutG w B (n + k) mc o g no cap
theorem own_cellsG {w : World} {B g n cap sz : Nat} {e : TypeId} {xs : List Value} (h : w.ownsRow B e sz (.slice (some ⟨g, 0, none⟩) n cap) n xs) : n ≤ cap ∧ ∀ j u, xs[j]? = some u → w.cell? ⟨g, j, none⟩ = some u := by
  obtain ⟨h1, ⟨h2, _⟩ | ⟨g', cap', cur, hv, a2, a3, a4, a5, a6, a7⟩⟩ := h
  · cases h2
  · cases hv
    refine ⟨a4, fun j u hu => ?_⟩
    rw [← a7] at hu
    have hj := (List.getElem?_eq_some_iff.1 hu).1
    rw [List.getElem?_take_of_lt (by simp at hj; omega)] at hu
    simpa [World.cell?, a3] using hu
theorem MarksG.push {w wa : World} {B T sz g cap n k j : Nat} {l : Value} {mc outs : List Value} {o : Obj} (h : MarksG w B T sz l n mc outs k) (hj : k ≤ j)
    (hnew : wa.ownsRow B T sz (.slice (some ⟨g, 0, none⟩) (n + j) cap) (n + j) (reps n mc ++ reps j mc)) (hold : wa.ownsRow B T sz l n (reps n mc))
    (hlay : Lay (w.alloc o) wa l g (w.alloc o).heap.size) : MarksG wa B T sz l n mc (outs ++ [.slice (some ⟨g, 0, none⟩) (n + j) cap]) j := by
  rw [reps_add] at hnew
  obtain ⟨hcap, hcells⟩ := own_cellsG hnew
  have hg := hnew.lt g rfl
  refine ⟨hold, fun x hx => ?_⟩
  rcases List.mem_append.1 hx with hx | hx
  · obtain ⟨g1, no, c1, ho⟩ := h.outs x hx
    have hlt := ho.lt
    have hfew := ho.few
    have same : wa.heap[g1]? = (w.alloc o).heap[g1]? → ∀ q u, (reps no mc)[q]? = some u → wa.cell? ⟨g1, q, none⟩ = some u := fun he q u hq => by
      rw [World.cell?_of_block (a := ⟨g1, q, none⟩) (he.trans (Below.heap_alloc _ _ _ hlt))]; exact ho.cells q u hq
    have hsz : w.heap.size ≤ wa.heap.size := by
      have h1 : (w.alloc o).heap.size = w.heap.size + 1 := World.size_alloc _ _
      rcases hlay with ⟨_, hgr⟩ | ⟨_, hgr⟩ <;> (have := hgr.size; omega)
    refine ⟨g1, no, c1, ho.val, by omega, ho.room, ho.base, by omega, ?_⟩
    rcases hlay with ⟨_, hgr⟩ | ⟨_, hgr⟩
    · by_cases he : g1 = g
      · subst he; exact fun q u hq => hcells q u (reps_pre (by omega) hq)
      · exact same (hgr.block g1 (by rw [World.size_alloc]; omega) (fun e => he (Option.some.inj e)))
    · exact same (hgr.block g1 (by rw [World.size_alloc]; omega) (fun e => by cases e))
  · simp only [List.mem_singleton] at hx
    subst hx
    exact ⟨g, n + j, cap, rfl, Nat.le_refl _, hcap, hg.1, hg.2, hcells⟩
end Go.Proofs.YtdjllnhahhjgmaaGreat
namespace Go.Proofs.YtdjllnhahhjgmaaGreat
open Go.RowKit Chron
def callerB : ByteArray := ⟨#[116, 104, 101, 32, 99, 97, 108, 108, 101, 114, 39, 115]⟩
def badV (r : Nat) : List Value := [.int .i64 (-1000 - (r : Int)), .string ⟨#[]⟩, .int .i64 0, .string callerB, .slice none 0 0]
def EntG (w : World) (b : Nat) (tv ev : Value) (most : Nat) (mc : List Value) (v : Value) : Prop :=
  v = .slice none 0 0 ∨ ∃ g no cap, OutG w (b + 1) most mc v g no cap ∧ tv.ownBlock ≠ some g ∧ ev.ownBlock ≠ some g
theorem book_cells4 {w : World} {b : Nat} {x0 x1 x2 x3 : Value} {t : TypeId} (h : w.heap[b]? = some (.cells #[x0, x1, x2, x3] t)) : w.cell? ⟨b, 1, none⟩ = some x1 ∧ w.cell? ⟨b, 2, none⟩ = some x2 ∧ ∀ o, w.frozen? ⟨b, o, none⟩ = false := by
  refine ⟨by simp [World.cell?, h], by simp [World.cell?, h], fun o => by simp [World.frozen?, h]⟩
theorem book_set4 {w : World} {b i : Nat} {x0 x1 x2 x3 u : Value} {t : TypeId} (h : w.heap[b]? = some (.cells #[x0, x1, x2, x3] t)) : (w.setCell ⟨b, i, none⟩ u).heap[b]? = some (.cells (#[x0, x1, x2, x3].setIfInBounds i u) t) := by
  simp only [World.setCell, Array.getElem?_modify, if_true, h, Option.map_some]
  rfl
structure Book2 (b : Nat) (pv mv tv ev : Value) (xs ys : List Value) (w : World) : Prop where
  blk : w.heap[b]? = some (.cells #[pv, tv, ev, mv] 32)
  tags : w.ownsRow (b + 1) 36 1 tv xs.length xs
  evts : w.ownsRow (b + 1) 33 1 ev ys.length ys
  te : ∀ q, tv.ownBlock = some q → ev.ownBlock ≠ some q
  full : ∀ i v, xs[i]? = some v → EntG w b tv ev 7 [.string (badB (i / 4))] v
  fullE : ∀ i v, ys[i]? = some v → EntG w b tv ev 203 (badV (i / 4)) v
def Clear (b : Nat) (tv ev : Value) (xs ys : List Value) (q : Nat) : Prop := q ≠ b ∧ tv.ownBlock ≠ some q ∧ ev.ownBlock ≠ some q ∧ (∀ v ∈ xs, v.ownBlock ≠ some q) ∧ ∀ v ∈ ys, v.ownBlock ≠ some q
theorem Book2.lt {b : Nat} {pv mv tv ev : Value} {xs ys : List Value} {w : World} (h : Book2 b pv mv tv ev xs ys w) : b < w.heap.size := (Array.getElem?_eq_some_iff.1 h.blk).1
theorem Book2.keep {b : Nat} {pv mv tv ev : Value} {xs ys : List Value} {w w' : World} (h : Book2 b pv mv tv ev xs ys w) (hs : w.heap.size ≤ w'.heap.size) (hb : ∀ q, q < w.heap.size → ¬ Clear b tv ev xs ys q → w'.heap[q]? = w.heap[q]?) : Book2 b pv mv tv ev xs ys w' := by
  have ent : ∀ (most : Nat) (mc : List Value) (v : Value), (v ∈ xs ∨ v ∈ ys) → EntG w b tv ev most mc v → EntG w' b tv ev most mc v := by
    intro most mc v hv he
    rcases he with he | ⟨g, no, cap, ho, h2, h3⟩
    · exact .inl he
    · refine .inr ⟨g, no, cap, ho.keep hs (hb g ho.lt (fun hc => ?_)), h2, h3⟩
      rcases hv with hv | hv
      · exact hc.2.2.2.1 v hv ho.blk
      · exact hc.2.2.2.2 v hv ho.blk
  refine ⟨(hb b h.lt (fun hc => hc.1 rfl)).trans h.blk, ?_, ?_, h.te, fun i v hv => ent _ _ v (.inl (List.mem_of_getElem? hv)) (h.full i v hv), fun i v hv => ent _ _ v (.inr (List.mem_of_getElem? hv)) (h.fullE i v hv)⟩
  · exact own_of_block h.tags fun q hq => hb q (h.tags.lt _ hq).2 (fun hc => hc.2.1 hq)
  · exact own_of_block h.evts fun q hq => hb q (h.evts.lt _ hq).2 (fun hc => hc.2.2.1 hq)
theorem Book2.far {b : Nat} {pv mv tv ev : Value} {xs ys : List Value} {w w' : World} {R : List (Option Nat)} (h : Book2 b pv mv tv ev xs ys w) (hf : Far w w' R) (hR : ∀ q, some q ∈ R → q < w.heap.size → Clear b tv ev xs ys q) : Book2 b pv mv tv ev xs ys w' :=
  h.keep hf.size fun q hq hc => hf.block q hq fun _ hr e => hc (hR q (e ▸ hr) hq)
theorem Book2.below {b : Nat} {pv mv tv ev : Value} {xs ys : List Value} {w w' : World} (h : Book2 b pv mv tv ev xs ys w) (hb : Below w.heap.size w w') : Book2 b pv mv tv ev xs ys w' :=
  h.keep hb.size fun q hq _ => hb.block q hq
/- where the blocks of an append lie -/
theorem Lay.facts {w wa : World} {v : Value} {g : Nat} {o : Obj} (h : Lay (w.alloc o) wa v g (w.alloc o).heap.size) : w.heap.size ≤ wa.heap.size ∧ (v.ownBlock = some g ∨ w.heap.size < g) ∧ Far w wa [v.ownBlock] := by
  have hsa : (w.alloc o).heap.size = w.heap.size + 1 := World.size_alloc _ _
  rcases h with ⟨h1, hgr⟩ | ⟨h1, hgr⟩
  · have hs := hgr.size
    refine ⟨by omega, .inl h1, hgr.os, hgr.tape, hgr.output, by omega, fun q hq hR => ?_⟩
    exact (hgr.block q (by omega) (fun e => hR v.ownBlock (by simp) (h1.trans e.symm))).trans (Below.heap_alloc _ _ _ hq)
  · have hs := hgr.size
    refine ⟨by omega, .inr (by omega), hgr.os, hgr.tape, hgr.output, by omega, fun q hq _ => ?_⟩
    exact (hgr.block q (by omega) (fun e => by cases e)).trans (Below.heap_alloc _ _ _ hq)
theorem Far.set_out {a b : World} {R : List (Option Nat)} (h : Far a b R) (p : Nat) (i : Nat) (u : Value) : Far a (b.setCell ⟨p, i, none⟩ u) (some p :: R) :=
  (h.wide (fun r hr => List.mem_cons_of_mem _ hr)).setCell (p := ⟨p, i, none⟩) (.inl (by simp)) u
/- four more entries of texts -/
theorem Book2.pushT {b : Nat} {pv mv tv ev : Value} {xs ys zs : List Value} {g cap r : Nat} {w wa : World} {o : Obj} (h : Book2 b pv mv tv ev xs ys w) (hx : xs.length = 4 * r) (hz4 : zs.length = 4)
    (hzs : ∀ v ∈ zs, EntG w b tv ev 7 [.string (badB r)] v)
    (hnew : wa.ownsRow (b + 1) 36 1 (.slice (some ⟨g, 0, none⟩) (xs.length + 4) cap) (xs.length + 4) (xs ++ zs)) (hlay : Lay (w.alloc o) wa tv g (w.alloc o).heap.size) :
    wa.heap[b]? = some (.cells #[pv, tv, ev, mv] 32) ∧
    Book2 b pv mv (.slice (some ⟨g, 0, none⟩) (xs.length + 4) cap) ev (xs ++ zs) ys (wa.setCell ⟨b, 1, none⟩ (.slice (some ⟨g, 0, none⟩) (xs.length + 4) cap)) ∧
    Far w (wa.setCell ⟨b, 1, none⟩ (.slice (some ⟨g, 0, none⟩) (xs.length + 4) cap)) [some b, tv.ownBlock] ∧
    ∀ q, q < w.heap.size → Clear b tv ev xs ys q → (∀ v ∈ zs, v.ownBlock ≠ some q) → Clear b (.slice (some ⟨g, 0, none⟩) (xs.length + 4) cap) ev (xs ++ zs) ys q := by
  obtain ⟨hsz, hg, hfar⟩ := hlay.facts
  have hblt := h.lt
  have hbt : tv.ownBlock ≠ some b := fun e => by have := (h.tags.lt b e).1; omega
  have hbe : ev.ownBlock ≠ some b := fun e => by have := (h.evts.lt b e).1; omega
  have hgb := (hnew.lt g rfl).1
  have hblk : wa.heap[b]? = some (.cells #[pv, tv, ev, mv] 32) := (hfar.block b hblt (by simp; exact hbt)).trans h.blk
  have same : ∀ q, q < w.heap.size → q ≠ b → tv.ownBlock ≠ some q → (wa.setCell ⟨b, 1, none⟩ (.slice (some ⟨g, 0, none⟩) (xs.length + 4) cap)).heap[q]? = w.heap[q]? := fun q hq hne ht =>
    (set_other hne).trans (hfar.block q hq (by simp; exact ht))
  have hgne : ∀ q, q < w.heap.size → tv.ownBlock ≠ some q → g ≠ q := fun q hq ht e => by
    subst e
    rcases hg with hg | hg
    · exact ht hg
    · omega
  have ent : ∀ (most : Nat) (mc : List Value) (v : Value), EntG w b tv ev most mc v → EntG (wa.setCell ⟨b, 1, none⟩ (.slice (some ⟨g, 0, none⟩) (xs.length + 4) cap)) b (.slice (some ⟨g, 0, none⟩) (xs.length + 4) cap) ev most mc v := by
    intro most mc v he
    rcases he with he | ⟨g1, no, c1, ho, h2, h3⟩
    · exact .inl he
    · refine .inr ⟨g1, no, c1, ho.keep (by rw [size_set]; exact hsz) (same g1 ho.lt (by have := ho.base; omega) h2), ?_, h3⟩
      simp only [Value.ownBlock, ne_eq, Option.some.injEq]
      exact hgne g1 ho.lt h2
  refine ⟨hblk, ⟨book_set4 hblk, ?_, ?_, ?_, ?_, ?_⟩, ?_, ?_⟩
  · have hl2 : (xs ++ zs).length = xs.length + 4 := by rw [List.length_append, hz4]
    rw [hl2]; exact ownsRow_setCell_below hnew (Nat.lt_succ_self _) _
  · exact own_of_block h.evts fun q hq => same q (h.evts.lt _ hq).2 (fun e => hbe (e ▸ hq)) (fun e => h.te q e hq)
  · intro q hq he
    simp only [Value.ownBlock, Option.some.injEq] at hq
    exact hgne q (h.evts.lt _ he).2 (fun e => h.te q e he) hq
  · intro i v hv
    by_cases hi : i < xs.length
    · rw [List.getElem?_append_left hi] at hv
      exact ent _ _ _ (h.full i v hv)
    · rw [List.getElem?_append_right (by omega)] at hv
      have hi2 := (List.getElem?_eq_some_iff.1 hv).1
      have hm : i / 4 = r := by omega
      rw [hm]
      exact ent _ _ _ (hzs v (List.mem_of_getElem? hv))
  · intro i v hv
    exact ent _ _ _ (h.fullE i v hv)
  · exact hfar.set_out b 1 _
  · intro q hq hc hz
    refine ⟨hc.1, ?_, hc.2.2.1, fun v hv => ?_, hc.2.2.2.2⟩
    · simp only [Value.ownBlock, ne_eq, Option.some.injEq]
      exact hgne q hq hc.2.1
    · rcases List.mem_append.1 hv with hv | hv
      · exact hc.2.2.2.1 v hv
      · exact hz v hv
/- four more entries of events -/
theorem Book2.pushE {b : Nat} {pv mv tv ev : Value} {xs ys zs : List Value} {g cap r : Nat} {w wa : World} {o : Obj} (h : Book2 b pv mv tv ev xs ys w) (hx : ys.length = 4 * r) (hz4 : zs.length = 4)
    (hzs : ∀ v ∈ zs, EntG w b tv ev 203 (badV r) v)
    (hnew : wa.ownsRow (b + 1) 33 1 (.slice (some ⟨g, 0, none⟩) (ys.length + 4) cap) (ys.length + 4) (ys ++ zs)) (hlay : Lay (w.alloc o) wa ev g (w.alloc o).heap.size) :
    wa.heap[b]? = some (.cells #[pv, tv, ev, mv] 32) ∧
    Book2 b pv mv tv (.slice (some ⟨g, 0, none⟩) (ys.length + 4) cap) xs (ys ++ zs) (wa.setCell ⟨b, 2, none⟩ (.slice (some ⟨g, 0, none⟩) (ys.length + 4) cap)) ∧
    Far w (wa.setCell ⟨b, 2, none⟩ (.slice (some ⟨g, 0, none⟩) (ys.length + 4) cap)) [some b, ev.ownBlock] := by
  obtain ⟨hsz, hg, hfar⟩ := hlay.facts
  have hblt := h.lt
  have hbt : tv.ownBlock ≠ some b := fun e => by have := (h.tags.lt b e).1; omega
  have hbe : ev.ownBlock ≠ some b := fun e => by have := (h.evts.lt b e).1; omega
  have hgb := (hnew.lt g rfl).1
  have hblk : wa.heap[b]? = some (.cells #[pv, tv, ev, mv] 32) := (hfar.block b hblt (by simp; exact hbe)).trans h.blk
  have same : ∀ q, q < w.heap.size → q ≠ b → ev.ownBlock ≠ some q → (wa.setCell ⟨b, 2, none⟩ (.slice (some ⟨g, 0, none⟩) (ys.length + 4) cap)).heap[q]? = w.heap[q]? := fun q hq hne ht =>
    (set_other hne).trans (hfar.block q hq (by simp; exact ht))
  have hgne : ∀ q, q < w.heap.size → ev.ownBlock ≠ some q → g ≠ q := fun q hq ht e => by
    subst e
    rcases hg with hg | hg
    · exact ht hg
    · omega
  have ent : ∀ (most : Nat) (mc : List Value) (v : Value), EntG w b tv ev most mc v → EntG (wa.setCell ⟨b, 2, none⟩ (.slice (some ⟨g, 0, none⟩) (ys.length + 4) cap)) b tv (.slice (some ⟨g, 0, none⟩) (ys.length + 4) cap) most mc v := by
    intro most mc v he
    rcases he with he | ⟨g1, no, c1, ho, h2, h3⟩
    · exact .inl he
    · refine .inr ⟨g1, no, c1, ho.keep (by rw [size_set]; exact hsz) (same g1 ho.lt (by have := ho.base; omega) h3), h2, ?_⟩
      simp only [Value.ownBlock, ne_eq, Option.some.injEq]
      exact hgne g1 ho.lt h3
  refine ⟨hblk, ⟨book_set4 hblk, ?_, ?_, ?_, ?_, ?_⟩, ?_⟩
  · exact own_of_block h.tags fun q hq => same q (h.tags.lt _ hq).2 (fun e => hbt (e ▸ hq)) (fun e => h.te q hq e)
  · have hl2 : (ys ++ zs).length = ys.length + 4 := by rw [List.length_append, hz4]
    rw [hl2]; exact ownsRow_setCell_below hnew (Nat.lt_succ_self _) _
  · intro q hq he
    simp only [Value.ownBlock, Option.some.injEq] at he
    exact hgne q (h.tags.lt _ hq).2 (fun e => h.te q hq e) he
  · intro i v hv
    exact ent _ _ _ (h.full i v hv)
  · intro i v hv
    by_cases hi : i < ys.length
    · rw [List.getElem?_append_left hi] at hv
      exact ent _ _ _ (h.fullE i v hv)
    · rw [List.getElem?_append_right (by omega)] at hv
      have hi2 := (List.getElem?_eq_some_iff.1 hv).1
      have hm : i / 4 = r := by omega
      rw [hm]
      exact ent _ _ _ (hzs v (List.mem_of_getElem? hv))
  · exact hfar.set_out b 2 _
theorem pushE_clear {b : Nat} {tv ev : Value} {xs ys zs : List Value} {g cap : Nat} {w wa : World} {o : Obj} (hlay : Lay (w.alloc o) wa ev g (w.alloc o).heap.size) {q : Nat} (hq : q < w.heap.size) (hc : Clear b tv ev xs ys q) (hz : ∀ v ∈ zs, v.ownBlock ≠ some q) : Clear b tv (.slice (some ⟨g, 0, none⟩) (ys.length + 4) cap) xs (ys ++ zs) q := by
  obtain ⟨_, hg, _⟩ := hlay.facts
  refine ⟨hc.1, hc.2.1, ?_, hc.2.2.2.1, fun v hv => ?_⟩
  · simp only [Value.ownBlock, ne_eq, Option.some.injEq]
    rintro rfl
    rcases hg with e | e
    · exact hc.2.2.1 e
    · omega
  · rcases List.mem_append.1 hv with h | h
    · exact hc.2.2.2.2 v h
    · exact hz v h
end Go.Proofs.YtdjllnhahhjgmaaGreat
namespace Go.Proofs.YtdjllnhahhjgmaaGreat
open Go.RowKit Chron
/- where a keeping stands between its appends -/
structure KT (b : Nat) (pv mv tv ev : Value) (xs ys : List Value) (w wx : World) (l : Value) (T sz n : Nat) (mc outs : List Value) (k : Nat) : Prop where
  mks : MarksG wx (b + 1) T sz l n mc outs k
  bk : Book2 b pv mv tv ev xs ys wx
  far : Far w wx [l.ownBlock]
  new : ∀ o ∈ outs, ∀ q, o.ownBlock = some q → l.ownBlock = some q ∨ w.heap.size ≤ q
  clr : ∀ q, l.ownBlock = some q → Clear b tv ev xs ys q
  low : (∀ q, tv.ownBlock = some q → q < w.heap.size) ∧ ∀ q, ev.ownBlock = some q → q < w.heap.size
theorem KT.push {b : Nat} {pv mv tv ev : Value} {xs ys : List Value} {w wx wa : World} {l : Value} {T sz n g cap k j : Nat} {mc outs : List Value} {o : Obj} (h : KT b pv mv tv ev xs ys w wx l T sz n mc outs k) (hj : k ≤ j)
    (hnew : wa.ownsRow (b + 1) T sz (.slice (some ⟨g, 0, none⟩) (n + j) cap) (n + j) (reps n mc ++ reps j mc)) (hold : wa.ownsRow (b + 1) T sz l n (reps n mc))
    (hlay : Lay (wx.alloc o) wa l g (wx.alloc o).heap.size) : KT b pv mv tv ev xs ys w wa l T sz n mc (outs ++ [.slice (some ⟨g, 0, none⟩) (n + j) cap]) j := by
  obtain ⟨hsz, hg, hfar⟩ := hlay.facts
  have hs := h.far.size
  refine ⟨h.mks.push hj hnew hold hlay, h.bk.far hfar (fun q hq _ => h.clr q (by simpa using (List.mem_singleton.1 hq).symm)), h.far.trans hfar, fun v hv q hq => ?_, h.clr, h.low⟩
  rcases List.mem_append.1 hv with hv | hv
  · exact h.new v hv q hq
  · simp only [List.mem_singleton] at hv
    subst hv
    simp only [Value.ownBlock, Option.some.injEq] at hq
    subst hq
    rcases hg with hg | hg
    · exact .inl hg
    · exact .inr (by omega)
theorem KT.entries {b : Nat} {pv mv tv ev : Value} {xs ys : List Value} {w wx : World} {l : Value} {T sz n most k : Nat} {mc outs : List Value} (h : KT b pv mv tv ev xs ys w wx l T sz n mc outs k) (h7 : n + k ≤ most) :
    ∀ v ∈ l :: outs, EntG wx b tv ev most mc v := by
  intro v hv
  rcases List.mem_cons.1 hv with rfl | hv
  · rcases h.mks.own.2 with ⟨h1, _⟩ | ⟨g, cap, cur, rfl, a2, a3, a4, a5, a6, a7⟩
    · exact .inl h1
    · have hc := h.clr g rfl
      exact .inr ⟨g, n, cap, ⟨rfl, by omega, a4, a2, (Array.getElem?_eq_some_iff.1 a3).1, (own_cellsG h.mks.own).2⟩, hc.2.1, hc.2.2.1⟩
  · obtain ⟨g, no, cap, ho⟩ := h.mks.outs v hv
    have hne : tv.ownBlock ≠ some g ∧ ev.ownBlock ≠ some g := by
      rcases h.new v hv g ho.blk with h1 | h1
      · have hc := h.clr g h1
        exact ⟨hc.2.1, hc.2.2.1⟩
      · exact ⟨fun e => by have := h.low.1 g e; omega, fun e => by have := h.low.2 g e; omega⟩
    exact .inr ⟨g, no, cap, ⟨ho.val, Nat.le_trans ho.few h7, ho.room, ho.base, ho.lt, ho.cells⟩, hne.1, hne.2⟩
theorem KT.apart {b : Nat} {pv mv tv ev : Value} {xs ys : List Value} {w wx : World} {l : Value} {T sz n k : Nat} {mc outs : List Value} (h : KT b pv mv tv ev xs ys w wx l T sz n mc outs k) {q : Nat} (hq : q < w.heap.size) (hl : l.ownBlock ≠ some q) : ∀ v ∈ l :: outs, v.ownBlock ≠ some q := by
  intro v hv e
  rcases List.mem_cons.1 hv with rfl | hv
  · exact hl e
  · rcases h.new v hv q e with h1 | h1
    · exact hl h1
    · omega
theorem far_cons {a b c : World} {x y z : Option Nat} (h : Far a b [z]) (k : Far b c [x, y]) : Far a c [x, y, z] :=
  (h.wide (by simp)).trans (k.wide (by simp))
theorem reps_str (n : Nat) (m : ByteArray) : reps n [.string m] = List.replicate n (.string m) := reps_one _ _
set_option maxRecDepth 100000 in
set_option maxHeartbeats 2000000 in
theorem keepTags2_any (b r : Nat) (pv mv tv ev : Value) (xs ys : List Value) (l : Value) (ts : List ByteArray) (w : World) (HB : Hid (Book2 b pv mv tv ev xs ys w)) (HO : Hid (w.ownsRow (b + 1) 9 1 l ts.length (ts.map Value.string)))
    (HC : Hid (∀ q, l.ownBlock = some q → Clear b tv ev xs ys q)) (h4 : ts.length ≤ 4) (HX : Hid (xs.length = 4 * r ∧ r ≤ 500000000)) :
    Calls Tryz.prog 36 #[.pointer (some ⟨b, 1, none⟩), l] w fun e w' => e = .returned (.tuple #[]) ∧ ∃ tv' xs', Hid (Book2 b pv mv tv' ev xs' ys w') ∧ Hid (xs'.length = 4 * (r + 1)) ∧ Hid (Far w w' [some b, tv.ownBlock, l.ownBlock]) ∧ Hid (∀ q, q < w.heap.size → Clear b tv ev xs ys q → l.ownBlock ≠ some q → Clear b tv' ev xs' ys q) := by
  obtain ⟨i0, hi, hz0, hz1, hz2⟩ := info_parts infoText
  obtain ⟨i1, hi1, hy0, hy1, hy2⟩ := info_parts infoTexts
  obtain ⟨ta, tc, htv, htc, _, hT⟩ := row_at HB.out.tags
  subst htv
  obtain ⟨la, lc, rfl, hla⟩ := own_tags HO.out
  obtain ⟨d0, d1, df⟩ := book_cells4 HB.out.blk
  have hxs : xs.length ≤ 2000000000 := by have := HX.out; omega
  have HLOW : Hid ((∀ q, (Value.slice ta xs.length tc).ownBlock = some q → q < w.heap.size) ∧ ∀ q, ev.ownBlock = some q → q < w.heap.size) := ⟨fun q hq => (HB.out.tags.lt q hq).2, fun q hq => (HB.out.evts.lt q hq).2⟩
  clear hT hla
  go_enter Tryz.func36, Tryz.ntmps36
  go_wp2_with fail
  refine (badTag_any _ _ (by omega) (by show Int.toNat _ < _; have := HX.out; omega)).mono ?_
  rintro e w1 ⟨rfl, hb1⟩
  obtain ⟨m, hm, HM⟩ : ∃ m, badB ((xs.length : Int) / 4).toNat = m ∧ Hid (m = badB r) := ⟨_, rfl, by show badB _ = badB r; congr 1; have := HX.out; omega⟩
  have HB1 := hide0 (HB.out.below hb1)
  have HO1 := hide0 (own_below HO.out hb1)
  have HF1 : Hid (Far w w1 [(Value.slice la ts.length lc).ownBlock]) := Far.of_below hb1 (Nat.le_refl _)
  clear hb1 HB HO d0 d1 df
  go_wp2
  go_loopw [5] (fun i wx => ∃ k : Nat, k ≤ ts.length ∧ i = .int .i64 k ∧ Hid (wx.ownsRow (b + 1) 9 1 (.slice la ts.length lc) ts.length (mixed ts m k)) ∧ Hid (Far w1 wx [(Value.slice la ts.length lc).ownBlock])) (fun i _ => ts.length - (intOf i).toNat)
  case atStart => exact ⟨0, Nat.zero_le _, rfl, by rw [mixed_zero]; exact HO1, Far.refl _ _⟩
  case round =>
    obtain ⟨k, hk, rfl, HOk, HBk⟩ := hrel
    by_cases hlt : k < ts.length
    · obtain ⟨g, rfl, hgB, x, hcell, hfr⟩ : ∃ g, la = some ⟨g, 0, none⟩ ∧ b + 1 ≤ g ∧ ∃ x, wr.cell? ⟨g, k, none⟩ = some x ∧ wr.frozen? ⟨g, k, none⟩ = false := by
        obtain ⟨h1, ⟨h2, h3⟩ | ⟨g, cap, cur, he, a2, a3, a4, a5, a6, a7⟩⟩ := HOk.out
        · omega
        · cases he
          exact ⟨g, rfl, a2, cur[k]'(by omega), by simp [World.cell?, a3], by simp [World.frozen?, a3]⟩
      have HS := hide0 (own_set (i := k) (u := .string m) HOk.out)
      rw [mixed_set ts m k hlt] at HS
      have HSB := hide0 (HBk.out.setCell (p := ⟨g, k, none⟩) (.inl (by simp [Value.ownBlock])) (.string m))
      clear hgB
      go_wp2
      go_roundw
      case rel => exact ⟨k + 1, by omega, by go_num, HS, HSB⟩
      case measure => simp [intOf]; omega
    · have hkn : k = ts.length := by omega
      have HOn := hide0 HOk.out
      rw [mixed_end ts m k hkn, ← reps_str] at HOn
      have HK0 : Hid (KT b pv mv (.slice ta xs.length tc) ev xs ys w wr (.slice la ts.length lc) 9 1 ts.length [.string m] [] 0) := ⟨⟨HOn.out, fun o ho => by cases ho⟩, HB1.out.far HBk.out (fun q hq _ => HC.out q (by simpa using (List.mem_singleton.1 hq).symm)), HF1.out.trans HBk.out, (fun o ho => by cases ho), HC.out, HLOW.out⟩
      clear HOn HOk HBk HB1 HO1 HF1 hm hkn
      have hmx : ∀ j, j ≤ 3 → ts.length + j ≤ maxLen := fun j hj => by unfold maxLen; omega
      have hby : ∀ j, j ≤ 3 → (ts.length + j) * 16 ≤ 140737488355328 := fun j hj => by omega
      have hxm : xs.length + 4 ≤ maxLen := by unfold maxLen; omega
      have hxb : (xs.length + 4) * 24 ≤ 140737488355328 := by omega
      go_wp2_with (first
        | (have hz := HK3; clear hz; at_builtin; go_must (refine wpList_append_keptG _ rfl _ _ 27 rfl (b + 1) 36 i1 (.slice none 0 0) 1 24 Tryz.underlying27 hi1 hy0 hy1 hy2 rfl Nat.one_pos (.slice ta xs.length tc) xs.length xs rfl (HK3.out.bk.tags.alloc _) ⟨_, 0, none⟩ 4 4 [.slice la ts.length lc, .slice (some ⟨g1, 0, none⟩) (ts.length + 1) cg1, .slice (some ⟨g2, 0, none⟩) (ts.length + 2) cg2, .slice (some ⟨g3, 0, none⟩) (ts.length + 3) cg3] rfl rfl news_of slices_one (by omega) hxm hxb (le_alloc2 HK3.out.bk.lt) ?_)
           intro g4 cg4 w4 hn4 ho4 hl4
           obtain ⟨hblk, HBK, hfar4, hclr4⟩ := HK3.out.bk.pushT HX.out.1 rfl (by rw [← HM.out]; exact HK3.out.entries (by omega)) hn4 hl4
           have HFar := hide0 (far_cons HK3.out.far hfar4)
           have HClr : Hid (∀ q, q < w.heap.size → Clear b (.slice ta xs.length tc) ev xs ys q → (Value.slice la ts.length lc).ownBlock ≠ some q → _) := fun q hq hc hl => hclr4 q (Nat.lt_of_lt_of_le hq HK3.out.far.size) hc (HK3.out.apart hq hl)
           have HBook := hide0 HBK
           obtain ⟨e0, e1, ef⟩ := book_cells4 hblk
           clear hn4 ho4 hl4 HBK hfar4 hclr4 hblk HK3 d0 d1 df)
        | (have hz := HK2; clear hz; at_builtin; go_must (refine wpList_append_keptG _ rfl _ _ 36 rfl (b + 1) 9 i0 (.string ⟨#[]⟩) 1 16 Tryz.underlying36 hi hz0 hz1 hz2 rfl Nat.one_pos (.slice la ts.length lc) ts.length (reps ts.length [.string m]) rfl (HK2.out.mks.own.alloc _) ⟨_, 0, none⟩ 3 3 (reps 3 [.string m]) rfl rfl news_of (all_one 3 m) (by omega) (hmx 3 (by omega)) (hby 3 (by omega)) (le_alloc2 HK2.out.bk.lt) ?_)
           intro g3 cg3 wg3 hng3 hog3 hlg3
           have HK3 := hide0 (HK2.out.push (j := 3) (by omega) hng3 hog3 hlg3)
           obtain ⟨d0, d1, df⟩ := book_cells4 HK3.out.bk.blk
           clear hng3 hog3 hlg3 HK2)
        | (have hz := HK1; clear hz; at_builtin; go_must (refine wpList_append_keptG _ rfl _ _ 36 rfl (b + 1) 9 i0 (.string ⟨#[]⟩) 1 16 Tryz.underlying36 hi hz0 hz1 hz2 rfl Nat.one_pos (.slice la ts.length lc) ts.length (reps ts.length [.string m]) rfl (HK1.out.mks.own.alloc _) ⟨_, 0, none⟩ 2 2 (reps 2 [.string m]) rfl rfl news_of (all_one 2 m) (by omega) (hmx 2 (by omega)) (hby 2 (by omega)) (le_alloc2 HK1.out.bk.lt) ?_)
           intro g2 cg2 wg2 hng2 hog2 hlg2
           have HK2 := hide0 (HK1.out.push (j := 2) (by omega) hng2 hog2 hlg2)
           clear hng2 hog2 hlg2 HK1)
        | (have hz := HK0; clear hz; at_builtin; go_must (refine wpList_append_keptG _ rfl _ _ 36 rfl (b + 1) 9 i0 (.string ⟨#[]⟩) 1 16 Tryz.underlying36 hi hz0 hz1 hz2 rfl Nat.one_pos (.slice la ts.length lc) ts.length (reps ts.length [.string m]) rfl (HK0.out.mks.own.alloc _) ⟨_, 0, none⟩ 1 1 (reps 1 [.string m]) rfl rfl news_of (all_one 1 m) (by omega) (hmx 1 (by omega)) (hby 1 (by omega)) (le_alloc2 HK0.out.bk.lt) ?_)
           intro g1 cg1 wg1 hng1 hog1 hlg1
           have HK1 := hide0 (HK0.out.push (j := 1) (by omega) hng1 hog1 hlg1)
           clear hng1 hog1 hlg1 HK0))
      go_end0
      exact ⟨rfl, _, _, HBook, (by have := HX.out; show _ = _; simp; omega), HFar, HClr⟩
end Go.Proofs.YtdjllnhahhjgmaaGreat
