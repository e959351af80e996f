/- Walks and plain facts, in the order in which they lean on one another. -/
import Derived.Test.YtdjllnhahhjgmaaGreatDoorW10
import Derived.Test.YtdjllnhahhjgmaaGreatDoorW03
import Derived.Deep.QuietTactic
import Derived.BigQuiet
namespace Go.Proofs.YtdjllnhahhjgmaaGreatDoor
open Go.RowKit Chron
theorem infoEvent5 : (Tryz.prog.info? 29).map (fun i => (i.zero, i.size, i.bytes)) = some (some (.agg #[.int .i64 0, .string ⟨#[]⟩, .int .i64 0, .string ⟨#[]⟩, .slice none 0 0]), 5, 72) := by kernel_rfl
def Item.five (i : Item) : List Value := [.int .i64 i.ev.kind, .string i.ev.task, .int .i64 i.ev.time, .string i.ev.body, .slice i.at' i.ev.tags.length i.cap]
def fives (l : List Item) : List Value := l.flatMap Item.five
theorem fives_len (l : List Item) : (fives l).length = l.length * 5 := by
  induction l with
  | nil => rfl
  | cons x l ih => simp only [fives, List.flatMap_cons, List.length_append, List.length_cons] at *; rw [ih]; simp [Item.five]; omega
theorem fives_at {l : List Item} {k : Nat} {i : Item} (h : l[k]? = some i) {j : Nat} (hj : j < 5) : (fives l)[k * 5 + j]? = i.five[j]? := by
  induction l generalizing k with
  | nil => simp at h
  | cons x l ih =>
    cases k with
    | zero =>
      simp only [List.getElem?_cons_zero, Option.some.injEq] at h
      subst h
      simp only [fives, List.flatMap_cons, Nat.zero_mul, Nat.zero_add]
      rw [List.getElem?_append_left (by simpa [Item.five] using hj)]
    | succ k =>
      simp only [List.getElem?_cons_succ] at h
      have := ih h
      simp only [fives, List.flatMap_cons]
      rw [List.getElem?_append_right (by simp [Item.five]; omega)]
      have e : (k + 1) * 5 + j - x.five.length = k * 5 + j := by simp [Item.five]; omega
      rw [e]; exact this
/- a list of events that a call has made: a row of its own, and each one's tags apart from it -/
structure Made (N : Nat) (w : World) (lv : Value) (its : List Item) : Prop where
  row : w.ownsRow N 29 5 lv its.length (fives its)
  tags : ∀ it ∈ its, TagsAt w it.at' it.ev.tags ∧ ∀ a, it.at' = some a → lv.ownBlock ≠ some a.block ∧ a.block < w.heap.size
theorem Made.nil (N : Nat) (w : World) : Made N w (.slice none 0 0) [] := ⟨World.ownsRow_nil _ _ _ _, fun it h => by cases h⟩
theorem Made.more {N : Nat} {w w' : World} {lv : Value} {its : List Item} (h : Made N w lv its) (hb : Below w.heap.size w w') : Made N w' lv its :=
  ⟨own_below h.row hb, fun it hi => ⟨(h.tags it hi).1.below hb (Nat.le_refl _), fun a ha => ⟨((h.tags it hi).2 a ha).1, Nat.lt_of_lt_of_le ((h.tags it hi).2 a ha).2 hb.size⟩⟩⟩
theorem Made.push {N : Nat} {w wa : World} {lv : Value} {its : List Item} {o : Obj} {g cap : Nat} {i : Item} (h : Made N w lv its) (hi : TagsAt w i.at' i.ev.tags) (ha : ∀ a, i.at' = some a → lv.ownBlock ≠ some a.block ∧ a.block < w.heap.size)
    (hg : (w.alloc o).grownBy wa lv.ownBlock) (hown : wa.ownsRow N 29 5 (.slice (some ⟨g, 0, none⟩) (its.length + 1) cap) (its.length + 1) (fives its ++ i.five)) (hat : lv.ownBlock = some g ∨ g = (w.alloc o).heap.size) :
    Made N wa (.slice (some ⟨g, 0, none⟩) (its.length + 1) cap) (its ++ [i]) := by
  have hs := hg.size
  rw [World.size_alloc] at hs
  have key : ∀ x : Item, TagsAt w x.at' x.ev.tags → (∀ a, x.at' = some a → lv.ownBlock ≠ some a.block ∧ a.block < w.heap.size) → TagsAt wa x.at' x.ev.tags ∧ ∀ a, x.at' = some a → (Value.slice (some ⟨g, 0, none⟩) (its.length + 1) cap).ownBlock ≠ some a.block ∧ a.block < wa.heap.size := by
    intro x hx hxa
    refine ⟨fun h0 => ?_, fun a ha => ?_⟩
    · obtain ⟨b, off, hb, hc⟩ := hx h0
      refine ⟨b, off, hb, fun k hk => ?_⟩
      obtain ⟨h1, h2⟩ := hxa _ hb
      have hblk : wa.heap[b]? = w.heap[b]? := by
        rw [hg.block b (by rw [World.size_alloc]; simp only at h2; omega) (fun e => h1 e.symm), Below.heap_alloc _ _ _ h2]
      rw [← hc k hk]
      simp [World.cell?, hblk]
    · obtain ⟨h1, h2⟩ := hxa a ha
      refine ⟨?_, by omega⟩
      simp only [Value.ownBlock, ne_eq, Option.some.injEq]
      rcases hat with e | e
      · rintro rfl; exact h1 e
      · rw [World.size_alloc] at e; omega
  refine ⟨?_, fun x hx => ?_⟩
  · have e : fives (its ++ [i]) = fives its ++ i.five := by simp [fives]
    rw [e]
    simpa using hown
  · rcases List.mem_append.1 hx with hx | hx
    · exact key x (h.tags x hx).1 (h.tags x hx).2
    · simp only [List.mem_singleton] at hx
      rw [hx]; exact key i hi ha
theorem Made.evs {N : Nat} {w : World} {lv : Value} {its : List Item} (h : Made N w lv its) (hf : ∀ it ∈ its, Few 1048576 it.ev) : ∃ a cap, lv = .slice a its.length cap ∧ EvsAt w a its := by
  have key : ∀ it ∈ its, ItemOk w it := fun it hi => by
    have f := hf it hi
    refine ⟨(h.tags it hi).1, fun k hk => ?_, by have := f.tags; omega, by have := f.task; unfold maxLen; omega, by have := f.body; unfold maxLen; omega⟩
    rw [List.getElem?_eq_getElem hk]
    have := f.each _ (List.getElem_mem hk)
    simp only [Option.getD_some]
    unfold maxLen
    omega
  rcases h.row.2 with ⟨h1, h2⟩ | ⟨g, cap, cur, hv, _, hg, _, _, _, hx⟩
  · rw [h1]
    refine ⟨none, 0, by rw [h2], fun h0 => by omega⟩
  · refine ⟨some ⟨g, 0, none⟩, cap, hv, fun _ => ⟨g, 0, rfl, fun k i hk => ⟨?_, key i (List.mem_of_getElem? hk)⟩⟩⟩
    have hc : ∀ j, j < 5 → w.cell? ⟨g, 0 + k * 5 + j, none⟩ = i.five[j]? := fun j hj => by
      have h5 := fives_at hk hj
      rw [← hx] at h5
      have hkl := (List.getElem?_eq_some_iff.1 hk).1
      have hlt : k * 5 + j < its.length * 5 := by
        have : (k + 1) * 5 ≤ its.length * 5 := Nat.mul_le_mul_right _ hkl
        omega
      rw [List.getElem?_take_of_lt hlt] at h5
      rw [Nat.zero_add]
      simpa [World.cell?, hg] using h5
    exact ⟨hc 0 (by omega), hc 1 (by omega), hc 2 (by omega), hc 3 (by omega), hc 4 (by omega)⟩
end Go.Proofs.YtdjllnhahhjgmaaGreatDoor
namespace Go.Proofs.YtdjllnhahhjgmaaGreatDoor
open Go.RowKit Chron
def caps (l : List Item) : List Ev := l.map fun i => capE i.ev
/- what is left of the reading of a list: a place for the next thing, or one behind the list -/
def restL (q eo : Option (List UInt8)) : Option (List Ev × List UInt8) :=
  match eo with
  | some r => some ([], r)
  | none => match q with
    | some t => itemsL eventL event_one t
    | none => none
def AllR (s : ByteArray) (w : World) (N : Nat) (lv : Value) (ok : Bool) : Prop :=
  match allL s.data.toList with
  | some es => ok = true ∧ ∃ its, Made N w lv its ∧ caps its = es ∧ ∀ it ∈ its, Few 1048576 it.ev
  | none => ok = false
structure Sofar (s : ByteArray) (acc : List Item) (q eo : Option (List UInt8)) : Prop where
  goal : listL eventL event_one s.data.toList = (restL q eo).map fun x => (caps acc ++ x.1, x.2)
  few : (q = none ∧ eo = none) ∨ ∀ it ∈ acc, Few 1048576 it.ev
  sq : ∀ r, q = some r → Suf s r
  se : ∀ r, eo = some r → Suf s r
  len : ∀ t, q = some t → acc.length + t.length ≤ s.size
theorem few_cap {n : Nat} {E : Ev} (h : Few n (capE E)) : Few n E := ⟨h.tags, h.each, h.task, h.body⟩
theorem few_mono {n m : Nat} {E : Ev} (h : Few n E) (hm : n ≤ m) : Few m E := ⟨Nat.le_trans h.tags hm, fun t ht => Nat.le_trans (h.each t ht) hm, Nat.le_trans h.task hm, Nat.le_trans h.body hm⟩
theorem Sofar.start (s : ByteArray) : Sofar s [] (signL 91 s.data.toList) ((signL 91 s.data.toList).bind (signL 93)) := by
  refine ⟨?_, .inr (fun it h => by cases h), fun r h => (sign_suf h).1, fun r h => ?_, fun t h => ?_⟩
  · unfold listL restL
    cases h1 : signL 91 s.data.toList with
    | none => rfl
    | some r =>
      simp only [Option.bind_some]
      cases h2 : signL 93 r with
      | none => simp [caps]
      | some r2 => rfl
  · cases h1 : signL 91 s.data.toList with
    | none => rw [h1] at h; cases h
    | some r0 => rw [h1] at h; exact (sign_suf h).1.trans (sign_suf h1).1
  · have := (sign_suf h).2
    simp only [List.length_nil]
    have e : s.data.toList.length = s.size := by simp
    omega
/- the place behind an event -/
def nextO (t : List UInt8) : Option (List UInt8) := (eventL t).map (·.2)
theorem Sofar.step {s : ByteArray} {acc : List Item} {t : List UInt8} {i : Item} {p : Int} (h : Sofar s acc (some t) none) (hs : s.size ≤ 1048576) (hE : EvR s (some t) i.ev p) :
    p = pos s (nextO t) ∧ (∀ r, nextO t = some r → Suf s r) ∧ Sofar s (acc ++ [i]) ((nextO t).bind (signL 44)) ((nextO t).bind (signL 93)) := by
  unfold EvR at hE
  simp only [Option.bind_some] at hE
  have hst := h.sq t rfl
  have hfew : ∀ it ∈ acc, Few 1048576 it.ev := by
    rcases h.few with ⟨h1, _⟩ | h1
    · cases h1
    · exact h1
  cases he : eventL t with
  | none =>
    rw [he] at hE
    have hn : nextO t = none := by unfold nextO; rw [he]; rfl
    refine ⟨by rw [hn]; exact hE, (fun r hr => by rw [hn] at hr; cases hr), ?_⟩
    rw [hn]
    refine ⟨?_, .inl ⟨rfl, rfl⟩, (fun r hr => by cases hr), (fun r hr => by cases hr), (fun r hr => by cases hr)⟩
    rw [h.goal]
    simp only [restL, items_none he, Option.bind_none, Option.map_none]
  | some x =>
    obtain ⟨e', r⟩ := x
    rw [he] at hE
    obtain ⟨h1, h2, h3⟩ := hE
    have hn : nextO t = some r := by unfold nextO; rw [he]; rfl
    have hlt := (event_suf he).2
    have hci : caps (acc ++ [i]) = caps acc ++ [e'] := by simp [caps, h1]
    have hfi : Few 1048576 i.ev := by
      have f := event_few he
      rw [← h1] at f
      exact few_mono (few_cap f) (by have := hst.le; omega)
    have hl := h.len t rfl
    refine ⟨by rw [hn]; exact h2, fun y hy => by rw [hn] at hy; rw [← Option.some.inj hy]; exact h3, ?_⟩
    rw [hn]
    simp only [Option.bind_some]
    refine ⟨?_, .inr ?_, fun y hy => h3.trans (sign_suf hy).1, fun y hy => h3.trans (sign_suf hy).1, fun y hy => ?_⟩
    · rw [h.goal, hci]
      cases h44 : signL 44 r with
      | some r2 =>
        have h93 := sign_other (d := 93) h44 (by decide)
        simp only [restL, h93, items_more he h44, Option.map_map]
        congr 1
        funext y
        simp
      | none =>
        simp only [restL, items_last he h44]
        cases h93 : signL 93 r with
        | none => rfl
        | some r3 => simp
    · intro it hit
      rcases List.mem_append.1 hit with hit | hit
      · exact hfew it hit
      · simp only [List.mem_singleton] at hit; rw [hit]; exact hfi
    · have := (sign_suf hy).2
      simp only [List.length_append, List.length_singleton]
      omega
theorem Sofar.done {s : ByteArray} {w : World} {N : Nat} {lv : Value} {acc : List Item} {q eo : Option (List UInt8)} (h : Sofar s acc q eo) (hd : q = none ∨ eo ≠ none) (hm : Made N w lv acc) :
    AllR s w N lv (match eo with | some r => decide (skipL r = []) | none => false) := by
  unfold AllR allL
  rw [h.goal]
  cases eo with
  | none =>
    rcases hd with hd | hd
    · subst hd; rfl
    · exact absurd rfl hd
  | some r =>
    have hfew : ∀ it ∈ acc, Few 1048576 it.ev := by
      rcases h.few with ⟨_, h1⟩ | h1
      · cases h1
      · exact h1
    simp only [restL, Option.map_some, List.append_nil]
    by_cases hr : skipL r = []
    · simp only [hr, if_true, decide_true]
      exact ⟨trivial, acc, hm, rfl, hfew⟩
    · simp [hr]
theorem five_new (X : World) (i : Item) : ∀ j u, i.five[j]? = some u → (X.alloc (.cells #[.int .i64 i.ev.kind, .string i.ev.task, .int .i64 i.ev.time, .string i.ev.body, .slice i.at' i.ev.tags.length i.cap] 29)).cell? ((⟨X.heap.size, 0, none⟩ : Addr).add j) = some u := by
  intro j u hj
  have hh := heap_alloc_new X (.cells #[.int .i64 i.ev.kind, .string i.ev.task, .int .i64 i.ev.time, .string i.ev.body, .slice i.at' i.ev.tags.length i.cap] 29)
  rw [Go.WideShapes.add_plain]
  simp only [World.cell?, hh, Nat.zero_add]
  simpa [Item.five] using hj
theorem five_one (i : Item) : ∀ u ∈ i.five, u.oneCell' = true := by
  intro u hu
  simp only [Item.five, List.mem_cons, List.mem_nil_iff, or_false] at hu
  rcases hu with rfl | rfl | rfl | rfl | rfl <;> rfl
set_option maxRecDepth 100000 in
set_option maxHeartbeats 4000000 in
theorem allRef_any (s : ByteArray) (w : World) (hs : s.size ≤ 1048576) :
    Calls Tryz.prog 24 #[.string s] w fun e w' => ∃ lv z, e = .returned (.tuple #[lv, z]) ∧ Hid (∃ ok, z = .bool ok ∧ AllR s w' w.heap.size lv ok) ∧ Below w.heap.size w w' := by
  obtain ⟨i0, hi, hz0, hz1, hz2⟩ := info_parts infoEvent5
  have hp0 : pos s (some s.data.toList) = 0 := by simp [pos]
  have hS1 := sign_any s s.data.toList 91 91 rfl w List.suffix_rfl hs
  rw [hp0] at hS1
  have HS0 := hide0 (Sofar.start s)
  generalize hq0 : signL 91 s.data.toList = q0 at hS1 HS0
  have hS2 := sign_pos s q0 93 93 rfl w (fun r hr => by rw [hr] at hq0; exact (sign_suf hq0).1) hs
  generalize q0.bind (signL 93) = e0 at hS2 HS0
  obtain ⟨p1, hp1, HP1⟩ : ∃ p1, pos s q0 = p1 ∧ Hid (pos s q0 = p1) := ⟨_, rfl, rfl⟩
  obtain ⟨p2, hp2, HP2⟩ : ∃ p2, pos s e0 = p2 ∧ Hid (pos s e0 = p2) := ⟨_, rfl, rfl⟩
  rw [hp1] at hS1 hS2
  rw [hp2] at hS2
  clear hp1 hp2 hp0 hq0
  go_enter Tryz.func24, Tryz.ntmps24
  go_wp2_with fail
  refine hS1.mono ?_
  rintro e w1 ⟨rfl, hw1⟩
  have hw2 := hw1.symm
  subst hw2
  clear hw1 hS1
  go_wp2_with fail
  refine hS2.mono ?_
  rintro e w2 ⟨rfl, hw3⟩
  have hw4 := hw3.symm
  subst hw4
  clear hw3 hS2
  go_wp2_with fail
  go_loopw [4, 5, 6] (fun av ev xv wx => ∃ (p pe : Int) (q eo : Option (List UInt8)) (acc : List Item) (lv : Value), av = .int .i64 p ∧ ev = .int .i64 pe ∧ xv = lv ∧ Hid (pos s q = p ∧ pos s eo = pe) ∧ acc.length ≤ 1048577 ∧ Hid (Sofar s acc q eo) ∧ Hid (Made w.heap.size wx lv acc) ∧ Hid (Below w.heap.size w wx)) (fun av _ _ _ => left s.size (intOf av))
  case atStart => exact ⟨p1, p2, q0, e0, [], .slice none 0 0, rfl, rfl, rfl, ⟨HP1.out, HP2.out⟩, by decide, HS0, Made.nil _ _, Below.refl _ _⟩
  case round =>
    obtain ⟨p, pe, q, eo, acc, lv, rfl, rfl, hxv, HP, hacc, HS, HM, HB⟩ := hrel
    have hxw := hxv.symm
    subst hxw
    clear hxv
    match q, eo, HS, HP with
    | none, none, HS, HP =>
      have hp : p = -1 := HP.out.1.symm
      subst hp
      have HF : Hid (AllR s wr w.heap.size lv false) := HS.out.done (.inl rfl) HM.out
      have hpe : pe = -1 := HP.out.2.symm
      subst hpe
      go_wp2
      go_ret2
      exact ⟨lv, .bool false, rfl, ⟨false, rfl, HF.out⟩, HB.out⟩
    | none, some r, HS, HP =>
      have hp : p = -1 := HP.out.1.symm
      subst hp
      have hsr := HS.out.se r rfl
      have HF : Hid (AllR s wr w.heap.size lv (decide (skipL r = []))) := HS.out.done (Or.inl rfl) HM.out
      have hpe0 : 0 ≤ pe := by rw [← HP.out.2]; have := hsr.le; simp only [pos]; omega
      have hB := behind_any s r wr hsr hs
      rw [HP.out.2] at hB
      obtain ⟨b, hb, HBB⟩ : ∃ b : Int, pos s (some (skipL r)) = b ∧ Hid ((b == (s.size : Int)) = decide (skipL r = [])) := by
        refine ⟨_, rfl, ?_⟩
        show _ = _
        have hle := (hsr.trans (skip_suf r)).le
        rw [Bool.eq_iff_iff]
        simp only [pos, beq_iff_eq, decide_eq_true_eq]
        constructor
        · intro h; exact List.eq_nil_of_length_eq_zero (by omega)
        · intro h; rw [h]; simp
      rw [hb] at hB
      clear hb
      generalize decide (skipL r = []) = ok at HF HBB
      have hcmp := HBB.out
      go_wp2_with fail
      refine hB.mono ?_
      rintro e w3 ⟨rfl, hw5⟩
      have hw6 := hw5.symm
      subst hw6
      clear hw5 hB
      go_wp2
      go_ret2
      exact ⟨lv, .bool ok, rfl, ⟨ok, rfl, HF.out⟩, HB.out⟩
    | some t, some r, HS, HP =>
      have hst := HS.out.sq t rfl
      have hp0 : 0 ≤ p := by rw [← HP.out.1]; have := hst.le; simp only [pos]; omega
      have hsr := HS.out.se r rfl
      have HF : Hid (AllR s wr w.heap.size lv (decide (skipL r = []))) := HS.out.done (Or.inr (by simp)) HM.out
      have hpe0 : 0 ≤ pe := by rw [← HP.out.2]; have := hsr.le; simp only [pos]; omega
      have hB := behind_any s r wr hsr hs
      rw [HP.out.2] at hB
      obtain ⟨b, hb, HBB⟩ : ∃ b : Int, pos s (some (skipL r)) = b ∧ Hid ((b == (s.size : Int)) = decide (skipL r = [])) := by
        refine ⟨_, rfl, ?_⟩
        show _ = _
        have hle := (hsr.trans (skip_suf r)).le
        rw [Bool.eq_iff_iff]
        simp only [pos, beq_iff_eq, decide_eq_true_eq]
        constructor
        · intro h; exact List.eq_nil_of_length_eq_zero (by omega)
        · intro h; rw [h]; simp
      rw [hb] at hB
      clear hb
      generalize decide (skipL r = []) = ok at HF HBB
      have hcmp := HBB.out
      go_wp2_with fail
      refine hB.mono ?_
      rintro e w3 ⟨rfl, hw5⟩
      have hw6 := hw5.symm
      subst hw6
      clear hw5 hB
      go_wp2
      go_ret2
      exact ⟨lv, .bool ok, rfl, ⟨ok, rfl, HF.out⟩, HB.out⟩
    | some t, none, HS, HP =>
      have hst := HS.out.sq t rfl
      have hp0 : 0 ≤ p := by rw [← HP.out.1]; have := hst.le; simp only [pos]; omega
      have hpe : pe = -1 := HP.out.2.symm
      subst hpe
      have hE := eventRef_any s (some t) wr (fun x hx => by rw [← Option.some.inj hx]; exact hst) hs
      rw [HP.out.1] at hE
      have hszb := HB.out.size
      go_wp2_with fail
      refine hE.mono ?_
      rintro e w3 ⟨E, v, pn, rfl, hEv, hvo, hb3⟩
      obtain ⟨va, vc, hve, hvt⟩ := own_tags hvo
      subst hve
      obtain ⟨hpn, hnS, hSt⟩ := HS.out.step (i := ⟨E, va, vc⟩) hs hEv
      have HM3 := hide0 (HM.out.more hb3)
      have HB3 := hide0 (HB.out.trans (hb3.mono hszb))
      have HVA : Hid (∀ a, va = some a → lv.ownBlock ≠ some a.block ∧ a.block < w3.heap.size) := by
        intro a ha
        subst ha
        have hl := hvo.lt a.block (by rfl)
        refine ⟨fun e => ?_, hl.2⟩
        have := (HM.out.row.lt _ e).2
        omega
      have HVT := hide0 hvt
      have HST := hide0 hSt
      have hS93 := fun X => sign_pos s (nextO t) 93 93 rfl X hnS hs
      have hS44 := fun X => sign_pos s (nextO t) 44 44 rfl X hnS hs
      rw [← hpn] at hS93 hS44
      have HL : Hid (left s.size (pos s ((nextO t).bind (signL 44))) < left s.size p) := by
        have hpp := HP.out.1
        simp only [pos] at hpp
        have hle := hst.le
        show left _ _ < left _ _
        cases h44 : (nextO t).bind (signL 44) with
        | none =>
          show left s.size (-1) < left s.size p
          simp only [left]
          rw [if_pos (by omega), if_neg (by omega)]
          omega
        | some r2 =>
          have hr2 := HST.out.sq r2 h44
          have hle2 := hr2.le
          have hlen : r2.length < t.length := by
            unfold nextO at h44
            cases he : eventL t with
            | none => rw [he] at h44; cases h44
            | some x =>
              rw [he] at h44
              simp only [Option.map_some, Option.bind_some] at h44
              have h1 := (event_suf (e := x.1) (r := x.2) he).2
              have h2 := (sign_suf h44).2
              omega
          show left s.size ((s.size : Int) - (r2.length : Int)) < left s.size p
          simp only [left]
          rw [if_neg (by omega), if_neg (by omega)]
          omega
      generalize (nextO t).bind (signL 44) = q' at hS44 HST HL
      generalize (nextO t).bind (signL 93) = e' at hS93 HST
      obtain ⟨p4, hp4, HP4⟩ : ∃ p4, pos s q' = p4 ∧ Hid (pos s q' = p4) := ⟨_, rfl, rfl⟩
      obtain ⟨p5, hp5, HP5⟩ : ∃ p5, pos s e' = p5 ∧ Hid (pos s e' = p5) := ⟨_, rfl, rfl⟩
      rw [hp4] at hS44 HL
      rw [hp5] at hS93
      have hal : acc.length + 1 ≤ 1048577 := by have h9 := HS.out.len t rfl; omega
      have hszm := hb3.size
      clear hp4 hp5 hpn hE hvo hb3 hEv hSt hvt
      obtain ⟨E0, E1, E2, E3, E4⟩ := E
      simp only [evVal]
      simp only at HVT
      have h3b : w.heap.size ≤ w3.heap.size := by omega
      have HM3b := hide0 (HM3.out.more ((Below.refl _ _).alloc (Nat.le_refl _) (.cells #[.int .i64 E0, .string E1, .int .i64 E2, .string E3, .slice va E4.length vc] 29)))
      have hNew := five_new (w3.alloc (.cells #[.int .i64 E0, .string E1, .int .i64 E2, .string E3, .slice va E4.length vc] 29)) ⟨⟨E0, E1, E2, E3, E4⟩, va, vc⟩
      rw [World.size_alloc] at hNew
      have hbase : w.heap.size ≤ ((w3.alloc (.cells #[.int .i64 E0, .string E1, .int .i64 E2, .string E3, .slice va E4.length vc] 29)).alloc (.cells #[.int .i64 E0, .string E1, .int .i64 E2, .string E3, .slice va E4.length vc] 29)).heap.size := by simp only [World.size_alloc]; omega
      go_wp2_with (first
        | (at_builtin; go_must (refine wpList_append_lies _ rfl _ _ 23 rfl w.heap.size 29 i0 (.agg #[.int .i64 0, .string ⟨#[]⟩, .int .i64 0, .string ⟨#[]⟩, .slice none 0 0]) 5 72 Tryz.underlying23 hi hz0 hz1 hz2 rfl (by decide) lv acc.length (fives acc) rfl (HM3b.out.row.alloc _) ⟨w3.heap.size + 1, 0, none⟩ 1 1 (Item.five ⟨⟨E0, E1, E2, E3, E4⟩, va, vc⟩) rfl rfl hNew (five_one _) Nat.one_pos (by unfold maxLen; omega) (by omega) hbase _ rfl ?_)
           intro g cap wa hown hgr hat hlt))
      have hMade := HM3b.out.push (i := ⟨⟨E0, E1, E2, E3, E4⟩, va, vc⟩) (HVT.out.alloc _) (fun a ha => ⟨(HVA.out a ha).1, Nat.lt_of_lt_of_le (HVA.out a ha).2 (by simp)⟩) hgr hown hat
      have HMd := hide0 hMade
      have HBd := hide0 (Below.grown ((HB3.out.alloc h3b _).alloc (by simp only [World.size_alloc]; omega) _) hgr hbase (fun q hq => (HM3b.out.row.lt q hq).1))
      clear hMade hgr hown hat hlt
      go_wp2_with fail
      refine (hS93 _).mono ?_
      rintro e w5 ⟨rfl, hw5⟩
      have hw6 := hw5.symm
      subst hw6
      clear hw5 hS93
      go_wp2_with fail
      refine (hS44 _).mono ?_
      rintro e w6 ⟨rfl, hw7⟩
      have hw8 := hw7.symm
      subst hw8
      clear hw7 hS44
      go_wp2
      go_roundw
      case rel => exact ⟨p4, p5, q', e', acc ++ [⟨⟨E0, E1, E2, E3, E4⟩, va, vc⟩], _, rfl, rfl, rfl, ⟨HP4.out, HP5.out⟩, by simp; omega, HST, HMd, HBd⟩
      case measure => exact HL.out
end Go.Proofs.YtdjllnhahhjgmaaGreatDoor
namespace Go.Proofs.YtdjllnhahhjgmaaGreatDoor
open Go.RowKit Chron
def Item.tv (i : Item) : Value := .slice i.at' i.ev.tags.length i.cap
def tagBs (its : List Item) : List Nat := its.filterMap fun i => i.tv.ownBlock
structure MadeO (N : Nat) (w : World) (lv : Value) (its : List Item) : Prop where
  row : w.ownsRow N 29 5 lv its.length (fives its)
  tags : ∀ it ∈ its, w.ownsRow N 9 1 it.tv it.ev.tags.length (it.ev.tags.map Value.string)
  apart : ∀ q ∈ tagBs its, lv.ownBlock ≠ some q
  dist : (tagBs its).Nodup
theorem tagBs_mem {its : List Item} {q : Nat} : q ∈ tagBs its ↔ ∃ it ∈ its, it.tv.ownBlock = some q := by simp [tagBs, List.mem_filterMap]
theorem MadeO.nil (N : Nat) (w : World) : MadeO N w (.slice none 0 0) [] := ⟨World.ownsRow_nil _ _ _ _, fun it h => (by cases h), fun q h => (by cases h), List.nodup_nil⟩
theorem MadeO.keep {N : Nat} {w w' : World} {lv : Value} {its : List Item} (h : MadeO N w lv its) (hb : ∀ q, N ≤ q → q < w.heap.size → w'.heap[q]? = w.heap[q]?) : MadeO N w' lv its :=
  ⟨own_of_block h.row fun q hq => hb q (h.row.lt _ hq).1 (h.row.lt _ hq).2, fun it hi => own_of_block (h.tags it hi) fun q hq => hb q ((h.tags it hi).lt _ hq).1 ((h.tags it hi).lt _ hq).2, h.apart, h.dist⟩
theorem MadeO.far {N R : Nat} {w w' : World} {lv : Value} {its : List Item} (h : MadeO N w lv its) (hf : Far w w' [some R]) (hR : R < N) : MadeO N w' lv its :=
  h.keep fun q h1 h2 => hf.block q h2 (by simp; omega)
theorem MadeO.alloc {N : Nat} {w : World} {lv : Value} {its : List Item} (h : MadeO N w lv its) (o : Obj) : MadeO N (w.alloc o) lv its :=
  h.keep fun _ _ h2 => Below.heap_alloc _ _ _ h2
theorem MadeO.tag_lt {N : Nat} {w : World} {lv : Value} {its : List Item} (h : MadeO N w lv its) {q : Nat} (hq : q ∈ tagBs its) : N ≤ q ∧ q < w.heap.size := by
  obtain ⟨it, hi, hb⟩ := tagBs_mem.1 hq
  exact (h.tags it hi).lt _ hb
theorem MadeO.push {N : Nat} {w wa : World} {lv : Value} {its : List Item} {o : Obj} {g cap M : Nat} {i : Item} (h : MadeO N w lv its) (hi : w.ownsRow M 9 1 i.tv i.ev.tags.length (i.ev.tags.map Value.string)) (hM : N ≤ M) (hlv : ∀ q, lv.ownBlock = some q → q < M) (hts : ∀ q ∈ tagBs its, q < M)
    (hg : (w.alloc o).grownBy wa lv.ownBlock) (hown : wa.ownsRow N 29 5 (.slice (some ⟨g, 0, none⟩) (its.length + 1) cap) (its.length + 1) (fives its ++ i.five)) (hat : lv.ownBlock = some g ∨ g = (w.alloc o).heap.size) :
    MadeO N wa (.slice (some ⟨g, 0, none⟩) (its.length + 1) cap) (its ++ [i]) := by
  have hs := hg.size
  rw [World.size_alloc] at hs
  have key : ∀ q, q < w.heap.size → lv.ownBlock ≠ some q → wa.heap[q]? = w.heap[q]? := fun q hq hne => by
    rw [hg.block q (by rw [World.size_alloc]; omega) (fun e => hne e.symm), Below.heap_alloc _ _ _ hq]
  have hlvi : ∀ q, i.tv.ownBlock = some q → lv.ownBlock ≠ some q := fun q hq e => by have := hlv q e; have := (hi.lt _ hq).1; omega
  have hbs : tagBs (its ++ [i]) = tagBs its ++ tagBs [i] := by simp [tagBs, List.filterMap_append]
  have hone : ∀ q, q ∈ tagBs [i] ↔ i.tv.ownBlock = some q := fun q => by rw [tagBs_mem]; simp
  refine ⟨?_, fun x hx => ?_, fun q hq => ?_, ?_⟩
  · have e : fives (its ++ [i]) = fives its ++ i.five := by simp [fives]
    rw [e]; simpa using hown
  · rcases List.mem_append.1 hx with hx | hx
    · exact own_of_block (h.tags x hx) fun q hq => key q ((h.tags x hx).lt _ hq).2 (h.apart q (tagBs_mem.2 ⟨x, hx, hq⟩))
    · simp only [List.mem_singleton] at hx
      rw [hx]
      exact own_mono (own_of_block hi fun q hq => key q (hi.lt _ hq).2 (hlvi q hq)) hM
  · rw [hbs, List.mem_append, hone] at hq
    have hne : lv.ownBlock ≠ some q ∧ q < w.heap.size := by
      rcases hq with hq | hq
      · exact ⟨h.apart q hq, (h.tag_lt hq).2⟩
      · exact ⟨hlvi q hq, (hi.lt _ hq).2⟩
    simp only [Value.ownBlock, ne_eq, Option.some.injEq]
    rcases hat with e | e
    · rintro rfl; exact hne.1 e
    · rw [World.size_alloc] at e; omega
  · rw [hbs, List.nodup_append]
    refine ⟨h.dist, ?_, ?_⟩
    · simp only [tagBs, List.filterMap_cons, List.filterMap_nil]
      split <;> simp
    · intro a ha b hb
      rw [hone] at hb
      have := hts a ha
      have := (hi.lt _ hb).1
      omega
theorem MadeO.made {N : Nat} {w : World} {lv : Value} {its : List Item} (h : MadeO N w lv its) : Made N w lv its := by
  refine ⟨h.row, fun it hi => ?_⟩
  have ho := h.tags it hi
  obtain ⟨a, cap, hv, ht⟩ := own_tags ho
  have e1 : it.at' = a := by
    have := hv
    simp only [Item.tv, Value.slice.injEq] at this
    exact this.1
  refine ⟨by rw [e1]; exact ht, fun b hb => ?_⟩
  have hq : it.tv.ownBlock = some b.block := by simp only [Item.tv, hb, Value.ownBlock]
  exact ⟨h.apart _ (tagBs_mem.2 ⟨it, hi, hq⟩), (ho.lt _ hq).2⟩
theorem event_skip (l : List UInt8) : eventL (skipL l) = eventL l := by
  unfold eventL
  rw [steps_mem, steps_mem, sign_skip]
def ie (i : Item) : Ev := i.ev
end Go.Proofs.YtdjllnhahhjgmaaGreatDoor
namespace Go.Proofs.YtdjllnhahhjgmaaGreatDoor
open Go.RowKit Chron
theorem MadeO.lts {N : Nat} {w : World} {lv : Value} {its : List Item} (h : MadeO N w lv its) : (∀ q, lv.ownBlock = some q → q < w.heap.size) ∧ ∀ q ∈ tagBs its, q < w.heap.size := ⟨fun q hq => (h.row.lt q hq).2, fun _ hq => (h.tag_lt hq).2⟩
theorem len_event (l : List UInt8) : (stL (oneR (eventL l))).length ≤ l.length := by
  cases hq : eventL l with
  | none => simp [oneR, stL]
  | some p => have := (event_suf (e := p.1) (r := p.2) hq).2; simp only [oneR, Option.map_some, stL]; omega
theorem take_len {c : UInt8} {l : List UInt8} (h : signL c l = none) : (takeL c l).length ≤ l.length := by rw [take_skip h]; exact (skip_suf l).length_le
set_option maxRecDepth 100000 in
set_option maxHeartbeats 4000000 in
theorem revents_any (B R : Nat) (l : List UInt8) (b : Bool) (w : World) (G : Hid (Glob B w)) (hBR : Hid (B ≤ R)) (h : Hid (Rd R w l b)) (hl : l.length ≤ 1048576) :
    Calls Tryz.prog 40 #[.pointer (some ⟨R, 0, none⟩), .func (.func 41) #[.pointer (some ⟨R, 0, none⟩)] #[]] w fun e w' => ∃ (lv : Value) (its : List Item), e = .returned lv ∧ Hid (St R w' b (lisR (listL eventL event_one l))) ∧ Hid (MadeO w.heap.size w' lv its) ∧ Hid (∀ p, listL eventL event_one l = some p → its.map ie = p.1) ∧ Hid (Far w w' [some R]) := by
  obtain ⟨i0, hi, hz0, hz1, hz2⟩ := info_parts infoEvent5
  have hRw := h.out.lt
  have hS : (stL (signL 91 l)).length ≤ 1048576 := Nat.le_trans (len_sign 91 l) hl
  have hST := fun (h93 : signL 93 (stL (signL 91 l)) = none) (v : Item) => ListR.start eventL event_one (l := l) (b := b) (f := ie) (v := v) event_skip h93
  have HST := hide0 hST
  have HTL : Hid (∀ r r2, signL 91 l = some r → signL 93 r = some r2 → listL eventL event_one l = some ([], r2)) := by
    intro r r2 h1 h2
    rw [listL, h1]; simp only [h2]
  have HNL : Hid (signL 91 l = none → signL 93 (stL (signL 91 l)) = none) := fun h1 => by rw [h1]; rfl
  have hN := need_any R l b 91 91 rfl w h hl
  clear hST
  go_enter Tryz.func40, Tryz.ntmps40
  go_wp2_with fail
  refine hN.mono ?_
  rintro e w1 ⟨rfl, H1, HF1⟩
  have hT := take_any R _ _ 93 93 rfl w1 H1 hS
  cases hq : signL 93 (stL (signL 91 l)) with
  | some r2 =>
    obtain ⟨r, hr⟩ : ∃ r, signL 91 l = some r := by
      cases h91 : signL 91 l with
      | none => have := HNL.out h91; rw [hq] at this; cases this
      | some r => exact ⟨r, rfl⟩
    have hq2 := hq
    rw [hr] at hq2
    have HQ := hide0 (HTL.out r r2 hr hq2)
    rw [hq, st_take hq] at hT
    have e1 : (some r2 : Option (List UInt8)).isSome = true := rfl
    rw [e1] at hT
    have HB : Hid (stB b (signL 91 l) = b) := by rw [Hid, hr]; rfl
    clear hq2 hr hq e1
    go_wp2_with fail
    refine hT.mono ?_
    rintro e w2 ⟨rfl, H2, HF2⟩
    rw [HB.out] at H2
    go_wp2
    go_ret
    exact ⟨_, [], rfl, by rw [HQ.out]; exact H2, MadeO.nil _ _, (by rw [HQ.out]; intro p hp; rw [← Option.some.inj hp]; rfl), HF1.out.trans HF2.out⟩
  | none =>
    rw [hq, take_skip hq] at hT
    have e1 : (none : Option (List UInt8)).isSome = false := rfl
    rw [e1] at hT
    have HST2 := hide0 (HST.out hq)
    have hsk := (skip_suf (stL (signL 91 l))).length_le
    clear hq e1 HST HTL HNL
    generalize stL (signL 91 l) = l1 at hS hT HST2 hsk H1
    generalize stB b (signL 91 l) = b1 at hT HST2 H1
    go_wp2_with fail
    refine hT.mono ?_
    rintro e w2 ⟨rfl, H2, HF2⟩
    have HF2' : Hid (Far w w2 [some R]) := HF1.out.trans HF2.out
    have G2 := hide0 (G.out.far hBR.out HF2'.out)
    clear HF1 HF2
    go_wp2_with fail
    refine (revent_any B R _ _ _ G2 hBR H2 (by omega)).mono ?_
    rintro e w3 ⟨E, x, rfl, H3, HV3, HO3, HF3⟩
    obtain ⟨va, vc, hve, _⟩ := own_tags HO3.out
    subst hve
    obtain ⟨E0, E1, E2, E3, E4⟩ := E
    simp only [evVal]
    have hs2 := HF2'.out.size
    have hs3 := HF3.out.size
    have HL0 := hide0 (HST2.out ⟨⟨E0, E1, E2, E3, E4⟩, va, vc⟩ (fun p hp => HV3.out p hp))
    have hR0 := len_event (skipL l1)
    have H4 : Hid (Rd R (w3.alloc (.cells #[.int .i64 E0, .string E1, .int .i64 E2, .string E3, .slice va E4.length vc] 29)) (stL (oneR (eventL (skipL l1)))) (stB b1 (oneR (eventL (skipL l1))))) := Rd.more H3.out ((Below.refl _ _).alloc (Nat.le_refl _) _)
    have HF4 : Hid (Far w (w3.alloc (.cells #[.int .i64 E0, .string E1, .int .i64 E2, .string E3, .slice va E4.length vc] 29)) [some R]) := (HF2'.out.trans HF3.out).alloc _
    have HO4 : Hid (MadeO w.heap.size (w3.alloc (.cells #[.int .i64 E0, .string E1, .int .i64 E2, .string E3, .slice va E4.length vc] 29)) (.slice (some ⟨w3.heap.size, 0, none⟩) 1 1) [⟨⟨E0, E1, E2, E3, E4⟩, va, vc⟩]) := by
      refine ⟨World.ownsRow_lit w3 #[.int .i64 E0, .string E1, .int .i64 E2, .string E3, .slice va E4.length vc] 1 (by omega) (by decide) rfl, fun it hit => ?_, fun q hq => ?_, ?_⟩
      · simp only [List.mem_singleton] at hit
        subst hit
        exact own_mono (HO3.out.alloc _) (by omega)
      · obtain ⟨it, hit, hb⟩ := tagBs_mem.1 hq
        simp only [List.mem_singleton] at hit
        subst hit
        have := (HO3.out.lt _ hb).2
        simp only [Value.ownBlock, ne_eq, Option.some.injEq]; omega
      · simp only [tagBs, List.filterMap_cons, List.filterMap_nil]
        split <;> simp
    clear HST2 H1 H2 HF2' G2 H3 HV3 HF3 hT hN HO3
    generalize stL (oneR (eventL (skipL l1))) = lr0 at HL0 H4 hR0
    generalize stB b1 (oneR (eventL (skipL l1))) = br0 at HL0 H4
    go_wp2_with fail
    go_loopw [5] (fun v wx => ∃ (vs : List Item) (lr : List UInt8) (br : Bool), 0 < vs.length ∧ vs.length + lr.length ≤ 1048577 ∧ lr.length ≤ 1048576 ∧ Hid (ListR eventL event_one (listL eventL event_one l) b ie vs lr br) ∧ Hid (Rd R wx lr br) ∧ Hid (MadeO w.heap.size wx v vs) ∧ Hid (Far w wx [some R])) (fun _ wx => restLen R wx)
    case atStart => exact ⟨[⟨⟨E0, E1, E2, E3, E4⟩, va, vc⟩], lr0, br0, by simp, by simp only [List.length_singleton]; omega, by omega, HL0, H4, HO4, HF4⟩
    case round =>
      obtain ⟨vs, lr, br, hvs, hsum, hlr, HL, HR, HO, HF⟩ := hrel
      have hT := take_any R lr br 44 44 rfl wr HR hlr
      cases hq : signL 44 lr with
      | none =>
        rw [hq, take_skip hq] at hT
        have e1 : (none : Option (List UInt8)).isSome = false := rfl
        rw [e1] at hT
        obtain ⟨d1, d2, d3⟩ := HL.out.done _ _ hq
        have HD1 := hide0 d1
        have HD2 := hide0 d2
        have HD3 := hide0 d3
        have hsk := (skip_suf lr).length_le
        clear d1 d2 d3 hq e1
        go_wp2_with fail
        refine hT.mono ?_
        rintro e w5 ⟨rfl, H5, HF5⟩
        go_wp2_with fail
        refine (need_any R _ _ 93 93 rfl _ H5 (by omega)).mono ?_
        rintro e w6 ⟨rfl, H6, HF6⟩
        rw [HD1.out, HD2.out] at H6
        have HO6 := hide0 ((HO.out.far HF5.out hRw).far HF6.out hRw)
        go_wp2
        go_ret
        exact ⟨_, vs, rfl, H6, HO6, HD3, (HF.out.trans HF5.out).trans HF6.out⟩
      | some r2 =>
        rw [hq, st_take hq] at hT
        have e1 : (some r2 : Option (List UInt8)).isSome = true := rfl
        rw [e1] at hT
        have hr2 := (sign_suf hq).2
        have hST := fun (v : Item) => HL.out.step eventL event_one (v := v) hq
        have HST := hide0 hST
        have hsh := len_event r2
        clear hq e1 hST
        go_wp2_with fail
        refine hT.mono ?_
        rintro e w5 ⟨rfl, H5, HF5⟩
        have HF5' := hide0 (HF.out.trans HF5.out)
        have G5 := hide0 (G.out.far hBR.out HF5'.out)
        have HO5 := hide0 (HO.out.far HF5.out hRw)
        go_wp2_with fail
        refine (revent_any B R _ _ _ G5 hBR H5 (by omega)).mono ?_
        rintro e w6 ⟨E, x, rfl, H6, HV6, HX6, HF6⟩
        obtain ⟨xa, xc, hve, _⟩ := own_tags HX6.out
        subst hve
        obtain ⟨F0, F1, F2, F3, F4⟩ := E
        simp only [evVal]
        have HF6' := hide0 (HF5'.out.trans HF6.out)
        have HO6 := hide0 (HO5.out.far HF6.out hRw)
        have hs5 := HF5'.out.size
        have hs6 := HF6.out.size
        have HL6 := hide0 (HST.out ⟨⟨F0, F1, F2, F3, F4⟩, xa, xc⟩ (fun p hp => HV6.out p hp))
        have H6' : Hid (Rd R w6 (stL (oneR (eventL r2))) (stB br (oneR (eventL r2)))) := H6
        have HLV := hide0 HO5.out.lts
        have hNew := five_new w6 ⟨⟨F0, F1, F2, F3, F4⟩, xa, xc⟩
        have hbase : w.heap.size ≤ (w6.alloc (.cells #[.int .i64 F0, .string F1, .int .i64 F2, .string F3, .slice xa F4.length xc] 29)).heap.size := by simp only [World.size_alloc]; omega
        have hrow := HO6.out.row
        clear HST H5 HF5 HF5' G5 H6 HV6 HF6 hT
        generalize stL (oneR (eventL r2)) = lr6 at HL6 H6' hsh
        generalize stB br (oneR (eventL r2)) = br6 at HL6 H6'
        go_wp2_with (first
          | (at_builtin; go_must (refine wpList_append_lies _ rfl _ _ 23 rfl w.heap.size 29 i0 (.agg #[.int .i64 0, .string ⟨#[]⟩, .int .i64 0, .string ⟨#[]⟩, .slice none 0 0]) 5 72 Tryz.underlying23 hi hz0 hz1 hz2 rfl (by decide) _ vs.length (fives vs) rfl (hrow.alloc _) ⟨w6.heap.size, 0, none⟩ 1 1 (Item.five ⟨⟨F0, F1, F2, F3, F4⟩, xa, xc⟩) rfl rfl hNew (five_one _) Nat.one_pos (by unfold maxLen; omega) (by omega) hbase _ rfl ?_)
             intro g cap wa hown hgr hat hlt))
        have HO7 := hide0 (HO6.out.push (i := ⟨⟨F0, F1, F2, F3, F4⟩, xa, xc⟩) HX6.out (by omega) HLV.out.1 HLV.out.2 hgr hown hat)
        have HF7 : Hid (Far w wa [some R]) := (HF6'.out.alloc _).grown hgr (fun q hq => .inr (hrow.lt _ hq).1)
        have H7 : Hid (Rd R wa lr6 br6) := by
          have h1 : Rd R (w6.alloc (.cells #[.int .i64 F0, .string F1, .int .i64 F2, .string F3, .slice xa F4.length xc] 29)) lr6 br6 := Rd.more H6'.out ((Below.refl _ _).alloc (Nat.le_refl _) _)
          refine (hgr.block R h1.lt ?_).trans h1
          intro e
          have := (hrow.lt _ e.symm).1
          omega
        clear hown hgr hat hlt hrow hNew hbase
        go_wp2
        go_roundw
        case rel => exact ⟨vs ++ [⟨⟨F0, F1, F2, F3, F4⟩, xa, xc⟩], lr6, br6, by simp, by simp only [List.length_append, List.length_singleton]; omega, by omega, HL6, H7, HO7, HF7⟩
        case measure => rw [restLen_of HR.out, restLen_of H7.out]; omega
end Go.Proofs.YtdjllnhahhjgmaaGreatDoor
namespace Go.Proofs.YtdjllnhahhjgmaaGreatDoor
open Go.RowKit Chron
theorem isB_cap (e : Ev) : isB (capE e) = isB e := by
  unfold isB capE
  simp only
  rw [Bool.eq_iff_iff]
  simp only [Bool.and_eq_true, decide_eq_true_eq]
  constructor
  · rintro ⟨h1, h2, h3, h4, h5, h6⟩; exact ⟨h1, h2, h3, by omega, by omega, h6⟩
  · rintro ⟨h1, h2, h3, h4, h5, h6⟩; exact ⟨h1, h2, h3, by omega, by omega, h6⟩
theorem cap_same {e : Ev} (h : isB e = true) : capE e = e := by
  have := (is_known h).t1
  obtain ⟨a, b, c, d, f⟩ := e
  simp only [capE, Ev.mk.injEq, true_and, and_true]
  simp only at this
  omega
theorem caps_bad (l : List Item) : (caps l).all isB = (evs l).all isB := by
  induction l with
  | nil => rfl
  | cons x l ih => simp only [caps, evs, List.map_cons, List.all_cons, isB_cap] at *; rw [ih]
theorem caps_exp (l : List Item) : (expB (caps l)).2 = (expB (evs l)).2 := by
  unfold expB
  have e : (caps l).length = (evs l).length := by simp [caps, evs]
  rw [e, caps_bad]
  split
  · rfl
  · split <;> rfl
theorem caps_evs {l : List Item} (h : (expB (evs l)).2 = 0) : caps l = evs l := by
  unfold expB at h
  split at h
  · simp at h
  · split at h
    · rename_i hall
      rw [List.all_eq_true] at hall
      unfold caps evs at *
      apply List.map_congr_left
      intro x hx
      exact cap_same (hall _ (List.mem_map.2 ⟨x, hx, rfl⟩))
    · simp at h
theorem all_len {l : List UInt8} {es : List Ev} (h : allL l = some es) : es.length ≤ l.length := by
  unfold allL at h
  split at h
  · cases h
  · rename_i es' r hl
    split at h
    · simp only [Option.some.injEq] at h
      rw [← h]
      exact (list_suf (fun l x r h => (event_suf h).1) hl).2.2
    · cases h
def ImpR (L : List UInt8) (w : World) (lv : Value) : Prop := ∃ a cap its, lv = .slice a its.length cap ∧ EvsAt w a its ∧ evs its = (impB L).1 ∧ its.length ≤ 200
theorem ImpR.nil {L : List UInt8} {w : World} (h : (impB L).1 = []) : ImpR L w (.slice none 0 0) := ⟨none, 0, [], rfl, (fun h0 => by simp at h0), by rw [h]; rfl, by simp⟩
set_option maxRecDepth 100000 in
set_option maxHeartbeats 2000000 in
theorem importRef_any (s : ByteArray) (w : World) (hs : s.size ≤ maxLen) :
    Calls Tryz.prog 8 #[.string s] w fun e w' => ∃ lv, e = .returned (.tuple #[lv, .int .i64 (impB s.data.toList).2]) ∧ Hid (ImpR s.data.toList w' lv) ∧ Below w.heap.size w w' := by
  unfold maxLen at hs
  have hlen : s.data.toList.length = s.size := by simp
  by_cases hbig : 1048576 < s.size
  · have HI : Hid (impB s.data.toList = ([], 4)) := by rw [Hid, impB, if_pos (by omega)]
    clear hlen
    go_enter Tryz.func8, Tryz.ntmps8
    go_wp2
    go_ret2
    exact ⟨_, by rw [HI.out]; rfl, ImpR.nil (by rw [HI.out]), Below.refl _ _⟩
  · have hsm : s.size ≤ 1048576 := by omega
    have HI0 : Hid (impB s.data.toList = match allL s.data.toList with | none => ([], 4) | some es => if (expB es).2 = 0 then (es, 0) else ([], (expB es).2)) := by rw [Hid, impB, if_neg (by omega)]; rfl
    clear hlen
    go_enter Tryz.func8, Tryz.ntmps8
    go_wp2_with fail
    refine (allRef_any s w hsm).mono ?_
    rintro e w1 ⟨lv, z, rfl, ⟨ok, rfl, hA⟩, hb1⟩
    have HB1 := hide0 hb1
    clear hb1
    cases hal : allL s.data.toList with
    | none =>
      rw [AllR, hal] at hA
      have hok : ok = false := hA
      subst hok
      have HI : Hid (impB s.data.toList = ([], 4)) := by rw [HI0.out, hal]; exact rfl
      go_wp2
      go_ret2
      exact ⟨_, by rw [HI.out]; rfl, ImpR.nil (by rw [HI.out]), HB1.out⟩
    | some es =>
      rw [AllR, hal] at hA
      obtain ⟨rfl, its, hM, hcap, hfew⟩ := hA
      obtain ⟨a, cap, rfl, hE⟩ := hM.evs hfew
      have HE := hide0 hE
      have HI : Hid (impB s.data.toList = if (expB (evs its)).2 = 0 then (evs its, 0) else ([], (expB (evs its)).2)) := by
        rw [HI0.out, hal, ← hcap]
        simp only [caps_exp]
        show _ = _
        split
        · rename_i h0; rw [caps_evs h0]
        · rfl
      have hlI : its.length ≤ 1048576 := by
        have h1 := all_len hal
        have h2 : es.length = its.length := by rw [← hcap]; simp [caps]
        have h3 : s.data.toList.length = s.size := by simp
        omega
      clear hM hcap hfew hE HI0 hal
      by_cases hmany : 200 < its.length
      · have HF : Hid (impB s.data.toList = ([], 5)) := by
          rw [HI.out]
          have : (expB (evs its)).2 = 5 := by rw [expB, if_pos (by simpa [evs] using hmany)]
          rw [this]; exact rfl
        go_wp2
        go_ret2
        exact ⟨_, by rw [HF.out]; rfl, ImpR.nil (by rw [HF.out]), HB1.out⟩
      · go_wp2
        go_loopw [6] (fun iv wx => ∃ k : Nat, k ≤ its.length ∧ iv = .int .i64 k ∧ Hid (∀ x ∈ (evs its).take k, isB x = true) ∧ Hid (Below w1.heap.size w1 wx)) (fun iv _ => its.length - (intOf iv).toNat)
        case atStart => exact ⟨0, Nat.zero_le _, rfl, by intro x hx; simp at hx, Below.refl _ _⟩
        case round =>
          obtain ⟨k, hk, rfl, HA, HW⟩ := hrel
          have hsz1 := HB1.out.size
          by_cases hlt : k < its.length
          · have hltI : (k : Int) < (its.length : Int) := by omega
            obtain ⟨b1, o1, rfl, hc1⟩ := HE.out.below HW.out (Nat.le_refl _) (by omega)
            obtain ⟨⟨⟨kd, tk, tm, bd, ts⟩, ta, tc⟩, hx⟩ : ∃ x, its[k]? = some x := ⟨_, List.getElem?_eq_getElem hlt⟩
            obtain ⟨⟨c0, c1, c2, c3, c4⟩, hok⟩ := hc1 k _ hx
            simp only at c0 c1 c2 c3 c4
            have HOK := hide0 hok
            have HX := hide0 hx
            have hG := good_any kd tk tm bd ta tc ts wr HOK.out.tags HOK.out.short (by have := HOK.out.few; unfold maxLen; simp only at this; omega) HOK.out.task HOK.out.body
            have hsz := HW.out.size
            generalize hq : isB ⟨kd, tk, tm, bd, ts⟩ = q at hG
            have HQ : Hid _ := hq
            have hev : (evs its)[k]? = some ⟨kd, tk, tm, bd, ts⟩ := by rw [evs, List.getElem?_map, HX.out]; rfl
            clear hc1 hok hx hq
            cases q
            · have HF : Hid (impB s.data.toList = ([], 2)) := by
                rw [HI.out]
                have : (expB (evs its)).2 = 2 := by
                  rw [expB, if_neg (by simpa [evs] using hmany), if_neg]
                  rw [List.all_eq_true]
                  intro h
                  have := h _ (List.mem_of_getElem? hev)
                  rw [HQ.out] at this
                  cases this
                rw [this]; exact rfl
              clear hev
              go_wp2_with fail
              refine hG.mono ?_
              rintro e w2 ⟨rfl, hb2⟩
              go_wp2
              go_ret2
              exact ⟨_, by rw [HF.out]; rfl, ImpR.nil (by rw [HF.out]), (HB1.out.trans (HW.out.mono hsz1)).trans (hb2.mono (by omega))⟩
            · have HA2 : Hid (∀ x ∈ (evs its).take (k + 1), isB x = true) := by
                intro x hx
                have hk' := (List.getElem?_eq_some_iff.1 hev).1
                rw [List.take_succ_eq_append_getElem hk', List.mem_append] at hx
                rcases hx with hx | hx
                · exact HA.out x hx
                · simp only [List.mem_singleton] at hx
                  rw [List.getElem?_eq_getElem hk'] at hev
                  rw [hx, Option.some.inj hev]; exact HQ.out
              clear hev
              go_wp2_with fail
              refine hG.mono ?_
              rintro e w2 ⟨rfl, hb2⟩
              have HW2 := hide0 (HW.out.trans (hb2.mono hsz))
              clear hb2 hG c0 c1 c2 c3 c4
              go_wp2
              go_roundw
              case rel => exact ⟨k + 1, by omega, by go_num, HA2, HW2⟩
              case measure => simp [intOf]; omega
          · have hltI : ¬ (k : Int) < (its.length : Int) := by omega
            have HF : Hid (impB s.data.toList = (evs its, 0)) := by
              rw [HI.out]
              have : (expB (evs its)).2 = 0 := by
                rw [expB, if_neg (by simpa [evs] using hmany), if_pos]
                rw [List.all_eq_true]
                intro x hx
                refine HA.out x ?_
                rwa [List.take_of_length_le (by simp [evs]; omega)]
              rw [if_pos this]; exact rfl
            go_wp2
            go_ret2
            exact ⟨_, by rw [HF.out]; rfl, ⟨a, cap, its, rfl, HE.out.below HW.out (Nat.le_refl _), by rw [HF.out], by omega⟩, HB1.out.trans (HW.out.mono hsz1)⟩
end Go.Proofs.YtdjllnhahhjgmaaGreatDoor
namespace Go.Proofs.YtdjllnhahhjgmaaGreatDoor
open Go.RowKit Chron
theorem few_weak {n m : Nat} {e : Ev} (h : Few n e) (hm : n ≤ m) : Few m e := ⟨Nat.le_trans h.tags hm, fun t ht => Nat.le_trans (h.each t ht) hm, Nat.le_trans h.task hm, Nat.le_trans h.body hm⟩
theorem items_few : ∀ (n : Nat) {l r : List UInt8} {xs : List Ev}, l.length ≤ n → itemsL eventL event_one l = some (xs, r) → ∀ x ∈ xs, Few n x
  | n, l, r, xs, hn, h => by
    cases ho : eventL l with
    | none => rw [items_none ho] at h; cases h
    | some p =>
      obtain ⟨x, r0⟩ := p
      have h0 := (event_suf ho).2
      have f0 := few_weak (event_few ho) hn
      cases hs : signL 44 r0 with
      | none =>
        rw [items_last ho hs] at h
        cases h3 : signL 93 r0 with
        | none => rw [h3] at h; cases h
        | some r3 =>
          rw [h3] at h
          simp only [Option.map_some, Option.some.injEq, Prod.mk.injEq] at h
          obtain ⟨rfl, rfl⟩ := h
          intro y hy
          simp only [List.mem_singleton] at hy
          rw [hy]; exact f0
      | some r2 =>
        rw [items_more ho hs] at h
        have hl2 := (sign_suf hs).2
        cases hi : itemsL eventL event_one r2 with
        | none => rw [hi] at h; cases h
        | some q =>
          obtain ⟨ys, r3⟩ := q
          rw [hi] at h
          simp only [Option.map_some, Option.some.injEq, Prod.mk.injEq] at h
          obtain ⟨rfl, rfl⟩ := h
          match n, hn with
          | 0, hn => omega
          | n + 1, hn =>
            have ih := items_few n (by omega) hi
            intro y hy
            rcases List.mem_cons.1 hy with rfl | hy
            · exact f0
            · exact few_weak (ih y hy) (by omega)
theorem list_few {l r : List UInt8} {xs : List Ev} (h : listL eventL event_one l = some (xs, r)) : ∀ x ∈ xs, Few l.length x := by
  unfold listL at h
  split at h
  · cases h
  · rename_i r0 e0
    have h0 := (sign_suf e0).2
    split at h
    · simp only [Option.some.injEq, Prod.mk.injEq] at h
      obtain ⟨rfl, rfl⟩ := h
      intro x hx; cases hx
    · intro x hx; exact few_weak (items_few _ (Nat.le_refl _) h x hx) (by omega)
def ReadR (L : List UInt8) (N : Nat) (w : World) (lv : Value) (ok : Bool) : Prop :=
  match allL L with
  | some es => ok = true ∧ ∃ its, MadeO N w lv its ∧ evs its = es ∧ ∀ it ∈ its, Few L.length it.ev
  | none => ok = false
set_option maxRecDepth 100000 in
set_option maxHeartbeats 4000000 in
theorem canonRead_any (s : ByteArray) (w : World) (G : Hid (Glob w.heap.size w)) (hs : s.size ≤ 1048576) :
    Calls Tryz.prog 21 #[.string s] w fun e w' => ∃ (lv : Value) (ok : Bool), e = .returned (.tuple #[lv, .bool ok]) ∧ Hid (ReadR s.data.toList (w.heap.size + 1) w' lv ok) ∧ Below w.heap.size w w' := by
  have hlen : s.data.toList.length = s.size := by simp
  have hbs : ba s.data.toList = s := by apply bytes_inj; simp [ba]
  have hb0 : Below w.heap.size w (w.alloc (.cells #[.string s, .bool false] 84)) := (Below.refl _ _).alloc (Nat.le_refl _) _
  have H0 : Hid (Rd w.heap.size (w.alloc (.cells #[.string s, .bool false] 84)) s.data.toList false) := by
    show _ = _
    rw [hbs]; exact heap_alloc_new _ _
  have G0 := hide0 (G.out.more hb0)
  have HB0 := hide0 hb0
  have HLE := hide0 hlen
  generalize s.data.toList = L at H0 HLE
  have hL : L.length ≤ 1048576 := by rw [HLE.out]; exact hs
  clear hb0 hlen hbs
  go_enter Tryz.func21, Tryz.ntmps21
  go_wp2_with fail
  refine (revents_any w.heap.size w.heap.size L false _ G0 (Nat.le_refl _) H0 hL).mono ?_
  rintro e w1 ⟨lv, its, rfl, H1, HM1, HV1, HF1⟩
  rw [World.size_alloc] at HM1
  have HF1' : Hid (Far w w1 [some w.heap.size]) := (Far.of_below HB0.out (Nat.le_refl _)).trans HF1.out
  go_wp2_with fail
  refine (skip_any w.heap.size _ _ _ H1).mono ?_
  rintro e w2 ⟨rfl, H2, HF2⟩
  have HM2 := hide0 (HM1.out.far HF2.out (by omega))
  have HB2 := hide0 ((HF1'.out.trans HF2.out).below (Nat.le_refl _) (fun q hq => by simp at hq; omega))
  clear H1 HM1 HF1 HF1' HF2
  cases hq : listL eventL event_one L with
  | none =>
    have HR : Hid (∀ n, ReadR L (w.heap.size + 1) (w2.drewN n) lv false) := by
      intro n
      unfold ReadR allL; rw [hq]
    rw [hq] at H2
    have H2' : Hid (Rd w.heap.size w2 (skipL []) true) := H2
    obtain ⟨c0, c1, cf⟩ := H2'.out.cells
    go_wp2_with fail
    go_quiet (fail)
    go_wp2
    go_ret2
    exact ⟨lv, false, rfl, HR.out _, below_drewN HB2.out _⟩
  | some p =>
    obtain ⟨es, r⟩ := p
    have hev := HV1.out _ hq
    rw [hq] at H2
    have H2' : Hid (Rd w.heap.size w2 (skipL r) false) := H2
    have hfew := list_few hq
    have HR : Hid (∀ n, ReadR L (w.heap.size + 1) (w2.drewN n) lv (decide (skipL r = []))) := by
      intro n
      unfold ReadR allL; rw [hq]
      simp only
      by_cases hr : skipL r = []
      · simp only [hr, if_true, decide_true]
        refine ⟨trivial, its, HM2.out.keep (fun _ _ _ => rfl), hev, fun it hi => hfew _ ?_⟩
        simp only at hev
        rw [← hev]
        exact List.mem_map.2 ⟨it, hi, rfl⟩
      · simp [hr]
    obtain ⟨c0, c1, cf⟩ := H2'.out.cells
    have he : ((ba (skipL r)).toList == []) = decide (skipL r = []) := by
      rw [ba_toList, Bool.eq_iff_iff]; simp
    generalize hS : ba (skipL r) = S at c0 he
    generalize decide (skipL r = []) = ok at he HR
    have he2 : S.toList.isEmpty = ok := by
      rw [← he]
      cases S.toList <;> rfl
    clear hS hev hfew H2 H2'
    go_wp2_with fail
    go_quiet (fail)
    go_wp2
    go_ret2
    exact ⟨lv, ok, rfl, HR.out _, below_drewN HB2.out _⟩
def ImpO (L : List UInt8) (N : Nat) (w : World) (lv : Value) : Prop := ∃ its, MadeO N w lv its ∧ evs its = (impB L).1
set_option maxRecDepth 100000 in
set_option maxHeartbeats 4000000 in
theorem import_any (s : ByteArray) (w : World) (G : Hid (Glob w.heap.size w)) (hs : s.size ≤ maxLen) :
    Calls Tryz.prog 6 #[.string s] w fun e w' => ∃ lv, e = .returned (.tuple #[lv, .int .i64 (impB s.data.toList).2]) ∧ Hid (ImpO s.data.toList w.heap.size w' lv) ∧ Below w.heap.size w w' := by
  unfold maxLen at hs
  have hlen : s.data.toList.length = s.size := by simp
  by_cases hbig : 1048576 < s.size
  · have HI : Hid (impB s.data.toList = ([], 4)) := by rw [Hid, impB, if_pos (by omega)]
    clear hlen
    go_enter Tryz.func6, Tryz.ntmps6
    go_wp2
    go_ret2
    exact ⟨_, by rw [HI.out]; rfl, ⟨[], MadeO.nil _ _, by rw [HI.out]; rfl⟩, Below.refl _ _⟩
  · have hsm : s.size ≤ 1048576 := by omega
    have HI0 : Hid (impB s.data.toList = match allL s.data.toList with | none => ([], 4) | some es => if (expB es).2 = 0 then (es, 0) else ([], (expB es).2)) := by rw [Hid, impB, if_neg (by omega)]; rfl
    have HLE := hide0 hlen
    clear hlen
    go_enter Tryz.func6, Tryz.ntmps6
    go_wp2_with fail
    refine (canonRead_any s w G hsm).mono ?_
    rintro e w1 ⟨lv, ok, rfl, hA, hb1⟩
    have HB1 := hide0 hb1
    clear hb1
    cases hal : allL s.data.toList with
    | none =>
      have hA2 := hA.out
      rw [ReadR, hal] at hA2
      have hok : ok = false := hA2
      subst hok
      have HI : Hid (impB s.data.toList = ([], 4)) := by rw [HI0.out, hal]; exact rfl
      clear hA2
      go_wp2
      go_ret2
      exact ⟨_, by rw [HI.out]; rfl, ⟨[], MadeO.nil _ _, by rw [HI.out]; rfl⟩, HB1.out⟩
    | some es =>
      have hA2 := hA.out
      rw [ReadR, hal] at hA2
      obtain ⟨rfl, its, hM, hev, hfew⟩ := hA2
      have hL2 := HLE.out
      obtain ⟨a, cap, rfl, hE⟩ := hM.made.evs (fun it hi => few_weak (hfew it hi) (by omega))
      have HE := hide0 hE
      have HM := hide0 hM
      have HI : Hid (impB s.data.toList = if (expB (evs its)).2 = 0 then (evs its, 0) else ([], (expB (evs its)).2)) := by
        rw [Hid, HI0.out, hal, hev]
      have hlI : its.length ≤ 1048576 := by
        have h1 := all_len hal
        have h2 : es.length = its.length := by rw [← hev]; simp [evs]
        omega
      clear hM hev hfew hE HI0 hal hA hL2
      have hR := refuse_any a cap its w1 HE (by omega)
      cases hx : decide ((expB (evs its)).2 = 0) with
      | true =>
        have hx2 : (expB (evs its)).2 = 0 := of_decide_eq_true hx
        rw [if_pos hx2] at HI
        rw [hx2] at hR
        clear hx hx2
        go_wp2_with fail
        refine hR.mono ?_
        rintro e w2 ⟨rfl, hb2⟩
        have HM2 : Hid (MadeO w.heap.size w2 (.slice a its.length cap) its) := by
          have := HM.out.keep (fun q _ h2 => hb2.block q h2)
          exact ⟨own_mono this.row (by omega), fun it hi => own_mono (this.tags it hi) (by omega), this.apart, this.dist⟩
        have HB2 := hide0 (HB1.out.trans (hb2.mono HB1.out.size))
        clear hb2
        go_wp2
        go_ret2
        exact ⟨_, by rw [HI.out]; rfl, ⟨its, HM2.out, by rw [HI.out]⟩, HB2.out⟩
      | false =>
        have hx2 : ¬ (expB (evs its)).2 = 0 := of_decide_eq_false hx
        rw [if_neg hx2] at HI
        generalize (expB (evs its)).2 = z at hR hx2 HI
        have hz : (z == 0) = false := by simp [hx2]
        clear hx hx2
        go_wp2_with fail
        refine hR.mono ?_
        rintro e w2 ⟨rfl, hb2⟩
        have HB2 := hide0 (HB1.out.trans (hb2.mono HB1.out.size))
        clear hb2
        go_wp2
        go_ret2
        exact ⟨_, by rw [HI.out]; rfl, ⟨[], MadeO.nil _ _, by rw [HI.out]; rfl⟩, HB2.out⟩
end Go.Proofs.YtdjllnhahhjgmaaGreatDoor
