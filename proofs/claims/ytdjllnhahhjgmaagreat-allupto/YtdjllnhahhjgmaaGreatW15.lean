/- Walks and plain facts, in the order in which they lean on one another. -/
import Derived.Test.YtdjllnhahhjgmaaGreatW14
import Derived.Test.YtdjllnhahhjgmaaGreatW13
import Derived.RangeFuncBox
namespace Go.Proofs.YtdjllnhahhjgmaaGreat
open Go.RowKit Chron
/- a pair behind an Append: which of its lists are longer -/
structure AppR (crash : Bool) (w0 w' : World) (B : Nat) (r r' : Pr) (C0 D' : List Chunk) (l : List Ev) : Prop where
  mem : PairM w0 w' B r'
  log : PairL crash r' C0 D'
  P : r'.P = r.P ∧ r'.p = r.p
  evs : Go.Proofs.YtdjllnhahhjgmaaGreat.evs r'.its = l
theorem EvsAt.five {w : World} {b off : Nat} {ls : List Item} (h : EvsAt w (some ⟨b, off, none⟩) ls) : ∀ j u, (fives ls)[j]? = some u → w.cell? ((⟨b, off, none⟩ : Addr).add j) = some u := by
  intro j u hu
  have hlen := (List.getElem?_eq_some_iff.1 hu).1
  rw [fives_len] at hlen
  obtain ⟨b', off', e, hc⟩ := h (by omega)
  cases e
  have hk : j / 5 < ls.length := by omega
  obtain ⟨hcl, _⟩ := hc (j / 5) ls[j / 5] (List.getElem?_eq_getElem hk)
  have hj : j / 5 * 5 + j % 5 = j := by omega
  have h5 : j % 5 < 5 := Nat.mod_lt _ (by omega)
  rw [← hj, fives_at (List.getElem?_eq_getElem hk) h5] at hu
  have hadd : (⟨b, off, none⟩ : Addr).add j = ⟨b, off + j, none⟩ := by unfold Addr.add; split <;> simp_all
  rw [hadd, show off + j = off + j / 5 * 5 + j % 5 by omega]
  generalize j % 5 = m at *
  have hm : m = 0 ∨ m = 1 ∨ m = 2 ∨ m = 3 ∨ m = 4 := by omega
  rcases hm with rfl | rfl | rfl | rfl | rfl
  · simp only [Item.five, List.getElem?_cons_zero, Option.some.injEq] at hu; subst hu; exact hcl.c0
  · simp only [Item.five, List.getElem?_cons_succ, List.getElem?_cons_zero, Option.some.injEq] at hu; subst hu; exact hcl.c1
  · simp only [Item.five, List.getElem?_cons_succ, List.getElem?_cons_zero, Option.some.injEq] at hu; subst hu; exact hcl.c2
  · simp only [Item.five, List.getElem?_cons_succ, List.getElem?_cons_zero, Option.some.injEq] at hu; subst hu; exact hcl.c3
  · simp only [Item.five, List.getElem?_cons_succ, List.getElem?_cons_zero, Option.some.injEq] at hu; subst hu; exact hcl.c4
theorem fives_one (ls : List Item) : ∀ u ∈ fives ls, u.oneCell' = true := by
  intro u hu
  simp only [fives, List.mem_flatMap] at hu
  obtain ⟨i, _, hi⟩ := hu
  exact five_one i u hi
theorem appY {v : Int} {cs : List Chunk} {l more : List Ev} (hr : refB v l.length more = 0) (hm : more ≠ []) (hcs : evsOf cs = l) : appFile v (fileB noB cs) l more = fileB noB (cs ++ [(v, more)]) ∧ appEvs v l more = l ++ more ∧ fileB noB (cs ++ [(v, more)]) = fileB noB cs ++ entryB v (lastB noB l) more := by
  have h3 : fileB noB (cs ++ [(v, more)]) = fileB noB cs ++ entryB v (lastB noB l) more := by rw [fileB_snoc, hcs]
  refine ⟨?_, if_pos hr, h3⟩
  unfold appFile
  rw [if_pos ⟨hr, hm⟩, h3]
theorem appN {v : Int} {file : List UInt8} {l more : List Ev} (hr : ¬ (refB v l.length more = 0 ∧ more ≠ [])) : appFile v file l more = file ∧ appEvs v l more = l := by
  refine ⟨if_neg hr, ?_⟩
  unfold appEvs
  split
  · rename_i h
    have : more = [] := by
      cases more with
      | nil => rfl
      | cons a b => exact absurd ⟨h, by simp⟩ hr
    rw [this, List.append_nil]
  · rfl
theorem refB_good {v : Int} {n : Nat} {l : List Ev} (hr : refB v n l = 0) (hl : l ≠ []) : Chron.Good n (v, l) := by
  unfold refB at hr
  split at hr
  · simp at hr
  · split at hr
    · simp at hr
    · split at hr
      · rename_i h2 h3
        exact ⟨fun e he => List.all_eq_true.1 h3 e he, hl, by show n + l.length ≤ 200; omega⟩
      · simp at hr
theorem logY {crash : Bool} {r : Pr} {C0 D : List Chunk} {v : Int} {ls js' : List Item} (h : PairL crash r C0 D) (hr0 : refB v r.its.length (evs ls) = 0) (hne : evs ls ≠ []) (hE : evs js' = appEvs v (evs r.js) (evs ls)) :
    appFile v r.fl (evs r.js) (evs ls) = fileB noB (C0 ++ (D ++ [(v, evs ls)])) ∧ evs (r.its ++ ls) = evs js' ∧ evs js' = evsOf (C0 ++ (D ++ [(v, evs ls)])) ∧ GoodC 0 (C0 ++ (D ++ [(v, evs ls)])) ∧ appFile v r.fl (evs r.js) (evs ls) = r.fl ++ entryB v (lastB noB (evs r.js)) (evs ls) ∧ evs (r.its ++ ls) = appEvs v (evs r.its) (evs ls) := by
  have hjl : (evs r.js).length = r.its.length := by have := congrArg List.length h.same; simpa [evs] using this.symm
  have hil : (evs r.its).length = r.its.length := by simp [evs]
  obtain ⟨a1, a2, a3⟩ := appY (v := v) (cs := C0 ++ D) (l := evs r.js) (more := evs ls) (by rw [hjl]; exact hr0) hne h.told.symm
  have e1 : evs (r.its ++ ls) = evs r.its ++ evs ls := by simp [evs]
  rw [← List.append_assoc]
  refine ⟨by rw [h.file]; exact a1, by rw [e1, hE, a2, h.same], ?_, GoodC.append.2 ⟨h.good, ?_, trivial⟩, by rw [h.file, a1, a3], ?_⟩
  · rw [hE, a2, evsOf_append, ← h.told]; simp [evsOf]
  · have := refB_good hr0 hne
    rw [← h.told, hjl, Nat.zero_add]
    exact this
  · rw [e1]
    exact (if_pos (by rw [hil]; exact hr0)).symm
theorem stand_push (f : List Chunk → Nat) (C0 D : List Chunk) (c : Chunk) : (List.range (D.length + 1)).map (fun k => f (C0 ++ D.take k)) ++ [f (C0 ++ (D ++ [c]))] = (List.range ((D ++ [c]).length + 1)).map (fun k => f (C0 ++ (D ++ [c]).take k)) := by
  have hl : (D ++ [c]).length = D.length + 1 := by simp
  rw [hl, List.range_succ (n := D.length + 1), List.map_append, List.map_cons, List.map_nil]
  congr 1
  · apply List.map_congr_left
    intro k hk
    rw [List.mem_range] at hk
    rw [List.take_append_of_le_length (by omega)]
  · rw [List.take_of_length_le (by omega)]
theorem Moved.widen {a b : World} {F F' : Nat → Prop} (h : Moved a b F F') (n : Nat) : Moved a b (fun q => F q ∨ n ≤ q) (fun q => F' q ∨ n ≤ q) :=
  ⟨h.os, h.tape, h.output, h.size, fun q hq hn => h.block q hq (fun hf => hn (.inl hf)), fun q hq => by
    rcases hq with hq | hq
    · rcases h.sub q hq with h1 | h1
      · exact .inl (.inl h1)
      · exact .inr h1
    · exact .inl (.inr hq)⟩
theorem Old.more {F F' : Nat → Prop} {evo ev : Value} {its its' : List Item} {w : World} (h : Old F evo its w ev its') (hx : ∀ q, evo.ownBlock = some q → F' q → F q) : Old F' evo its w ev its' :=
  ⟨h.pre, h.at', h.blk.elim .inl (fun hb => .inr fun q hq => ⟨fun hf => (hb q hq).1 (hx q hq hf), (hb q hq).2⟩)⟩
set_option maxRecDepth 100000 in
set_option maxHeartbeats 1000000 in
theorem appended_any (crash : Bool) (most : Int) (b : Nat) (w0 w : World) (B : Nat) (r : Pr) (C0 D : List Chunk) (v : Int) (a : Option Addr) (cap : Nat) (ls : List Item) (HM : Hid (PairM w0 w B r)) (HL : Hid (PairL crash r C0 D)) (hmost : crash = decide (7 ≤ most)) (hW : w.cell? ⟨b, 3, none⟩ = some (.int .i64 most)) (hb : Hid (¬ r.foot b))
    (hE : Hid (EvsAt w a ls)) (hl : ls.length ≤ 100000000) (hT : Hid (∀ it ∈ ls, ItemOk w0 it ∧ ∀ q off, 0 < it.ev.tags.length → it.at' = some ⟨q, off, none⟩ → q < w0.heap.size)) (hA : Hid (∀ q off, 0 < ls.length → a = some ⟨q, off, none⟩ → ¬ r.foot q)) :
    Calls Tryz.prog 12 #[.pointer (some ⟨b, 0, none⟩), .pointer (some ⟨r.P, 0, none⟩), .int .i64 v, .slice a ls.length cap] w fun e w' => e = .returned (.bool true) ∧ ∃ r' D', Hid (AppR crash w0 w' B r r' C0 D' (appEvs v (evs r.its) (evs ls))) ∧ Hid (Moved w w' r.foot r'.foot) ∧ Hid (Kept r.ev r.js w w') := by
  have hcs := HL.out.few
  obtain ⟨c0, c1, c2, c3, c4, cz⟩ := five_cells HM.out.blk
  have hblt : b < w.heap.size := World.block_lt_of_cell? w _ hW
  have hPlt := HM.out.lt r.P (.inl rfl)
  have hreads : Hid (∀ q, ReadsOf a ls q → ¬ r.foot q) := by
    rintro q (⟨hl0, off, e⟩ | ⟨it, hit, ht0, off, e⟩) hq
    · exact hA.out q off hl0 e hq
    · have h1 := (hT.out it hit).2 q off ht0 e
      have h2 := (HM.out.lt q hq).1
      have h3 := HM.out.w0B
      omega
  have HLN : Hid (LoanAt w.heap.size (.slice none 0 0) (.slice none 0 0) (.slice none 0 0) (.int .i64 0) (.slice none 0 0) 0 [] 0 [] (w.alloc (.cells #[.slice none 0 0, .slice none 0 0, .slice none 0 0, .int .i64 0, .slice none 0 0] 67))) :=
    ⟨heap_alloc_new _ _, World.ownsRow_nil _ _ _ _, World.ownsRow_nil _ _ _ _, fun q hq => by cases hq⟩
  go_enter Tryz.func12, Tryz.ntmps12
  go_wp2_with fail
  refine (all_any w.heap.size a cap ls w _ (Nat.le_refl _) ((Below.refl _ _).alloc (Nat.le_refl _) _) HLN hE (by omega)).mono ?_
  rintro e w2 ⟨G, tv, cv, lz, itz, rfl, hi, hlz, hAA⟩
  obtain ⟨hLent, q2, q3⟩ := hAA.lent rfl hi hlz hE.out
  have HLt := hide0 hLent
  have HB2 := hide0 hAA.bel
  have HQ3 := hide0 q3
  have HM2 := hide0 (HM.out.below HB2.out)
  have hs2 := HB2.out.size
  have hap : Hid (∀ q, ReadsOf (some ⟨G, 0, none⟩) (itz.take ls.length) q → ¬ Foot r.p r.fv r.ev r.js q) := fun q h1 h2 => by
    have := HLt.out.far q h1
    have := (HM.out.lt q (.inr (.inl h2))).2
    omega
  have hfl : r.fl.length ≤ 100000000 := by rw [HL.out.file]; have := fileB_short HL.out.good; omega
  have hAp := append_anyK B r.p v r.fv r.ev r.fl r.js (some ⟨G, 0, none⟩) (ls.length + 8) (itz.take ls.length) w2 HM2.out.arc HLt.out.evs (by omega) hfl hap
  rw [q2, q3] at hAp
  obtain ⟨k0, k1, k2, k3, k4, kz⟩ := five_cells HM2.out.blk
  clear hAA hLent q3 HLN c0 c1 c2 c3 c4 cz hap
  go_wp2_with fail
  refine hAp.mono ?_
  rintro e w3 ⟨rfl, fv', ev', js', hA3, hE3, hM3, hO3⟩
  obtain ⟨hP3, hV3⟩ := HM2.out.archOp hA3 hM3
  have HP3 := hide0 hP3
  have HE3 := hide0 hE3
  have HV3 := hide0 ((Moved.of_below HB2.out).trans hV3)
  have HSUB := hide0 hV3.sub
  have HO3 : Hid (Old (fun q => ({ r with fv := fv', ev := ev', js := js', fl := appFile v r.fl (Go.Proofs.YtdjllnhahhjgmaaGreat.evs r.js) (Go.Proofs.YtdjllnhahhjgmaaGreat.evs ls) } : Pr).foot q ∨ w.heap.size ≤ q) r.ev r.js w3 ev' js') := by
    refine hO3.more (fun q hq hf => ?_)
    have hin : r.arch q := .inr (.inr (.inl hq))
    rcases hf with (rfl | hf | hf | hf | hf) | hf
    · exact absurd hin HM.out.nP.1
    · exact hf
    · exact absurd hin (HM.out.nL q hf).1
    · exact absurd hin (HM.out.nC q hf).1
    · exact absurd hin (HM.out.nS q hf)
    · have := (HM.out.lt q (.inr (.inl hin))).2; omega
  clear hO3
  have hs3 := hM3.size
  have HLt3 := hide0 (HLt.out.same hs3 (fun q h1 h2 => hM3.block q h2 (fun h => by have := (HM.out.lt q (.inr (.inl h))).2; omega)))
  have HFX := hide0 HLt.out.fx
  clear hAp hA3 hE3 hM3 hP3 hV3 k0 k1 k2 k3 k4 kz HM2 HLt
  have hjl : r.js.length = r.its.length := by have := congrArg List.length HL.out.same; simpa [Go.Proofs.YtdjllnhahhjgmaaGreat.evs] using this.symm
  obtain ⟨la, lc, hlv, hlcap⟩ : ∃ a c, r.lv = .slice a r.its.length c ∧ r.its.length ≤ c := by
    rcases HM.out.row.2 with ⟨e1, e2⟩ | ⟨g, cap, _, e1, _, _, e3, _⟩
    · exact ⟨none, 0, by rw [e1, e2], by omega⟩
    · exact ⟨_, cap, e1, e3⟩
  have hb3 := HP3.out.blk
  simp only at hb3
  rw [hlv] at hb3
  have HEw3 := hide0 (hE.out.moved HV3.out hreads.out)
  have hfew := HM.out.arc.few
  have hFt := pfits_any r.P v _ _ _ _ la r.its.length lc a cap ls w3 hb3 (by omega) HEw3 hl
  rw [hjl]
  go_wp2_with fail
  refine hFt.mono ?_
  rintro e w4 ⟨rfl, HB4⟩
  have hs4 := HB4.out.size
  have HLt4 := hide0 (HLt3.out.same hs4 (fun q _ h2 => HB4.out.block q h2))
  have HEw4 := hide0 (HEw3.out.below HB4.out (Nat.le_refl _))
  have hK := kept_any w.heap.size G ls.length tv cv a cap lz (itz.take ls.length) ls w4 HLt4.out.loan HLt4.out.ok (by omega) (by omega) HLt4.out.evs q2 HLt4.out.bads HEw4 rfl HQ3
  clear hFt HLt3 HEw3 hb3
  go_wp2_with fail
  refine hK.mono ?_
  rintro e w5 ⟨rfl, hb5⟩
  have hs5 := hb5.size
  have HB5 := hide0 (HB4.out.trans (hb5.mono hs4))
  have HLt5 := hide0 (HLt4.out.same hs5 (fun q _ h2 => hb5.block q h2))
  have hSp := spoil_any w.heap.size G ls.length tv cv _ lz w5 HLt5.out.spoils (by omega) (by omega) HLt5.out.mx HLt5.out.gx
  clear hK hb5 HLt4 HEw4
  go_wp2_with fail
  refine hSp.mono ?_
  rintro e w6 ⟨rfl, HM6⟩
  have hs6 := HM6.out.size
  have HP6 := hide0 (HP3.out.keep (w' := w6) (fun q hq => (HM6.out.block q (by have := (HP3.out.lt q hq).2; omega) (fun h => by
    have h1 := HFX.out q h
    rcases HSUB.out q hq with h2 | h2
    · have := (HM.out.lt q h2).2; omega
    · omega)).trans (HB5.out.block q (HP3.out.lt q hq).2)))
  have HV6 : Hid (Moved w w6 r.foot ({ r with fv := fv', ev := ev', js := js', fl := appFile v r.fl (Go.Proofs.YtdjllnhahhjgmaaGreat.evs r.js) (Go.Proofs.YtdjllnhahhjgmaaGreat.evs ls) } : Pr).foot) :=
    ⟨HM6.out.os.trans (HB5.out.os.trans HV3.out.os), HM6.out.tape.trans (HB5.out.tape.trans HV3.out.tape), HM6.out.output.trans (HB5.out.output.trans HV3.out.output), by omega, fun q hq hn => (HM6.out.block q (by omega) (fun h => by have := HFX.out q h; omega)).trans ((HB5.out.block q (by omega)).trans (HV3.out.block q hq hn)), HV3.out.sub⟩
  have HO6 : Hid (Old (fun q => ({ r with fv := fv', ev := ev', js := js', fl := appFile v r.fl (Go.Proofs.YtdjllnhahhjgmaaGreat.evs r.js) (Go.Proofs.YtdjllnhahhjgmaaGreat.evs ls) } : Pr).foot q ∨ w.heap.size ≤ q) r.ev r.js w6 ev' js') := by
    refine HO3.out.step (ms := []) ⟨HM6.out.os.trans HB5.out.os, HM6.out.tape.trans HB5.out.tape, HM6.out.output.trans HB5.out.output, by have := HB5.out.size; omega, fun q hq hn => (HM6.out.block q (by have := HB5.out.size; omega) (fun h => hn (.inr (Nat.le_of_lt (HFX.out q h).1)))).trans (HB5.out.block q hq), fun q hq => .inl hq⟩ HP6.out.arc (by simp) (.inl rfl)
  clear HO3
  have hW6 : w6.cell? ⟨b, 3, none⟩ = some (.int .i64 most) := (World.cell?_of_block (HV6.out.block b hblt hb.out)).trans hW
  clear hSp HM6 HP3 HV3 HSUB HLt5 HFX HB5 HB4
  have hjl2 : (Go.Proofs.YtdjllnhahhjgmaaGreat.evs r.js).length = r.its.length := by simpa [Go.Proofs.YtdjllnhahhjgmaaGreat.evs] using hjl
  have HW6 := hide0 hW6
  by_cases hyes : refB v r.its.length (Go.Proofs.YtdjllnhahhjgmaaGreat.evs ls) = 0 ∧ ls ≠ []
  · obtain ⟨hr0, hne⟩ := hyes
    have hpos : 0 < ls.length := List.length_pos_iff.2 hne
    have hne2 : Go.Proofs.YtdjllnhahhjgmaaGreat.evs ls ≠ [] := fun h => hne (List.map_eq_nil_iff.1 h)
    obtain ⟨ay1, ay2, ay3, ay4, ay5, ay6⟩ := logY HL.out hr0 hne2 HE3.out
    have HEw6 := hide0 (hE.out.moved HV6.out hreads.out)
    obtain ⟨ab, aoff, rfl, _⟩ := HEw6.out hpos
    obtain ⟨i0, hi0, hz0, hz1, hz2⟩ := info_parts infoEvent5
    obtain ⟨k0, k1, k2, k3, k4, kz⟩ := five_cells HP6.out.blk
    simp only at k0 k1 k2 k3 k4
    rw [hlv] at k1
    have hrow := HP6.out.row
    simp only at hrow
    rw [hlv] at hrow
    have hgd := refB_good hr0 hne2
    have hle : r.its.length + ls.length ≤ 200 := by have := hgd.few; simp only [Go.Proofs.YtdjllnhahhjgmaaGreat.evs, List.length_map] at this; exact this
    have HGD := hide0 hgd
    have HAY := hide0 (And.intro ay1 (And.intro ay2 (And.intro ay3 (And.intro ay4 (And.intro ay5 ay6)))))
    have e1 : r.its.length + ls.length ≤ maxLen := by unfold maxLen; omega
    have e2 : (r.its.length + ls.length) * 72 ≤ 140737488355328 := by omega
    have hPl : r.P < w6.heap.size := (HP6.out.lt r.P (.inl rfl)).2
    have hPB : B ≤ r.P := HP6.out.PB
    have e3 : B ≤ w6.heap.size := by omega
    have hpa5 : ∀ (wz : World), w6.grownBy wz (Value.ownBlock (.slice la r.its.length lc)) → wz.heap[r.P]? = w6.heap[r.P]? := fun wz hg => hg.block r.P hPl (fun e => HP6.out.nP.2.1 (by show r.lv.ownBlock = some r.P; rw [hlv]; exact e.symm))
    have hposi : (0 : Int) < (ls.length : Int) := by omega
    have hbP : ¬ b = r.P := fun e => hb.out (.inl e)
    have hPb : ¬ r.P = b := fun e => hbP e.symm
    have hbl : ∀ (wz : World), w6.grownBy wz (Value.ownBlock (.slice la r.its.length lc)) → wz.cell? ⟨b, 3, none⟩ = some (.int .i64 most) := fun wz hg => (World.cell?_of_block (hg.block b (World.block_lt_of_cell? w6 _ HW6.out) (fun e => hb.out (.inr (.inr (.inl (by rw [hlv]; exact e.symm))))))).trans HW6.out
    cases crash
    · have hmo : most < 7 := by simp at hmost; omega
      rw [hr0]
      clear hr0 hgd ay1 ay2 ay3 ay4 ay5 ay6 hne hmost
      go_wp2_with (first
        | (at_builtin; go_must (refine wpList_append_lies _ rfl _ _ 33 rfl B 38 i0 (.agg #[.int .i64 0, .string ⟨#[]⟩, .int .i64 0, .string ⟨#[]⟩, .slice none 0 0]) 5 72 Tryz.underlying33 hi0 hz0 hz1 hz2 rfl (by decide) (.slice la r.its.length lc) r.its.length (fives r.its) rfl hrow ⟨ab, aoff, none⟩ ls.length cap (fives ls) rfl (fives_len ls) HEw6.out.five (fives_one ls) hpos e1 e2 e3 _ rfl ?_)
           intro gg gcap wa hown9 hgr9 hat9 hlt9
           have hpa := (hpa5 _ hgr9).trans HP6.out.blk
           obtain ⟨q0, q1, q2, q3, q4, qz⟩ := five_cells hpa
           have qb := hbl _ hgr9
           have HN9 := hide0 hown9
           clear hown9))
      obtain ⟨hp7, hv7⟩ := HP6.out.pushL (g := gg) (cap := gcap) (ls := ls) (by show w6.grownBy wa r.lv.ownBlock; rw [hlv]; exact hgr9) HN9.out (by show r.lv.ownBlock = some gg ∨ _; rw [hlv]; exact hat9) hT.out
      have HFIN := hide0 (And.intro hp7 (HV6.out.trans hv7))
      have HK7 : Hid (Kept r.ev r.js w _) := (HO6.out.step (ms := []) (hv7.widen w.heap.size) hp7.arc (by simp) (.inl rfl)).kept
      clear hp7 hv7 hgr9 hat9 HN9 hpa q0 q1 q2 q3 q4 qz qb k0 k1 k2 k3 k4 kz hrow hpa5 hbl
      go_ret
      exact ⟨rfl, _, ⟨D ++ [(v, Go.Proofs.YtdjllnhahhjgmaaGreat.evs ls)], ⟨HFIN.out.1, ⟨HAY.out.1, HAY.out.2.1, HAY.out.2.2.1, HAY.out.2.2.2.1, (fun h => by cases h), HL.out.idle⟩, ⟨rfl, rfl⟩, HAY.out.2.2.2.2.2⟩⟩, HFIN.out.2, HK7⟩
    · have hmo : ¬ most < 7 := by simp at hmost; omega
      rw [hr0]
      clear hr0 hgd ay1 ay2 ay3 ay4 ay5 ay6 hne hmost
      go_wp2_with (first
        | (at_builtin; go_must (refine wpList_append_lies _ rfl _ _ 33 rfl B 38 i0 (.agg #[.int .i64 0, .string ⟨#[]⟩, .int .i64 0, .string ⟨#[]⟩, .slice none 0 0]) 5 72 Tryz.underlying33 hi0 hz0 hz1 hz2 rfl (by decide) (.slice la r.its.length lc) r.its.length (fives r.its) rfl hrow ⟨ab, aoff, none⟩ ls.length cap (fives ls) rfl (fives_len ls) HEw6.out.five (fives_one ls) hpos e1 e2 e3 _ rfl ?_)
           intro gg gcap wa hown9 hgr9 hat9 hlt9
           have hpa := (hpa5 _ hgr9).trans HP6.out.blk
           obtain ⟨q0, q1, q2, q3, q4, qz⟩ := five_cells hpa
           have qb := hbl _ hgr9
           have HN9 := hide0 hown9
           clear hown9))
      obtain ⟨hp7, hv7⟩ := HP6.out.pushL (g := gg) (cap := gcap) (ls := ls) (by show w6.grownBy wa r.lv.ownBlock; rw [hlv]; exact hgr9) HN9.out (by show r.lv.ownBlock = some gg ∨ _; rw [hlv]; exact hat9) hT.out
      have HFIN := hide0 (And.intro hp7 (HV6.out.trans hv7))
      have HV7 := hide0 hv7
      have hst := HL.out.stood rfl
      have HSD := stood_any w0 (wa.setCell ⟨r.P, 1, none⟩ (.slice (some ⟨gg, 0, none⟩) (r.its.length + ls.length) gcap)) B _ (entryB v (lastB noB (Go.Proofs.YtdjllnhahhjgmaaGreat.evs r.js)) (Go.Proofs.YtdjllnhahhjgmaaGreat.evs ls)) true HFIN.out.1 (by show appFile v r.fl _ _ = r.pf ++ _; rw [hst.1]; exact HAY.out.2.2.2.2.1) (by
        have := entry_pos v (lastB noB (Go.Proofs.YtdjllnhahhjgmaaGreat.evs r.js)) (Go.Proofs.YtdjllnhahhjgmaaGreat.evs ls)
        show true = !_
        cases hq : entryB v (lastB noB (Go.Proofs.YtdjllnhahhjgmaaGreat.evs r.js)) (Go.Proofs.YtdjllnhahhjgmaaGreat.evs ls) with
        | nil => rw [hq] at this; simp at this
        | cons x y => rfl) (by show (appFile v r.fl _ _).length ≤ _; rw [HAY.out.1]; have := fileB_short HAY.out.2.2.2.1; omega) (by show r.cs.length ≤ _; omega) (by show r.ss.length ≤ _; omega)
      have HST := hide0 hst
      clear hp7 hv7 hgr9 hat9 HN9 hpa q0 q1 q2 q3 q4 qz qb k0 k1 k2 k3 k4 kz hrow hpa5 hbl hst
      refine HSD.mono ?_
      rintro e w8 ⟨rfl, cv8, sv8, HP8, HV8⟩
      clear HSD
      go_wp2
      go_ret
      refine ⟨rfl, _, D ++ [(v, Go.Proofs.YtdjllnhahhjgmaaGreat.evs ls)], ⟨HP8.out, ⟨HAY.out.1, HAY.out.2.1, HAY.out.2.2.1, HAY.out.2.2.2.1, fun _ => ⟨rfl, ?_, ?_⟩, fun h => by cases h⟩, ⟨rfl, rfl⟩, HAY.out.2.2.2.2.2⟩, HFIN.out.2.trans HV8.out, (HO6.out.step (ms := []) ((HV7.out.trans HV8.out).widen w.heap.size) HP8.out.arc (List.append_nil js').symm (.inl rfl)).kept⟩
      · show r.cs ++ [(r.its ++ ls).length] = _
        rw [HST.out.2.1, show (r.its ++ ls).length = (evsOf (C0 ++ (D ++ [(v, Go.Proofs.YtdjllnhahhjgmaaGreat.evs ls)]))).length by rw [← HAY.out.2.2.1, ← HAY.out.2.1]; simp [Go.Proofs.YtdjllnhahhjgmaaGreat.evs]]
        exact stand_push (fun x => (evsOf x).length) C0 D _
      · show r.ss ++ [(appFile v r.fl _ _).length] = _
        rw [HST.out.2.2, HAY.out.1]
        exact stand_push (fun x => (fileB noB x).length) C0 D _
  · have hno : ¬ (refB v (Go.Proofs.YtdjllnhahhjgmaaGreat.evs r.js).length (Go.Proofs.YtdjllnhahhjgmaaGreat.evs ls) = 0 ∧ Go.Proofs.YtdjllnhahhjgmaaGreat.evs ls ≠ []) := fun h => hyes ⟨by rw [← hjl2]; exact h.1, fun e => h.2 (by rw [e]; rfl)⟩
    obtain ⟨an1, an2⟩ := appN (file := r.fl) hno
    have hil2 : (Go.Proofs.YtdjllnhahhjgmaaGreat.evs r.its).length = r.its.length := by simp [Go.Proofs.YtdjllnhahhjgmaaGreat.evs]
    have an3 : appEvs v (Go.Proofs.YtdjllnhahhjgmaaGreat.evs r.its) (Go.Proofs.YtdjllnhahhjgmaaGreat.evs ls) = Go.Proofs.YtdjllnhahhjgmaaGreat.evs r.its := (appN (file := r.fl) (l := Go.Proofs.YtdjllnhahhjgmaaGreat.evs r.its) (by rw [hil2, ← hjl2]; exact hno)).2
    have HAN := hide0 (And.intro an1 (And.intro (HE3.out.trans an2) an3))
    obtain ⟨k0, k1, k2, k3, k4, kz⟩ := five_cells HP6.out.blk
    simp only at k0 k1 k2 k3 k4
    rw [an1] at HP6 HV6 HO6
    have hmore : ((refB v r.its.length (Go.Proofs.YtdjllnhahhjgmaaGreat.evs ls) == 0) = false) ∨ (refB v r.its.length (Go.Proofs.YtdjllnhahhjgmaaGreat.evs ls) = 0 ∧ ls = []) := by
      by_cases h0 : refB v r.its.length (Go.Proofs.YtdjllnhahhjgmaaGreat.evs ls) = 0
      · exact .inr ⟨h0, Classical.byContradiction (fun h => hyes ⟨h0, h⟩)⟩
      · exact .inl (by simp [h0])
    clear an1 an2 an3 hno hyes
    generalize refB v r.its.length (Go.Proofs.YtdjllnhahhjgmaaGreat.evs ls) = x at *
    cases crash
    · have hmo : most < 7 := by simp at hmost; omega
      clear hmost
      rcases hmore with hx | ⟨rfl, rfl⟩
      all_goals
        go_wp2_with fail
        go_ret
        exact ⟨rfl, _, D, ⟨HP6.out, ⟨HL.out.file, by show Go.Proofs.YtdjllnhahhjgmaaGreat.evs r.its = Go.Proofs.YtdjllnhahhjgmaaGreat.evs js'; rw [HAN.out.2.1]; exact HL.out.same, by show Go.Proofs.YtdjllnhahhjgmaaGreat.evs js' = _; rw [HAN.out.2.1]; exact HL.out.told, HL.out.good, (fun h => by cases h), HL.out.idle⟩, ⟨rfl, rfl⟩, by show Go.Proofs.YtdjllnhahhjgmaaGreat.evs r.its = _; rw [HAN.out.2.2]⟩, HV6.out, HO6.out.kept⟩
    · have hmo : ¬ most < 7 := by simp at hmost; omega
      clear hmost
      have hst := HL.out.stood rfl
      have HSD := stood_any w0 w6 B _ [] false HP6 (by show r.fl = r.pf ++ []; rw [hst.1, List.append_nil]) (by show false = !_; rfl) (by show r.fl.length ≤ _; omega) (by show r.cs.length ≤ _; omega) (by show r.ss.length ≤ _; omega)
      have HST := hide0 hst
      clear hst
      rcases hmore with hx | ⟨rfl, rfl⟩
      all_goals
        go_wp2_with fail
        refine HSD.mono ?_
        rintro e w8 ⟨rfl, cv8, sv8, HP8, HV8⟩
        clear HSD
        go_wp2
        go_ret
        exact ⟨rfl, _, D, ⟨HP8.out, ⟨HL.out.file, by show Go.Proofs.YtdjllnhahhjgmaaGreat.evs r.its = Go.Proofs.YtdjllnhahhjgmaaGreat.evs js'; rw [HAN.out.2.1]; exact HL.out.same, by show Go.Proofs.YtdjllnhahhjgmaaGreat.evs js' = _; rw [HAN.out.2.1]; exact HL.out.told, HL.out.good, fun _ => ⟨rfl, HST.out.2.1, HST.out.2.2⟩, fun h => by cases h⟩, ⟨rfl, rfl⟩, by show Go.Proofs.YtdjllnhahhjgmaaGreat.evs r.its = _; rw [HAN.out.2.2]⟩, HV6.out.trans HV8.out, (HO6.out.step (ms := []) (HV8.out.widen w.heap.size) HP8.out.arc (List.append_nil js').symm (.inl rfl)).kept⟩
end Go.Proofs.YtdjllnhahhjgmaaGreat
namespace Go.Proofs.YtdjllnhahhjgmaaGreat
open Go.RowKit Chron
structure PS where
  r : Pr
  C0 : List Chunk
  D : List Chunk
/- the memory that was there when the world began: all but the world itself is as it was -/
structure Args (b : Nat) (w0 w : World) : Prop where
  os : w.os = w0.os
  tape : w.tape = w0.tape
  output : w.output = w0.output
  size : w0.heap.size ≤ w.heap.size
  block : ∀ q, q < w0.heap.size → q ≠ b → w.heap[q]? = w0.heap[q]?
  text : ∀ o s, w0.cell? ⟨b, o, none⟩ ≠ some (.string s)
theorem Args.step {b : Nat} {w0 w w' : World} (h : Args b w0 w) (os : w'.os = w.os) (tape : w'.tape = w.tape) (output : w'.output = w.output) (size : w.heap.size ≤ w'.heap.size) (hb : ∀ q, q < w0.heap.size → q ≠ b → w'.heap[q]? = w.heap[q]?) : Args b w0 w' :=
  ⟨os.trans h.os, tape.trans h.tape, output.trans h.output, Nat.le_trans h.size size, fun q hq hne => (hb q hq hne).trans (h.block q hq hne), h.text⟩
theorem Args.below {b n : Nat} {w0 w w' : World} (h : Args b w0 w) (hb : Below n w w') (hn : w0.heap.size ≤ n) : Args b w0 w' :=
  h.step hb.os hb.tape hb.output hb.size (fun q hq _ => hb.block q (by omega))
theorem ItemOk.args {b : Nat} {w0 w : World} {it : Item} (h : ItemOk w0 it) (ha : Args b w0 w) : ItemOk w it := by
  refine ⟨fun ht => ?_, h.short, h.few, h.task, h.body⟩
  obtain ⟨q, o, hq, hx⟩ := h.tags ht
  refine ⟨q, o, hq, fun j hj => ?_⟩
  have h1 := hx j hj
  have hlt := World.block_lt_of_cell? w0 _ h1
  have hne : q ≠ b := fun e => by rw [e] at h1; exact ha.text _ _ h1
  exact (World.cell?_of_block (ha.block q hlt hne)).trans h1
theorem PairM.evsAt2 {w0 w : World} {b B : Nat} {r : Pr} (h : PairM w0 w B r) (h0 : Args b w0 w) : ∃ a cap, r.lv = .slice a r.its.length cap ∧ r.its.length ≤ cap ∧ EvsAt w a r.its := by
  rcases h.row.2 with ⟨hv, hn⟩ | ⟨g, cap, cur, hv, _, hg, hc, _, hs, ht⟩
  · exact ⟨none, 0, by rw [hv, hn], by omega, fun hp => by omega⟩
  · refine ⟨_, cap, hv, hc, fun _ => ⟨g, 0, rfl, fun k i hk => ⟨?_, ((h.tags i (List.mem_of_getElem? hk)).1).args h0⟩⟩⟩
    have hlen := (List.getElem?_eq_some_iff.1 hk).1
    have hcell : ∀ j u, i.five[j]? = some u → w.cell? ⟨g, 0 + k * 5 + j, none⟩ = some u := by
      intro j u hu
      have hj : j < 5 := by have := (List.getElem?_eq_some_iff.1 hu).1; simpa [Item.five] using this
      have h1 : (fives r.its)[k * 5 + j]? = some u := by
        exact (fives_at hk hj).trans hu
      rw [← ht, List.getElem?_take] at h1
      split at h1
      · rw [cell_of_row w g _ cur 38 (0, 0) hg, Nat.zero_add]
        simpa using h1
      · cases h1
    exact ⟨hcell 0 _ rfl, hcell 1 _ rfl, hcell 2 _ rfl, hcell 3 _ rfl, hcell 4 _ rfl⟩
structure WorldOk (crash : Bool) (most : Int) (w0 : World) (b : Nat) (w : World) (pv tv ev : Value) (xs ys : List Value) (ps : List PS) : Prop where
  book : Book2 b pv (.int .i64 most) tv ev xs ys w
  prow : w.ownsRow (b + 1) 42 1 pv ps.length (ps.map fun p => Value.pointer (some ⟨p.r.P, 0, none⟩))
  pclr : ∀ q, pv.ownBlock = some q → Clear b tv ev xs ys q
  mem : ∀ (i : Nat) (p : PS), ps[i]? = some p → PairM w0 w w0.heap.size p.r ∧ PairL crash p.r p.C0 p.D
  sep : ∀ (i : Nat) (p : PS) (q : Nat), ps[i]? = some p → p.r.foot q → Clear b tv ev xs ys q ∧ pv.ownBlock ≠ some q
  dis : ∀ (i j : Nat) (p r : PS) (q : Nat), i ≠ j → ps[i]? = some p → ps[j]? = some r → p.r.foot q → ¬ r.r.foot q
  args : Args b w0 w
  w0b : b < w0.heap.size
  aclr : ∀ q, q < w0.heap.size → q ≠ b → Clear b tv ev xs ys q ∧ pv.ownBlock ≠ some q
theorem EntG.lt {w : World} {b : Nat} {tv ev : Value} {most : Nat} {mc : List Value} {v : Value} (h : EntG w b tv ev most mc v) : ∀ q, v.ownBlock = some q → q < w.heap.size := by
  intro q hq
  rcases h with rfl | ⟨g, no, cap, ho, _, _⟩
  · simp [Value.ownBlock] at hq
  · have e := ho.blk
    rw [e] at hq
    cases hq
    exact ho.lt
theorem Book2.clear_new {b : Nat} {pv mv tv ev : Value} {xs ys : List Value} {w : World} (h : Book2 b pv mv tv ev xs ys w) {q : Nat} (hq : w.heap.size ≤ q) : Clear b tv ev xs ys q := by
  refine ⟨by have := h.lt; omega, fun e => by have := (h.tags.lt q e).2; omega, fun e => by have := (h.evts.lt q e).2; omega, fun v hv e => ?_, fun v hv e => ?_⟩
  · obtain ⟨i, hi⟩ := List.getElem?_of_mem hv
    have := (h.full i v hi).lt q e; omega
  · obtain ⟨i, hi⟩ := List.getElem?_of_mem hv
    have := (h.fullE i v hi).lt q e; omega
theorem WorldOk.turn {crash : Bool} {most : Int} {w0 w w' : World} {b : Nat} {pv tv ev : Value} {xs ys : List Value} {ps : List PS} {i : Nat} {p p' : PS} (h : WorldOk crash most w0 b w pv tv ev xs ys ps) (hp : ps[i]? = some p) (hm : Moved w w' p.r.foot p'.r.foot) (hM : PairM w0 w' w0.heap.size p'.r) (hL : PairL crash p'.r p'.C0 p'.D) (hP : p'.r.P = p.r.P) :
    WorldOk crash most w0 b w' pv tv ev xs ys (ps.set i p') := by
  have hil := (List.getElem?_eq_some_iff.1 hp).1
  have hget : ∀ (j : Nat) (x : PS), (ps.set i p')[j]? = some x → (j = i ∧ x = p') ∨ (j ≠ i ∧ ps[j]? = some x) := by
    intro j x hx
    by_cases hj : j = i
    · subst hj
      rw [List.getElem?_set_self hil] at hx
      exact .inl ⟨rfl, (Option.some.inj hx).symm⟩
    · rw [List.getElem?_set_ne (fun e => hj e.symm)] at hx
      exact .inr ⟨hj, hx⟩
  have hfoot : ∀ q, p'.r.foot q → p.r.foot q ∨ w.heap.size ≤ q := hm.sub
  refine ⟨h.book.keep hm.size (fun q hq hc => hm.block q hq (fun hf => hc (h.sep i p q hp hf).1)), ?_, h.pclr, ?_, ?_, ?_, ?_, h.w0b, h.aclr⟩
  · have e1 : (ps.set i p').map (fun p => Value.pointer (some ⟨p.r.P, 0, none⟩)) = ps.map (fun p => Value.pointer (some ⟨p.r.P, 0, none⟩)) := by
      rw [List.map_set]
      apply List.ext_getElem?
      intro j
      by_cases hj : j = i
      · subst hj
        rw [List.getElem?_set_self (by simpa using hil), List.getElem?_map, hp, Option.map_some, hP]
      · rw [List.getElem?_set_ne (fun e => hj e.symm)]
    rw [e1, List.length_set]
    exact own_of_block h.prow (fun q hq => hm.block q (h.prow.lt q hq).2 (fun hf => (h.sep i p q hp hf).2 hq))
  · intro j x hx
    rcases hget j x hx with ⟨_, rfl⟩ | ⟨hj, hx⟩
    · exact ⟨hM, hL⟩
    · obtain ⟨h1, h2⟩ := h.mem j x hx
      exact ⟨h1.keep (fun q hq => hm.block q (h1.lt q hq).2 (fun hf => h.dis i j p x q (fun e => hj e.symm) hp hx hf hq)), h2⟩
  · intro j x q hx hq
    rcases hget j x hx with ⟨_, rfl⟩ | ⟨hj, hx⟩
    · rcases hfoot q hq with h1 | h1
      · exact h.sep i p q hp h1
      · exact ⟨h.book.clear_new h1, fun e => by have := (h.prow.lt q e).2; omega⟩
    · exact h.sep j x q hx hq
  · intro j k x y q hjk hx hy hq hq2
    rcases hget j x hx with ⟨ej, e1⟩ | ⟨hj, hx2⟩
    · rcases hget k y hy with ⟨ek, e2⟩ | ⟨hk, hy2⟩
      · exact hjk (ej.trans ek.symm)
      · rw [e1] at hq
        rcases hfoot q hq with h1 | h1
        · exact h.dis i k p y q (fun e => hk e.symm) hp hy2 h1 hq2
        · have := ((h.mem k y hy2).1.lt q hq2).2; omega
    · rcases hget k y hy with ⟨ek, e2⟩ | ⟨hk, hy2⟩
      · rw [e2] at hq2
        rcases hfoot q hq2 with h1 | h1
        · exact h.dis i j p x q (fun e => hj e.symm) hp hx2 h1 hq
        · have := ((h.mem j x hx2).1.lt q hq).2; omega
      · exact h.dis j k x y q hjk hx2 hy2 hq hq2
  · refine h.args.step hm.os hm.tape hm.output hm.size (fun q hq _ => hm.block q (by have := h.args.size; omega) (fun hf => ?_))
    have := ((h.mem i p hp).1.lt q hf).1
    omega
theorem WorldOk.below {crash : Bool} {most : Int} {w0 w w' : World} {b : Nat} {pv tv ev : Value} {xs ys : List Value} {ps : List PS} (h : WorldOk crash most w0 b w pv tv ev xs ys ps) (hb : Below w.heap.size w w') : WorldOk crash most w0 b w' pv tv ev xs ys ps :=
  ⟨h.book.below hb, own_below h.prow hb, h.pclr, fun i p hp => ⟨(h.mem i p hp).1.below hb, (h.mem i p hp).2⟩, h.sep, h.dis, h.args.below hb h.args.size, h.w0b, h.aclr⟩
/- the book has kept one list more, of which nothing is a pair's -/
theorem WorldOk.kept {crash : Bool} {most : Int} {w0 w w' : World} {b : Nat} {pv tv ev tv' ev' : Value} {xs ys xs' ys' : List Value} {ps : List PS} {lv : Value} {its : List Item} (h : WorldOk crash most w0 b w pv tv ev xs ys ps) (hB : Book2 b pv (.int .i64 most) tv' ev' xs' ys' w') (hb : Below b w w')
    (hq : ∀ q, q < w.heap.size → Clear b tv ev xs ys q → lv.ownBlock ≠ some q → q ∉ tagBs its → w'.heap[q]? = w.heap[q]? ∧ Clear b tv' ev' xs' ys' q) (hl : ∀ q, lv.ownBlock = some q ∨ q ∈ tagBs its → w0.heap.size ≤ q ∧ pv.ownBlock ≠ some q ∧ ∀ (i : Nat) (p : PS), ps[i]? = some p → ¬ p.r.foot q) :
    WorldOk crash most w0 b w' pv tv' ev' xs' ys' ps := by
  have hfoot : ∀ (i : Nat) (p : PS) (q : Nat), ps[i]? = some p → p.r.foot q → w'.heap[q]? = w.heap[q]? ∧ Clear b tv' ev' xs' ys' q := fun i p q hp hf =>
    hq q ((h.mem i p hp).1.lt q hf).2 (h.sep i p q hp hf).1 (fun e => (hl q (.inl e)).2.2 i p hp hf) (fun e => (hl q (.inr e)).2.2 i p hp hf)
  have hpv : ∀ q, pv.ownBlock = some q → w'.heap[q]? = w.heap[q]? ∧ Clear b tv' ev' xs' ys' q := fun q e => hq q (h.prow.lt q e).2 (h.pclr q e) (fun e2 => (hl q (.inl e2)).2.1 e) (fun e2 => (hl q (.inr e2)).2.1 e)
  have hlo : ∀ q, q < w0.heap.size → q ≠ b → w'.heap[q]? = w.heap[q]? ∧ Clear b tv' ev' xs' ys' q := fun q h1 h2 => hq q (by have := h.args.size; omega) (h.aclr q h1 h2).1 (fun e => by have := (hl q (.inl e)).1; omega) (fun e => by have := (hl q (.inr e)).1; omega)
  exact ⟨hB, own_of_block h.prow (fun q e => (hpv q e).1), fun q e => (hpv q e).2, fun i p hp => ⟨(h.mem i p hp).1.keep (fun q hf => (hfoot i p q hp hf).1), (h.mem i p hp).2⟩, fun i p q hp hf => ⟨(hfoot i p q hp hf).2, (h.sep i p q hp hf).2⟩, h.dis, h.args.step hb.os hb.tape hb.output hb.size (fun q h1 h2 => (hlo q h1 h2).1), h.w0b, fun q h1 h2 => ⟨(hlo q h1 h2).2, (h.aclr q h1 h2).2⟩⟩
end Go.Proofs.YtdjllnhahhjgmaaGreat
namespace Go.Proofs.YtdjllnhahhjgmaaGreat
open Go.RowKit Go.Shelf Chron
theorem wpListIn_append_lies {F : Fence} {nF : Nat} {P : Program} (w : World) {ops : Array Oper} {rest : List Oper} {o : Oper} {a : Act} {Q : Exit → Act → World → Prop} (hgd : o.guard = none) (s x : Operand) (t : TypeId)
    (ho : o.op = .call { callee := .builtin .append, args := #[s, x], argTypes := #[t, t] })
    (base : Nat) (e : TypeId) (i : TypeInfo) (z : Value) (size bytes : Nat) (ht : P.underlying t = some (.slice e)) (hi : P.info? e = some i) (hz : i.zero = some z)
    (hsize : i.size = size) (hby : i.bytes = bytes) (hzs : z.cells.size = size) (hsz : 0 < size)
    (v : Value) (n : Nat) (xs : List Value) (hs : a.eval s = v) (hown : w.ownsRow base e size v n xs)
    (ad : Addr) (m c : Nat) (news : List Value) (hx : a.eval x = .slice (some ad) m c) (hl : news.length = m * size) (hnews : ∀ j u, news[j]? = some u → w.cell? (ad.add j) = some u) (h1 : ∀ u ∈ news, u.oneCell' = true)
    (hm : 0 < m) (h63 : n + m ≤ maxLen) (hbytes : (n + m) * bytes ≤ 140737488355328) (hbase : base ≤ w.heap.size) (H : Nat) (hH : w.heap.size = H)
    (h : ∀ g cap w', w'.ownsRow base e size (.slice (some ⟨g, 0, none⟩) (n + m) cap) (n + m) (xs ++ news) → w.grownBy w' v.ownBlock → (v.ownBlock = some g ∨ g = H) → g < w'.heap.size → wpListIn F nF P ops Q rest (a.put o.dst (.slice (some ⟨g, 0, none⟩) (n + m) cap)) w') : wpListIn F nF P ops Q (o :: rest) a w := by
  refine wpListIn_plain hgd fun K hK => ?_
  obtain ⟨g, cap, w', hr, h2, h3, h4, h5⟩ := run_append_lies (P := P) w t o.type base e i z size bytes ht hi hz hsize hby hzs hsz v n xs hown ad m c news hl hnews h1 hm h63 hbytes hbase H hH
  unfold Oper.wpIn
  refine ⟨by simp [Oper.about, ho, resolve, Target.leads, Sem.run_pure], ?_⟩
  rw [Oper.semAt_plain F _ _ (by rw [ho]; intro c hc'; cases hc')]
  simp [execOp, ho, resolve, invoke, builtin, hs, hx, hr, Result.andThen]
  exact hK _ _ (h g cap w' h2 h3 h4 h5)
theorem abide_block {W W' : World} {row : Option Nat} (hg : W.grownBy W' row) (hr : ∀ r, row = some r → ∃ o : Obj, W.heap[r]? = some o ∧ o.isCells = false) {q : Nat} {cur : Array Value} {e : TypeId} {fz : Nat × Nat} (hq : W.heap[q]? = some (.cells cur e fz)) : W'.heap[q]? = W.heap[q]? :=
  hg.block q (Array.getElem?_eq_some_iff.1 hq).1 (fun er => by
    obtain ⟨o, h1, h2⟩ := hr q er.symm
    rw [hq] at h1
    cases h1
    simp [Obj.isCells] at h2)
theorem own_blk {w : World} {N e s n q : Nat} {v : Value} {xs : List Value} (h : w.ownsRow N e s v n xs) (hq : v.ownBlock = some q) : ∃ cur, w.heap[q]? = some (.cells cur e (0, 0)) := by
  rcases h.2 with ⟨rfl, _⟩ | ⟨g, cap, cur, rfl, _, hg, _⟩
  · simp [Value.ownBlock] at hq
  · simp only [Value.ownBlock, Option.some.injEq] at hq
    subst hq
    exact ⟨cur, hg⟩
theorem own_abide {W W' : World} {row : Option Nat} (hg : W.grownBy W' row) (hr : ∀ r, row = some r → ∃ o : Obj, W.heap[r]? = some o ∧ o.isCells = false) {N e s n : Nat} {v : Value} {xs : List Value} (h : W.ownsRow N e s v n xs) : W'.ownsRow N e s v n xs :=
  own_of_block h fun q hq => by
    obtain ⟨cur, hc⟩ := own_blk h hq
    exact abide_block hg hr hc
theorem MadeO.abide {W W' : World} {row : Option Nat} (hg : W.grownBy W' row) (hr : ∀ r, row = some r → ∃ o : Obj, W.heap[r]? = some o ∧ o.isCells = false) {N : Nat} {v : Value} {its : List Item} (h : MadeO N W v its) : MadeO N W' v its :=
  ⟨own_abide hg hr h.row, fun it hi => own_abide hg hr (h.tags it hi), h.apart, h.dist⟩
/- a list that is put together in a box: what lies in it lies ahead of m -/
def OutAt (B m : Nat) (w0 W : World) (l : List Ev) : Prop :=
  ∃ va vc its, W.heap[B]? = some (.cells #[.slice va its.length vc] 33) ∧ MadeO (B + 1) W (.slice va its.length vc) its ∧ evs its = l ∧ (∀ q, Value.ownBlock (.slice va its.length vc) = some q ∨ q ∈ tagBs its → q < m) ∧ Below w0.heap.size w0 W ∧ w0.heap.size ≤ B ∧ B < m
theorem OutAt.abide {B m L : Nat} {w0 : World} {l : List Ev} (hL : w0.heap.size ≤ L) : Abide L (fun W => OutAt B m w0 W l) := by
  rintro W W' row ⟨va, vc, its, h1, h2, h3, h4, h5, h6, h7⟩ hg hr
  have hr' : ∀ r, row = some r → ∃ o : Obj, W.heap[r]? = some o ∧ o.isCells = false := fun r e => (hr r e).2
  exact ⟨va, vc, its, (abide_block hg hr' h1).trans h1, h2.abide hg hr', h3, h4, ⟨hg.os.trans h5.os, hg.tape.trans h5.tape, hg.output.trans h5.output, Nat.le_trans h5.size hg.size, fun q hq => (hg.block q (Nat.lt_of_lt_of_le hq h5.size) (fun er => by have := (hr q er.symm).1; omega)).trans (h5.block q hq)⟩, h6, h7⟩
theorem Kept.far {ev : Value} {its : List Item} {W W' : World} {n : Nat} (h : Below n W W') (h1 : ∀ q, ev.ownBlock = some q → q < n) (h2 : ∀ q ∈ tagBs its, q < n) : Kept ev its W W' := by
  intro a c e h0 hE
  refine hE.blocks (c := c) (fun b o v hq hv => ?_)
  have hb : b < n := by
    rcases hq with hq | hq
    · exact h1 b (by rw [e]; exact hq)
    · exact h2 b hq
  exact (World.cell?_of_block (h.block b hb)).trans hv
theorem OutAt.push {B m L : Nat} {w0 W wa : World} {o : Obj} {g cap : Nat} {i : Item} {va : Option Addr} {vc : Nat} {its : List Item} (h1 : W.heap[B]? = some (.cells #[.slice va its.length vc] 33)) (h2 : MadeO (B + 1) W (.slice va its.length vc) its) (h4 : ∀ q, Value.ownBlock (.slice va its.length vc) = some q ∨ q ∈ tagBs its → q < m)
    (h5 : Below w0.heap.size w0 W) (h6 : w0.heap.size ≤ B) (h7 : B < m) (hi : W.ownsRow m 9 1 i.tv i.ev.tags.length (i.ev.tags.map Value.string)) (hgr : (W.alloc o).grownBy wa (Value.ownBlock (.slice va its.length vc)))
    (hown : wa.ownsRow (B + 1) 38 5 (.slice (some ⟨g, 0, none⟩) (its.length + 1) cap) (its.length + 1) (fives its ++ i.five)) (hat : Value.ownBlock (.slice va its.length vc) = some g ∨ g = (W.alloc o).heap.size) :
    OutAt B (wa.setCell ⟨B, 0, none⟩ (.slice (some ⟨g, 0, none⟩) (its.length + 1) cap)).heap.size w0 (wa.setCell ⟨B, 0, none⟩ (.slice (some ⟨g, 0, none⟩) (its.length + 1) cap)) (evs its ++ [i.ev]) ∧ KeepsFrom L W (wa.setCell ⟨B, 0, none⟩ (.slice (some ⟨g, 0, none⟩) (its.length + 1) cap)) ∧ Below w0.heap.size W (wa.setCell ⟨B, 0, none⟩ (.slice (some ⟨g, 0, none⟩) (its.length + 1) cap)) := by
  have hl : (its ++ [i]).length = its.length + 1 := by simp
  have hP := h2.push hi (by omega) (fun q hq => h4 q (.inl hq)) (fun q hq => h4 q (.inr hq)) hgr hown hat
  have hBs := (Array.getElem?_eq_some_iff.1 h1).1
  have hgs := hgr.size
  rw [World.size_alloc] at hgs
  have hws := h5.size
  have hrow := fun q (hq : Value.ownBlock (.slice va its.length vc) = some q) => h2.row.lt q hq
  have hwB : wa.heap[B]? = some (.cells #[.slice va its.length vc] 33) := (hgr.block B (by rw [World.size_alloc]; omega) (fun e => by have := (hrow B e.symm).1; omega)).trans ((Below.heap_alloc _ _ _ hBs).trans h1)
  have hfs : (wa.setCell ⟨B, 0, none⟩ (.slice (some ⟨g, 0, none⟩) (its.length + 1) cap)).heap.size = wa.heap.size := by simp [World.setCell]
  have hset : (wa.setCell ⟨B, 0, none⟩ (.slice (some ⟨g, 0, none⟩) (its.length + 1) cap)).heap[B]? = some (.cells #[.slice (some ⟨g, 0, none⟩) (its.length + 1) cap] 33) := by
    simp only [World.setCell, Array.getElem?_modify, if_true, hwB, Option.map_some]
    rfl
  have hoth : ∀ q, q ≠ B → (wa.setCell ⟨B, 0, none⟩ (.slice (some ⟨g, 0, none⟩) (its.length + 1) cap)).heap[q]? = wa.heap[q]? := fun q hq => Below.heap_setCell _ _ _ _ hq
  have hPF := hP.keep (w' := wa.setCell ⟨B, 0, none⟩ (.slice (some ⟨g, 0, none⟩) (its.length + 1) cap)) (fun q h1 _ => hoth q (by omega))
  have hbel : Below w0.heap.size W (wa.setCell ⟨B, 0, none⟩ (.slice (some ⟨g, 0, none⟩) (its.length + 1) cap)) := by
    refine ⟨hgr.os, hgr.tape, hgr.output, by omega, fun q hq => ?_⟩
    rw [hoth q (by omega), hgr.block q (by rw [World.size_alloc]; omega) (fun e => by have := (hrow q e.symm).1; omega), Below.heap_alloc _ _ _ (by omega)]
  refine ⟨⟨some ⟨g, 0, none⟩, cap, its ++ [i], by rw [hl]; exact hset, by rw [hl]; exact hPF, by simp [evs], fun q hq => ?_, h5.trans hbel, h6, by omega⟩, ⟨by omega, fun k ob hk hob hc => ?_⟩, hbel⟩
  · rw [hl] at hq
    rcases hq with hq | hq
    · exact (hPF.row.lt q hq).2
    · exact (hPF.tag_lt hq).2
  · have hkW := (Array.getElem?_eq_some_iff.1 hob).1
    have n1 : k ≠ B := fun e => by rw [e, h1] at hob; cases hob; simp [Obj.isCells] at hc
    have n2 : Value.ownBlock (.slice va its.length vc) ≠ some k := fun e => by
      obtain ⟨cur, hcur⟩ := own_blk h2.row e
      rw [hcur] at hob; cases hob; simp [Obj.isCells] at hc
    rw [hoth k n1, hgr.block k (by rw [World.size_alloc]; omega) (fun e => n2 e.symm), Below.heap_alloc _ _ _ hkW]
    exact hob
theorem out_box {B : Nat} {W wa : World} {o : Obj} {lv : Value} {n : Nat} {xs : List Value} (h1 : W.heap[B]? = some (.cells #[lv] 33)) (h2 : W.ownsRow (B + 1) 38 5 lv n xs) (hgr : (W.alloc o).grownBy wa lv.ownBlock) : wa.cell? ⟨B, 0, none⟩ = some lv ∧ wa.frozen? ⟨B, 0, none⟩ = false := by
  have hBs := (Array.getElem?_eq_some_iff.1 h1).1
  have h : wa.heap[B]? = some (.cells #[lv] 33) := (hgr.block B (by rw [World.size_alloc]; omega) (fun e => by have := (h2.lt B e.symm).1; omega)).trans ((Below.heap_alloc _ _ _ hBs).trans h1)
  simp [World.cell?, World.frozen?, h]
attribute [local go_sem] Oper.semAt_some
end Go.Proofs.YtdjllnhahhjgmaaGreat
namespace Go.Proofs.YtdjllnhahhjgmaaGreat
open Go.RowKit Go.Shelf Chron
theorem same_set {W : World} {q o : Nat} {v : Value} {n : Nat} (h : W.cell? ⟨q, o, none⟩ = some v) : Below n W (W.setCell ⟨q, o, none⟩ v) :=
  ⟨rfl, rfl, rfl, by simp [World.setCell], fun k _ => setCell_same_heap h k⟩
theorem grown_below {W wc : World} {n : Nat} (h : Below n W wc) (hn : W.heap.size ≤ n) : W.grownBy wc none := ⟨h.os, h.tape, h.output, h.size, fun q hq _ => h.block q (by omega)⟩
theorem round_same {wc : World} {la : Option Addr} {its : List Item} {n m : Nat} {k : Int} {t : ByteArray} {mm : Int} {bd : ByteArray} {ts : List ByteArray} {ia : Option Addr} {ic K : Nat} (hLE : EvsAt wc la its) (he : (evs its)[n]? = some ⟨k, t, mm, bd, ts⟩) (hH : wc.ownsRow m 9 1 (.slice ia ts.length ic) ts.length (ts.map Value.string)) (hK : wc.cell? ⟨K, 0, none⟩ = some (.bool true)) (fK : wc.frozen? ⟨K, 0, none⟩ = false) :
    ∃ lb lo ta tc, la = some ⟨lb, lo, none⟩ ∧ wc.cell? ⟨lb, lo + n * 5, none⟩ = some (.int .i64 k) ∧ wc.cell? ⟨lb, lo + n * 5 + 1, none⟩ = some (.string t) ∧ wc.cell? ⟨lb, lo + n * 5 + 2, none⟩ = some (.int .i64 mm) ∧ wc.cell? ⟨lb, lo + n * 5 + 3, none⟩ = some (.string bd) ∧ wc.cell? ⟨lb, lo + n * 5 + 4, none⟩ = some (.slice ta ts.length tc) ∧
      (Calls Tryz.prog 19 #[.agg #[.int .i64 k, .string t, .int .i64 mm, .string bd, .slice ia ts.length ic], .agg #[.int .i64 k, .string t, .int .i64 mm, .string bd, .slice ta ts.length tc]] wc.drew fun r w' => r = .returned (.bool true) ∧ Hid (Below wc.heap.size wc w') ∧ w'.cell? ⟨K, 0, none⟩ = some (.bool true) ∧ w'.frozen? ⟨K, 0, none⟩ = false) := by
  simp only [evs, List.getElem?_map, Option.map_eq_some_iff] at he
  obtain ⟨⟨ev, ta, tc⟩, hx, rfl⟩ := he
  have hn := (List.getElem?_eq_some_iff.1 hx).1
  obtain ⟨lb, lo, rfl, hc⟩ := hLE (by omega)
  obtain ⟨⟨c0, c1, c2, c3, c4⟩, hok⟩ := hc n _ hx
  have hfew : ts.length ≤ maxLen := by have := hok.few; unfold maxLen; simp only at this ⊢; omega
  have hTg : TagsAt wc ia ts := by
    obtain ⟨a9, c9, e9, h9⟩ := own_tags hH
    cases e9
    exact h9
  have hS := same_law ⟨k, t, mm, bd, ts⟩ ⟨k, t, mm, bd, ts⟩ ia ta ic tc wc.drew (hide0 hTg) (hide0 hok.tags) hfew hfew
  simp only [evVal, (sameEv_iff (e := ⟨k, t, mm, bd, ts⟩) (f := ⟨k, t, mm, bd, ts⟩)).2 rfl] at hS
  have hKl := World.block_lt_of_cell? wc _ hK
  refine ⟨lb, lo, ta, tc, rfl, c0, c1, c2, c3, c4, hS.mono ?_⟩
  rintro r w' ⟨rfl, hb⟩
  have hb2 : Below wc.heap.size wc w' := ((Below.refl _ wc).drew).trans hb
  exact ⟨rfl, hide0 hb2, (hb2.cell (p := ⟨K, 0, none⟩) hKl).trans hK, (hb2.frozen (p := ⟨K, 0, none⟩) hKl).trans fK⟩
theorem low_box {B q : Nat} {W wa : World} {o ob : Obj} {lv : Value} {n : Nat} {xs : List Value} (hB : B ≤ W.heap.size) (h2 : W.ownsRow (B + 1) 38 5 lv n xs) (hgr : (W.alloc o).grownBy wa lv.ownBlock) (hq : q < B) (h : W.heap[q]? = some ob) : wa.heap[q]? = some ob := by
  rw [hgr.block q (by rw [World.size_alloc]; omega) (fun e => by have := (h2.lt q e.symm).1; omega), Below.heap_alloc _ _ _ (by omega)]; exact h
theorem one_cell {W : World} {q : Nat} {v : Value} {ty : TypeId} (h : W.heap[q]? = some (.cells #[v] ty)) : W.cell? ⟨q, 0, none⟩ = some v ∧ W.frozen? ⟨q, 0, none⟩ = false := by
  refine ⟨by simp only [World.cell?, h]; rfl, by simp [World.frozen?, h]⟩
/- the list is one longer, and the number beside it -/
theorem OutAt.push2 {B m L Nb : Nat} {w0 W wa : World} {o : Obj} {g cap : Nat} {i : Item} {va : Option Addr} {vc : Nat} {its : List Item} {u v : Value} (h1 : W.heap[B]? = some (.cells #[.slice va its.length vc] 33)) (h2 : MadeO (B + 1) W (.slice va its.length vc) its) (h4 : ∀ q, Value.ownBlock (.slice va its.length vc) = some q ∨ q ∈ tagBs its → q < m)
    (h5 : Below w0.heap.size w0 W) (h6 : w0.heap.size ≤ B) (h7 : B < m) (hi : W.ownsRow m 9 1 i.tv i.ev.tags.length (i.ev.tags.map Value.string)) (hgr : (W.alloc o).grownBy wa (Value.ownBlock (.slice va its.length vc)))
    (hown : wa.ownsRow (B + 1) 38 5 (.slice (some ⟨g, 0, none⟩) (its.length + 1) cap) (its.length + 1) (fives its ++ i.five)) (hat : Value.ownBlock (.slice va its.length vc) = some g ∨ g = (W.alloc o).heap.size) (hNb : w0.heap.size ≤ Nb ∧ Nb < B) (hNt : ∃ ty, W.heap[Nb]? = some (.cells #[u] ty)) :
    ∃ F, F = (wa.setCell ⟨B, 0, none⟩ (.slice (some ⟨g, 0, none⟩) (its.length + 1) cap)).setCell ⟨Nb, 0, none⟩ v ∧ OutAt B F.heap.size w0 F (evs its ++ [i.ev]) ∧ KeepsFrom L W F ∧ Below w0.heap.size W F ∧ (∀ q, q < B → q ≠ Nb → F.heap[q]? = W.heap[q]?) ∧ (∀ ty, W.heap[Nb]? = some (.cells #[u] ty) → F.heap[Nb]? = some (.cells #[v] ty)) := by
  obtain ⟨q1, q2, q3⟩ := OutAt.push (L := L) h1 h2 h4 h5 h6 h7 hi hgr hown hat
  have hBs := (Array.getElem?_eq_some_iff.1 h1).1
  have hlow : ∀ q, q < B → (wa.setCell ⟨B, 0, none⟩ (.slice (some ⟨g, 0, none⟩) (its.length + 1) cap)).heap[q]? = W.heap[q]? := fun q hq => by
    rw [Below.heap_setCell _ _ _ _ (by show q ≠ B; omega), hgr.block q (by rw [World.size_alloc]; omega) (fun e => by have := (h2.row.lt q e.symm).1; omega), Below.heap_alloc _ _ _ (by omega)]
  generalize (wa.setCell ⟨B, 0, none⟩ (.slice (some ⟨g, 0, none⟩) (its.length + 1) cap)) = X at *
  have hs : (X.setCell ⟨Nb, 0, none⟩ v).heap.size = X.heap.size := by simp [World.setCell]
  have hoth : ∀ q, q ≠ Nb → (X.setCell ⟨Nb, 0, none⟩ v).heap[q]? = X.heap[q]? := fun q hq => Below.heap_setCell _ _ _ _ hq
  have hset : ∀ ty, W.heap[Nb]? = some (.cells #[u] ty) → (X.setCell ⟨Nb, 0, none⟩ v).heap[Nb]? = some (.cells #[v] ty) := fun ty h => by
    have hx := (hlow Nb hNb.2).trans h
    simp only [World.setCell, Array.getElem?_modify, if_true, hx, Option.map_some]
    rfl
  have hb : Below w0.heap.size X (X.setCell ⟨Nb, 0, none⟩ v) := ⟨rfl, rfl, rfl, by omega, fun q hq => hoth q (by omega)⟩
  obtain ⟨va', vc', its', r1, r2, r3, r4, r5, r6, r7⟩ := q1
  refine ⟨_, rfl, ⟨va', vc', its', (hoth B (by omega)).trans r1, r2.keep (fun q hq _ => hoth q (by omega)), r3, fun q hq => by rw [hs]; exact r4 q hq, r5.trans hb, r6, by omega⟩, ?_, q3.trans hb, fun q hq hn => (hoth q hn).trans (hlow q hq), hset⟩
  refine ⟨by have := q2.size; omega, fun k ob hk hob hc => ?_⟩
  have hne : k ≠ Nb := fun e => by
    obtain ⟨ty, ht⟩ := hNt
    rw [e, ht] at hob; cases hob; simp [Obj.isCells] at hc
  exact (hoth k hne).trans (q2.same k ob hk hob hc)
theorem own_isC {w : World} {N n sz : Nat} {ty : TypeId} {v : Value} {xs : List Value} {q : Nat} {o : Obj} (h : w.ownsRow N ty sz v n xs) (hq : v.ownBlock = some q) (ho : w.heap[q]? = some o) : o.isCells = true := by
  obtain ⟨cur, hcur⟩ := own_blk h hq
  rw [hcur] at ho; cases ho; rfl
theorem OwnB.isCells {w : World} {base : Nat} {e : TypeId} {v : Value} {n : Nat} {xs : List Value} (h : OwnB w base e v n xs) {q : Nat} {o : Obj} (hq : v.ownBlock = some q) (ho : w.heap[q]? = some o) : o.isCells = true := by
  rcases h.2 with ⟨rfl, _⟩ | ⟨g, cap, cur, fz, rfl, _, hg, _⟩
  · simp [Value.ownBlock] at hq
  · simp [Value.ownBlock] at hq
    subst hq
    rw [hg] at ho; cases ho; rfl
theorem PairM.cells {w0 w : World} {B : Nat} {r : Pr} (h : PairM w0 w B r) {q : Nat} {o : Obj} (hq : r.foot q) (ho : w.heap[q]? = some o) : o.isCells = true := by
  rcases hq with rfl | (rfl | hq | hq | hq) | hq | hq | hq
  · have e := h.blk.symm.trans ho; cases e; rfl
  · have e := h.arc.blk.symm.trans ho; cases e; rfl
  · exact h.arc.fil.isCells hq ho
  · exact own_isC h.arc.evs.row hq ho
  · obtain ⟨it, hi, e⟩ := tagBs_mem.1 hq
    exact own_isC (h.arc.evs.tags it hi) e ho
  · exact own_isC h.row hq ho
  · exact own_isC h.cnt hq ho
  · exact own_isC h.std hq ho
theorem WorldOk.other {crash : Bool} {most : Int} {w0 w w' : World} {b : Nat} {pv tv ev : Value} {xs ys : List Value} {ps : List PS} {D : Nat} {o : Obj} (h : WorldOk crash most w0 b w pv tv ev xs ys ps) (hg : w.grownBy w' (some D)) (hD : w.heap[D]? = some o) (ho : o.isCells = false) (hc : Clear b tv ev xs ys D) (hb : w0.heap.size ≤ D) : WorldOk crash most w0 b w' pv tv ev xs ys ps := by
  have hf : ∀ (i : Nat) (p : PS) (q : Nat), ps[i]? = some p → p.r.foot q → q ≠ D := fun i p q hp hq e => by
    have := (h.mem i p hp).1.cells hq (by rw [e]; exact hD)
    rw [ho] at this; cases this
  refine ⟨h.book.keep hg.size (fun q hq hn => hg.block q hq (fun e => by cases e; exact hn hc)), own_of_block h.prow (fun q hq => hg.block q (h.prow.lt q hq).2 (fun e => by
    cases e
    have := own_isC h.prow hq hD
    rw [ho] at this; cases this)), h.pclr, fun i p hp => ⟨(h.mem i p hp).1.keep (fun q hq => hg.block q ((h.mem i p hp).1.lt q hq).2 (fun e => by cases e; exact hf i p _ hp hq rfl)), (h.mem i p hp).2⟩, h.sep, h.dis, h.args.step hg.os hg.tape hg.output hg.size (fun q hq _ => hg.block q (by have := h.args.size; omega) (fun e => by cases e; omega)), h.w0b, h.aclr⟩
/- the book keeps a list that was put together -/
theorem book_keep {crash : Bool} {most : Int} {w0 W : World} {b : Nat} {pv tv ev : Value} {xs ys : List Value} {ps : List PS} {lv : Value} {its : List Item} {N r r2 : Nat} (HW : WorldOk crash most w0 b W pv tv ev xs ys ps) (ho : MadeO N W lv its) (hN : w0.heap.size ≤ N) (hcl : ∀ q, lv.ownBlock = some q ∨ q ∈ tagBs its → Clear b tv ev xs ys q ∧ pv.ownBlock ≠ some q ∧ ∀ (i : Nat) (p : PS), ps[i]? = some p → ¬ p.r.foot q)
    (h200 : its.length ≤ 200) (h4 : ∀ it ∈ its, it.ev.tags.length ≤ 4) (HX : xs.length = 4 * r ∧ r + its.length ≤ 500000000) (HY : ys.length = 4 * r2 ∧ r2 ≤ 500000000) :
    Calls Tryz.prog 22 #[.pointer (some ⟨b, 1, none⟩), lv] W.drew fun e w' => e = .returned (.tuple #[]) ∧ ∃ tv' ev' xs' ys', Hid (WorldOk crash most w0 b w' pv tv' ev' xs' ys' ps) ∧ Hid (xs'.length = 4 * (r + its.length) ∧ ys'.length = 4 * (r2 + 1)) ∧ Hid (Below b W w' ∧ ∀ q, q < W.heap.size → Clear b tv ev xs ys q → lv.ownBlock ≠ some q → q ∉ tagBs its → w'.heap[q]? = W.heap[q]? ∧ Clear b tv' ev' xs' ys' q) := by
  have hd : Below W.heap.size W W.drew := (Below.refl _ W).drew
  have HD := HW.below hd
  have hod := ho.abide (grown_below hd (Nat.le_refl _)) (fun r e => by cases e)
  have hN1 : b + 1 ≤ N := by have := HW.w0b; omega
  have hlo : ∀ q, lv.ownBlock = some q ∨ q ∈ tagBs its → N ≤ q := fun q hq => by
    rcases hq with hq | hq
    · exact (ho.row.lt q hq).1
    · exact (ho.tag_lt hq).1
  have hP : Pend b tv ev xs ys W.drew lv its 0 := ⟨own_mono hod.row hN1, fun it hi => own_mono (hod.tags it (by simpa using hi)) hN1, by simpa using hod.apart, by simpa using hod.dist, fun q hq => (hcl q (.inl hq)).1, fun q hq => (hcl q (.inr (by simpa using hq))).1⟩
  refine (keep_any b r r2 pv (.int .i64 most) tv ev xs ys lv its W.drew (hide0 HD.book) (hide0 hP) h200 (hide0 h4) (hide0 HX) (hide0 HY)).mono ?_
  rintro e w' ⟨rfl, tv', ev', xs', ys', hB, hl, hb, hq⟩
  refine ⟨rfl, tv', ev', xs', ys', hide0 (HD.kept hB.out hb hq.out (fun q hq => ⟨by have := hlo q hq; omega, (hcl q hq).2⟩)), hl, hide0 ⟨(hd.mono (Nat.le_of_lt HW.book.lt)).trans hb, fun q h1 h2 h3 h5 => ?_⟩⟩
  exact ⟨((hq.out q (by exact h1) h2 h3 h5).1).trans (hd.block q h1), (hq.out q (by exact h1) h2 h3 h5).2⟩
end Go.Proofs.YtdjllnhahhjgmaaGreat
