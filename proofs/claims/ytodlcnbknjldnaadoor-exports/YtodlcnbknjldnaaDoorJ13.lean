/- Walk of chroniclelaw.Exports. -/
import Derived.Test.YtodlcnbknjldnaaDoorJ8
import Derived.Test.YtodlcnbknjldnaaDoorJ12
namespace Go.Proofs.YtodlcnbknjldnaaDoor
open Go.RowKit Chron
theorem AllAt.done {b G n : Nat} {a : Option Addr} {cap : Nat} {l : List Item} {w0 wx : World} {tv cv : Value} {ls : List (Nat × Nat)} {its : List Item} (h : AllAt b G n a cap l w0 wx tv cv ls its) (hn : l.length = n) (hi : its.length = n + 8) (hls : ls.length = n) (hl : EvsAt w0 a l) :
    EvsAt wx (some ⟨G, 0, none⟩) (its.take n) ∧ (its.take n).length = n ∧ evs (its.take n) = evs l ∧ LentOk ls wx ∧ ∀ k, n ≤ k → k < n + 8 → CellsAt wx G (k * 5) badI := by
  have hok : ∀ k e, l[k]? = some e → ItemOk w0 e := fun k e he => by
    obtain ⟨_, _, _, hc⟩ := hl (by have := (List.getElem?_eq_some_iff.1 he).1; omega)
    exact (hc k e he).2
  have hlen : (its.take n).length = n := by rw [List.length_take]; omega
  have hat : ∀ k, k < n → ∃ M e, ls[k]? = some (M, e.ev.tags.length) ∧ l[k]? = some e ∧ its[k]? = some ⟨e.ev, some ⟨M, 0, none⟩, e.ev.tags.length + 8⟩ ∧ wx.heap[M]? = some (.cells (lent e.ev.tags 8).toArray 9 (0, 0)) := by
    intro k hk
    obtain ⟨⟨M, c⟩, hM⟩ : ∃ x, ls[k]? = some x := ⟨_, List.getElem?_eq_getElem (by omega)⟩
    obtain ⟨e, h1, h2, h3, h4, _⟩ := h.lists k M c hM
    subst h2
    exact ⟨M, e, hM, h1, h3, h4⟩
  refine ⟨fun _ => ⟨G, 0, rfl, fun k i hk => ?_⟩, hlen, ?_, fun i M c hM => ?_, fun k h1 h2 => h.row.at (h.bads k h1 (by omega))⟩
  · have hkn : k < n := by have := (List.getElem?_eq_some_iff.1 hk).1; omega
    rw [List.getElem?_take_of_lt hkn] at hk
    obtain ⟨M, e, _, he, hI, hr⟩ := hat k hkn
    rw [hI] at hk
    simp only [Option.some.injEq] at hk
    subst hk
    have ho := hok k e he
    exact ⟨by rw [Nat.zero_add]; exact h.row.at hI, lent_tags hr, ho.short, ho.few, ho.task, ho.body⟩
  · apply List.ext_getElem?
    intro k
    rcases Nat.lt_or_ge k n with hk | hk
    · obtain ⟨M, e, _, he, hI, _⟩ := hat k hk
      simp only [evs, List.getElem?_map, List.getElem?_take_of_lt hk, hI, he, Option.map_some]
    · rw [List.getElem?_eq_none (by simp [evs]; omega), List.getElem?_eq_none (by simp [evs]; omega)]
  · obtain ⟨e, h1, rfl, h3, hr, _⟩ := h.lists i M c hM
    refine ⟨(hok i e h1).few, fun q g1 g2 => ?_⟩
    have : (lent e.ev.tags 8)[q]? = some (.string badT) := by
      rw [lent, List.getElem?_append_right (by simpa using g1), List.getElem?_append_left (by simp; omega), List.getElem?_replicate, if_pos (by simp; omega)]
    simpa [World.cell?, hr] using this
theorem expB_nil : expB (evs []) = ([91, 93], 0) := by decide
set_option maxRecDepth 100000 in
set_option maxHeartbeats 2000000 in
theorem exports_any (a : Option Addr) (cap : Nat) (l : List Item) (w : World) (hl : Hid (EvsAt w a l)) (hn : l.length * 72 ≤ 140737488351232) (hL : Hid (LaidAt w)) :
    Calls Tryd.prog 3 #[.slice a l.length cap] w fun e w' => e = .returned (.bool true) ∧ Below w.heap.size w w' := by
  have hE0 := export_any none 0 [] w (fun h => by cases h) (by decide) hL
  rw [expB_nil] at hE0
  go_enter Tryd.func3, Tryd.ntmps3
  go_wp2_with fail
  refine Calls.mono hE0 ?_
  rintro e w1 ⟨rfl, hb1⟩
  clear hE0
  go_wp2_with fail
  have hs1 := hb1.size
  have HL1 : Hid (LoanAt w1.heap.size (.slice none 0 0) (.slice none 0 0) (.slice none 0 0) (.int .i64 0) (.slice none 0 0) 0 [] 0 [] (w1.alloc (.cells #[.slice none 0 0, .slice none 0 0, .slice none 0 0, .int .i64 0, .slice none 0 0] 30))) :=
    ⟨heap_alloc_new _ _, World.ownsRow_nil _ _ _ _, World.ownsRow_nil _ _ _ _, fun q hq => by cases hq⟩
  have HE1 := hide0 (hl.out.below hb1 (Nat.le_refl _))
  refine (all_any w1.heap.size a cap l w1 _ (Nat.le_refl _) ((Below.refl _ _).alloc (Nat.le_refl _) _) HL1 HE1 hn).mono ?_
  rintro e w2 ⟨G, tv, cv, ls, its, rfl, hi, hls, hA⟩
  obtain ⟨q1, q2, q3, q4, q5⟩ := hA.done rfl hi hls HE1.out
  have HQ1 := hide0 q1
  have HQ3 := hide0 q3
  have HQ4 := hide0 q4
  have HQ5 := hide0 q5
  have HA := hide0 hA
  have hb2 := hA.bel
  have hs2 := hb2.size
  have HW2 := hide0 (hb1.trans (hb2.mono hs1))
  have hX := export_any (some ⟨G, 0, none⟩) (l.length + 8) (its.take l.length) w2 HQ1 (by rw [q2]; exact hn) (hL.out.below HW2.out (Nat.le_refl _))
  rw [q2, q3] at hX
  clear q1 q3 q4 q5 hA hb1 HL1 HE1 hb2
  go_wp2_with fail
  refine hX.mono ?_
  rintro e w3 ⟨rfl, hb3⟩
  have hs3 := hb3.size
  have HW3 := hide0 (HW2.out.trans (hb3.mono (by omega)))
  clear hX
  go_wp2_with fail
  refine (exportRef_any a cap l w3 (hl.out.below HW3.out (Nat.le_refl _)) hn).mono ?_
  rintro e w4 ⟨rfl, hb4⟩
  have hb24 : Below w2.heap.size w2 w4 := hb3.trans (hb4.mono hs3)
  have HB24 := hide0 hb24
  have hs4 := hb4.size
  have HW4 := hide0 (HW3.out.trans (hb4.mono (by omega)))
  clear hb3 hb4 hb24
  go_wp2_with fail
  have hK := kept_any w1.heap.size G l.length tv cv a cap ls (its.take l.length) l w4 (HA.out.loan.kept HB24.out (Nat.le_refl _))
    (fun i M n hi => ⟨(HQ4.out i M n hi).1, fun q h1 h2 => by have := (HQ4.out i M n hi).2 q h1 h2; exact (HB24.out.cell (p := ⟨M, q, none⟩) (World.block_lt_of_cell? w2 _ this)).trans this⟩) (by omega) hn (HQ1.out.below HB24.out (Nat.le_refl _)) q2
    (fun k h1 h2 => (HQ5.out k h1 h2).below HB24.out (Nat.le_refl _)) (hl.out.below HW4.out (Nat.le_refl _)) rfl HQ3
  refine hK.mono ?_
  rintro e w5 ⟨rfl, hb5⟩
  have HW5 := hide0 (HW4.out.trans (hb5.mono (by omega)))
  clear hK hb5
  generalize expB (evs l) = x
  have h1 : ((⟨x.1.toArray⟩ : ByteArray).toList == (⟨x.1.toArray⟩ : ByteArray).toList) = true := by simp
  have h2 : (x.2 == x.2) = true := by simp
  go_wp2
  go_ret
  exact ⟨rfl, HW5.out⟩
end Go.Proofs.YtodlcnbknjldnaaDoor
