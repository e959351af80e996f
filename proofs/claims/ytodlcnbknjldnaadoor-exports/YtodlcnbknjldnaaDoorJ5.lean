/- A list of events in memory; walk of canon.refuse. -/
import Derived.Test.YtodlcnbknjldnaaDoorJ4
namespace Go.Proofs.YtodlcnbknjldnaaDoor
open Go.RowKit Chron
/- an event, and where its tags lie -/
structure Item where
  ev : Ev
  at' : Option Addr
  cap : Nat
def Item.val (i : Item) : Value := .agg #[.int .i64 i.ev.kind, .string i.ev.task, .int .i64 i.ev.time, .string i.ev.body, .slice i.at' i.ev.tags.length i.cap]
structure ItemOk (w : World) (i : Item) : Prop where
  tags : TagsAt w i.at' i.ev.tags
  short : Short i.ev.tags
  few : i.ev.tags.length * 16 ≤ 140737488351232
  task : i.ev.task.size ≤ maxLen
  body : i.ev.body.size ≤ maxLen
structure CellsAt (w : World) (b o : Nat) (i : Item) : Prop where
  c0 : w.cell? ⟨b, o, none⟩ = some (.int .i64 i.ev.kind)
  c1 : w.cell? ⟨b, o + 1, none⟩ = some (.string i.ev.task)
  c2 : w.cell? ⟨b, o + 2, none⟩ = some (.int .i64 i.ev.time)
  c3 : w.cell? ⟨b, o + 3, none⟩ = some (.string i.ev.body)
  c4 : w.cell? ⟨b, o + 4, none⟩ = some (.slice i.at' i.ev.tags.length i.cap)
def EvsAt (w : World) (a : Option Addr) (l : List Item) : Prop :=
  0 < l.length → ∃ b off, a = some ⟨b, off, none⟩ ∧ ∀ k i, l[k]? = some i → CellsAt w b (off + k * 5) i ∧ ItemOk w i
def evs (l : List Item) : List Ev := l.map (·.ev)
theorem ItemOk.below {w w' : World} {i : Item} {B : Nat} (h : ItemOk w i) (hb : Below B w w') (hB : w.heap.size ≤ B) : ItemOk w' i := ⟨h.tags.below hb hB, h.short, h.few, h.task, h.body⟩
theorem CellsAt.below {w w' : World} {b o : Nat} {i : Item} {B : Nat} (h : CellsAt w b o i) (hb : Below B w w') (hB : w.heap.size ≤ B) : CellsAt w' b o i := by
  have hlt := Nat.lt_of_lt_of_le (World.block_lt_of_cell? w _ h.c0) hB
  exact ⟨(hb.cell (p := ⟨b, o, none⟩) hlt).trans h.c0, (hb.cell (p := ⟨b, o + 1, none⟩) hlt).trans h.c1, (hb.cell (p := ⟨b, o + 2, none⟩) hlt).trans h.c2, (hb.cell (p := ⟨b, o + 3, none⟩) hlt).trans h.c3, (hb.cell (p := ⟨b, o + 4, none⟩) hlt).trans h.c4⟩
theorem EvsAt.below {w w' : World} {a : Option Addr} {l : List Item} {B : Nat} (h : EvsAt w a l) (hb : Below B w w') (hB : w.heap.size ≤ B) : EvsAt w' a l := by
  intro h0
  obtain ⟨b, off, rfl, hc⟩ := h h0
  exact ⟨b, off, rfl, fun k i hi => ⟨(hc k i hi).1.below hb hB, (hc k i hi).2.below hb hB⟩⟩
set_option maxRecDepth 100000 in
set_option maxHeartbeats 1000000 in
theorem refuse_any (a : Option Addr) (cap : Nat) (l : List Item) (w : World) (hl : Hid (EvsAt w a l)) (hn : l.length * 72 ≤ 140737488351232) :
    Calls Tryd.prog 8 #[.slice a l.length cap] w fun e w' => e = .returned (.int .i64 (expB (evs l)).2) ∧ Below w.heap.size w w' := by
  by_cases hmany : 200 < l.length
  · have HE : Hid ((expB (evs l)).2 = 5) := by show _ = _; rw [expB, if_pos (by simpa [evs] using hmany)]
    go_enter Tryd.func8, Tryd.ntmps8
    go_wp2
    go_ret
    exact ⟨ret_int HE.out.symm, Below.refl _ _⟩
  · go_enter Tryd.func8, Tryd.ntmps8
    go_wp2
    go_loopw [10] (fun i wx => ∃ k : Nat, k ≤ l.length ∧ i = .int .i64 k ∧ Hid (∀ x ∈ (evs l).take k, isB x = true) ∧ Hid (Below w.heap.size w wx)) (fun i _ => l.length - (intOf i).toNat)
    case atStart => exact ⟨0, Nat.zero_le _, rfl, by intro x hx; simp at hx, Below.refl _ _⟩
    case round =>
      obtain ⟨k, hk, rfl, HA, HW⟩ := hrel
      by_cases hlt : k < l.length
      · obtain ⟨b1, o1, rfl, hc1⟩ := hl.out.below HW.out (Nat.le_refl _) (by omega)
        obtain ⟨⟨⟨kd, tk, tm, bd, ts⟩, ta, tc⟩, hx⟩ : ∃ x, l[k]? = some x := ⟨_, List.getElem?_eq_getElem hlt⟩
        obtain ⟨⟨c0, c1, c2, c3, c4⟩, hok⟩ := hc1 k _ hx
        simp only at c0 c1 c2 c3 c4
        have HOK := hide0 hok
        have HX := hide0 hx
        clear hc1 hok hx
        have hI := is_any kd tk tm bd ta tc ts (wr.alloc (.cells #[.int .i64 kd, .string tk, .int .i64 tm, .string bd, .slice ta ts.length tc] 39)) (HOK.out.tags.alloc _) HOK.out.short (by have := HOK.out.few; unfold maxLen; simp only at this; omega) HOK.out.task HOK.out.body
        have hsz := HW.out.size
        generalize hq : isB ⟨kd, tk, tm, bd, ts⟩ = q at hI
        have HQ : Hid _ := hq
        clear hq
        have hev : (evs l)[k]? = some ⟨kd, tk, tm, bd, ts⟩ := by rw [evs, List.getElem?_map, HX.out]; rfl
        cases q
        · have HE : Hid ((expB (evs l)).2 = 2) := by
            show _ = _
            rw [expB, if_neg (by simpa [evs] using hmany), if_neg]
            rw [List.all_eq_true]
            intro h
            have := h _ (List.mem_of_getElem? hev)
            rw [HQ.out] at this
            cases this
          clear hev
          go_wp2_with fail
          refine hI.mono ?_
          rintro e w1 ⟨rfl, hb1⟩
          go_wp2
          go_ret
          exact ⟨ret_int HE.out.symm, (HW.out.alloc hsz _).trans (hb1.mono (by rw [World.size_alloc]; omega))⟩
        · have HA2 : Hid (∀ x ∈ (evs l).take (k + 1), isB x = true) := by
            intro x hx
            have hk' := (List.getElem?_eq_some_iff.1 hev).1
            rw [List.take_succ_eq_append_getElem hk', List.mem_append] at hx
            rcases hx with hx | hx
            · exact HA.out x hx
            · simp only [List.mem_singleton] at hx
              rw [List.getElem?_eq_getElem hk'] at hev
              rw [hx, Option.some.inj hev]; exact HQ.out
          clear hev
          go_wp2_with fail
          refine hI.mono ?_
          rintro e w1 ⟨rfl, hb1⟩
          have HW1 := hide0 ((HW.out.alloc hsz _).trans (hb1.mono (by rw [World.size_alloc]; omega)))
          clear hb1 hI
          go_wp2
          go_roundw
          case rel => exact ⟨k + 1, by omega, by go_num, HA2, HW1⟩
          case measure => simp [intOf]; omega
      · have HE : Hid ((expB (evs l)).2 = 0) := by
          show _ = _
          rw [expB, if_neg (by simpa [evs] using hmany), if_pos]
          rw [List.all_eq_true]
          intro x hx
          refine HA.out x ?_
          rwa [List.take_of_length_le (by simp [evs]; omega)]
        go_wp2
        go_ret
        exact ⟨ret_int HE.out.symm, HW.out⟩
end Go.Proofs.YtodlcnbknjldnaaDoor
