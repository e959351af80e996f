/- Walks of canon.tellList of events, canon.tell, canon.Export. -/
import Derived.Test.YtodlcnbknjldnaaDoorJ5
namespace Go.Proofs.YtodlcnbknjldnaaDoor
open Go.RowKit Chron
def told (l : List Item) : List (List UInt8) := (evs l).map tellB
theorem told_len (l : List Item) : (told l).length = l.length := by simp [told, evs]
theorem told_short {l : List Item} (h : ∀ x ∈ evs l, isB x = true) : ∀ x ∈ told l, x.length ≤ 1000 := by
  intro x hx
  simp only [told, List.mem_map] at hx
  obtain ⟨e, he, rfl⟩ := hx
  exact tell_len (h e he)
theorem told_cut {l : List Item} (h : ∀ x ∈ evs l, isB x = true) (hn : l.length ≤ 200) (k : Nat) : (91 :: jn ((told l).take k) : List UInt8).length ≤ 200300 := by
  have h1 := jn_len (l := (told l).take k) (m := 1000) (fun y hy => told_short h y (List.mem_of_mem_take hy))
  rw [List.length_take, told_len] at h1
  have h2 : min k l.length * 1001 ≤ 200 * 1001 := Nat.mul_le_mul_right _ (by omega)
  simp only [List.length_cons]
  omega
theorem put_byte_k (b : Nat) (l : List UInt8) (X : World) (hX : Lib.IsBuilderF 56 5 b b (Lib.byteCells l) X) (hl : l.length ≤ 1000000) (z : Int) (c : UInt8) (hz : z = (c.toNat : Int)) :
    Calls Tryd.prog 27 #[.pointer (some ⟨b, 0, none⟩), .int .u8 z] X fun e X' => e = .returned .nilIface ∧ Hid (Lib.IsBuilderF 56 5 b b (Lib.byteCells (l ++ [c])) X') ∧ Below b X X' ∧ Lib.OthersKept 5 (some b) X X' := by
  subst hz
  refine (Tryd.Builder_WriteByte_k b b _ _ _ hX (by rw [Lib.byteCells_length]; omega) (Nat.le_of_lt (builder_lt hX))).mono ?_
  rintro e w1 ⟨rfl, hB1, hb1, hk⟩
  rw [byteCells_push] at hB1
  exact ⟨rfl, .inr hB1, hb1, hk⟩
set_option maxRecDepth 100000 in
set_option maxHeartbeats 1000000 in
theorem tellEvs_any (a : Option Addr) (cap : Nat) (l : List Item) (w : World) (hl : Hid (EvsAt w a l)) (hall : Hid (∀ x ∈ evs l, isB x = true)) (hn : l.length ≤ 200) (hL : Hid (LaidAt w)) :
    Calls Tryd.prog 20 #[.slice a l.length cap, .func (.func 21) #[] #[]] w fun e w' => e = .returned (.string ⟨(listB (told l)).toArray⟩) ∧ Below w.heap.size w w' := by
  have HBN := hide0 (builder_new 56 5 w)
  go_enter Tryd.func20, Tryd.ntmps20
  go_wp2_with fail
  refine (put_byte w.heap.size [] _ HBN.out (by decide) 91 91 rfl).mono ?_
  rintro e w1 ⟨rfl, HB1, hb1⟩
  have HW1 : Hid (Below w.heap.size w w1) := ((Below.refl _ _).alloc (Nat.le_refl _) _).trans hb1
  clear hb1 HBN
  go_wp2
  go_loopw [11] (fun i wx => ∃ k : Nat, k ≤ l.length ∧ i = .int .i64 k ∧ Hid (Lib.IsBuilderF 56 5 w.heap.size w.heap.size (Lib.byteCells (91 :: jn ((told l).take k))) wx) ∧ Hid (Below w.heap.size w wx)) (fun i _ => l.length - (intOf i).toNat)
  case atStart => exact ⟨0, Nat.zero_le _, rfl, HB1, HW1⟩
  case round =>
    obtain ⟨k, hk, rfl, HB, HW⟩ := hrel
    have hlen := told_cut hall.out hn k
    have hsz := HW.out.size
    have hlt0 := builder_lt HB.out
    by_cases hlt : k < l.length
    · obtain ⟨b1, o1, rfl, hc1⟩ := hl.out.below HW.out (Nat.le_refl _) (by omega)
      obtain ⟨⟨⟨kd, tk, tm, bd, ts⟩, ta, tc⟩, hx⟩ : ∃ x, l[k]? = some x := ⟨_, List.getElem?_eq_getElem hlt⟩
      obtain ⟨⟨c0, c1, c2, c3, c4⟩, hok⟩ := hc1 k _ hx
      simp only at c0 c1 c2 c3 c4
      have HOK := hide0 hok
      have hev : (evs l)[k]? = some ⟨kd, tk, tm, bd, ts⟩ := by rw [evs, List.getElem?_map, hx]; rfl
      have HIS := hide0 (hall.out _ (List.mem_of_getElem? hev))
      have HAT : Hid ((told l)[k]? = some (tellB ⟨kd, tk, tm, bd, ts⟩)) := by rw [told, Hid, List.getElem?_map, hev]; rfl
      have hq2 := tell_len HIS.out
      obtain ⟨b2, o2, hbo, hc2⟩ := hl.out (by omega)
      have hokw := (hc2 k _ hx).2
      have hTE : ∀ X, Below w.heap.size w X → Calls Tryd.prog 21 #[.agg #[.int .i64 kd, .string tk, .int .i64 tm, .string bd, .slice ta ts.length tc]] X fun e w' => e = .returned (.string ⟨(tellB ⟨kd, tk, tm, bd, ts⟩).toArray⟩) ∧ Below X.heap.size X w' :=
        fun X hX => tellEvent_any kd tk tm bd ta tc ts X (hokw.tags.below hX (Nat.le_refl _)) HIS (hL.out.below hX (Nat.le_refl _))
      have HB0 := hide0 (builder_below HB.out ((Below.refl _ _).alloc (Nat.le_refl _) (.cells #[.int .i64 kd, .string tk, .int .i64 tm, .string bd, .slice ta ts.length tc] 39)))
      have HW0 := hide0 (HW.out.alloc hsz (.cells #[.int .i64 kd, .string tk, .int .i64 tm, .string bd, .slice ta ts.length tc] 39))
      have HTE := hide0 hTE
      clear hc1 hx hev hok hTE hbo hc2 hokw
      by_cases h0 : 0 < k
      · have HE := hide0 (jn_take HAT.out h0)
        go_wp2_with fail
        refine (put_byte_k w.heap.size _ _ HB0.out (by omega) 44 44 rfl).mono ?_
        rintro e w2 ⟨rfl, HB2, hb2, hk2⟩
        have hbx := hk2 wr.heap.size _ (heap_alloc_new wr _) (by simp; omega) (by intro c fz h; cases h)
        obtain ⟨d0, d1, d2, d3, d4, df⟩ := res_cells hbx
        have HW2 := hide0 (HW0.out.trans hb2)
        have hlt2 := builder_lt HB2.out
        clear hbx hk2 hb2
        go_wp2_with fail
        refine (HTE.out _ HW2.out).mono ?_
        rintro e w3 ⟨rfl, hb3⟩
        have HB3 := hide0 (builder_below HB2.out hb3)
        go_wp2_with fail
        refine (put_text w.heap.size _ _ _ HB3.out (by rw [List.length_append]; simp only [List.length_singleton]; omega)).mono ?_
        rintro e w4 ⟨⟨v, rfl⟩, HB4, hb4⟩
        have HW4 := hide0 ((HW2.out.trans (hb3.mono (by omega))).trans hb4)
        clear hb3 hb4 HB2 HB3 d0 d1 d2 d3 d4 df c0 c1 c2 c3 c4
        go_wp2
        go_roundw
        case rel => exact ⟨k + 1, by omega, by go_num, by rw [HE.out]; simpa using HB4, HW4⟩
        case measure => simp [intOf]; omega
      · have hk0 : k = 0 := by omega
        have HE : Hid (jn ((told l).take (k + 1)) = jn ((told l).take k) ++ tellB ⟨kd, tk, tm, bd, ts⟩) := by
          have := HAT.out
          subst hk0
          rw [Hid, jn_take_zero this]; rfl
        clear hk0
        go_wp2_with fail
        refine (HTE.out _ HW0.out).mono ?_
        rintro e w3 ⟨rfl, hb3⟩
        have HB3 := hide0 (builder_below HB0.out hb3)
        go_wp2_with fail
        refine (put_text w.heap.size _ _ _ HB3.out (by omega)).mono ?_
        rintro e w4 ⟨⟨v, rfl⟩, HB4, hb4⟩
        have HW4 := hide0 ((HW0.out.trans (hb3.mono (by rw [World.size_alloc]; omega))).trans hb4)
        clear hb3 hb4 HB3 c0 c1 c2 c3 c4
        go_wp2
        go_roundw
        case rel => exact ⟨k + 1, by omega, by go_num, by rw [HE.out]; simpa using HB4, HW4⟩
        case measure => simp [intOf]; omega
    · have HA : Hid (listB (told l) = 91 :: jn ((told l).take k) ++ [93]) := by
        rw [List.take_of_length_le (by rw [told_len]; omega)]; rfl
      go_wp2_with fail
      refine (put_byte w.heap.size _ _ HB.out (by omega) 93 93 rfl).mono ?_
      rintro e w2 ⟨rfl, HB2, hb2⟩
      have hlt2 := builder_lt HB2.out
      go_wp2_with fail
      refine (Tryd.Builder_String_any_k w.heap.size w.heap.size _ _ HB2.out (by omega)).mono ?_
      rintro e w3 ⟨rfl, hB3, hb3, _⟩
      go_wp2
      go_ret
      exact ⟨ret_str (by rw [HA.out]; rfl), (HW.out.trans hb2).trans hb3⟩
theorem expB_told {l : List Item} (hn : l.length ≤ 200) (h : ∀ x ∈ evs l, isB x = true) : expB (evs l) = (listB (told l), 0) := by
  rw [expB, if_neg (by simp [evs]; omega), if_pos (by rw [List.all_eq_true]; exact h)]; rfl
theorem expB_zero {l : List Item} (h : (expB (evs l)).2 = 0) : l.length ≤ 200 ∧ ∀ x ∈ evs l, isB x = true := by
  rw [expB] at h
  split at h
  · simp at h
  · split at h
    · rename_i h1 h2
      exact ⟨by simp [evs] at h1; omega, by rwa [List.all_eq_true] at h2⟩
    · simp at h
theorem expB_none {l : List Item} (h : ¬ (expB (evs l)).2 = 0) : (expB (evs l)).1 = [] := by
  rw [expB] at h ⊢
  split
  · rfl
  · split
    · rename_i h1 h2; simp [h1, h2] at h
    · rfl
set_option maxRecDepth 100000 in
set_option maxHeartbeats 1000000 in
theorem export_any (a : Option Addr) (cap : Nat) (l : List Item) (w : World) (hl : Hid (EvsAt w a l)) (hn : l.length * 72 ≤ 140737488351232) (hL : Hid (LaidAt w)) :
    Calls Tryd.prog 4 #[.slice a l.length cap] w fun e w' => e = .returned (.tuple #[.string ⟨(expB (evs l)).1.toArray⟩, .int .i64 (expB (evs l)).2]) ∧ Below w.heap.size w w' := by
  have hR := refuse_any a cap l w hl hn
  obtain ⟨z, hz⟩ : ∃ z, (expB (evs l)).2 = z := ⟨_, rfl⟩
  rw [hz] at hR
  by_cases h0 : z = 0
  · subst h0
    obtain ⟨hn2, hall⟩ := expB_zero hz
    have HX := hide0 (expB_told hn2 hall)
    have HALL := hide0 hall
    clear hz hall
    go_enter Tryd.func4, Tryd.ntmps4
    go_wp2_with fail
    refine hR.mono ?_
    rintro e w1 ⟨rfl, hb1⟩
    have hT := tellEvs_any a cap l w1 (hl.out.below hb1 (Nat.le_refl _)) HALL hn2 (hL.out.below hb1 (Nat.le_refl _))
    have hs1 := hb1.size
    go_wp2_with (first
      | (go_at_call 9; go_in)
      | (go_at_call 20; refine hT.mono ?_; rintro e w2 ⟨rfl, hb2⟩))
    go_ret2
    exact ⟨by rw [HX.out]; rfl, hb1.trans (hb2.mono hs1)⟩
  · have HZ := hide0 (expB_none (by rw [hz]; exact h0))
    have HZ2 := hide0 hz
    have hzb : (z != 0) = true := by simp [h0]
    clear hz
    go_enter Tryd.func4, Tryd.ntmps4
    go_wp2_with fail
    refine hR.mono ?_
    rintro e w1 ⟨rfl, hb1⟩
    go_wp2
    go_ret2
    exact ⟨by rw [HZ.out, HZ2.out]; rfl, hb1⟩
end Go.Proofs.YtodlcnbknjldnaaDoor
