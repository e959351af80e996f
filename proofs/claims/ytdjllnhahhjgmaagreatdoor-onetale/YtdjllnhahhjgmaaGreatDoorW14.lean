/- Walks and plain facts, in the order in which they lean on one another. -/
import Derived.Test.YtdjllnhahhjgmaaGreatDoorW13
import Derived.Test.YtdjllnhahhjgmaaGreatDoorW01
import Derived.Test.YtdjllnhahhjgmaaGreatDoorW10
import Derived.Test.YtdjllnhahhjgmaaGreatDoorW07
import Derived.Test.YtdjllnhahhjgmaaGreatDoorRows
import Derived.WalkKit
import Derived.ProofKit
import Derived.OpenShut
import Derived.ChangeOld
import Derived.Lib.LaidU8
import Derived.SevenTiedAt
import Derived.Test.YtdjllnhahhjgmaaGreatDoorProg
import Derived.Conc.RwLib
import Derived.Conc.MuData
import Derived.Conc.MuLone
import Derived.KernelRfl
namespace Go.Proofs.YtdjllnhahhjgmaaGreatDoor
open Go.RowKit Chron
theorem hide1 {p : Prop} (h : p) : Hid p := h
theorem byteDiff {x y : UInt8} (h : ¬ x = y) : ((x.toNat : Int) == (y.toNat : Int)) = false := by
  have : ¬ x.toNat = y.toNat := fun e => h (UInt8.toNat_inj.1 e)
  simp; omega
theorem byteSame {x y : UInt8} (h : x = y) : ((x.toNat : Int) == (y.toNat : Int)) = true := by subst h; simp
theorem rev_get (s : ByteArray) (k i : Nat) (h : k < s.size) (hi : i = s.size - 1 - k) : s.data.toList.reverse[k]'(by simpa using h) = s[i]'(by omega) := by
  subst hi; rw [List.getElem_reverse]; rfl
set_option maxRecDepth 100000 in
set_option maxHeartbeats 400000 in
theorem front_any (a b : ByteArray) (w : World) (ha : a.size ≤ 65536) (_hb : b.size ≤ 65536) :
    Calls Tryz.prog 114 #[.string a, .string b] w fun e w' => e = .returned (.int .i64 (pre a.data.toList b.data.toList : Nat)) ∧ ∃ nq, w' = w.drewN nq := by
  go_enter Tryz.func114, Tryz.ntmps114
  go_wp2
  go_loopw [5] (fun m wr => ∃ k nq : Nat, wr = w.drewN nq ∧ k ≤ a.size ∧ m = .int .i64 k ∧ Hid (Akin a.data.toList b.data.toList k)) (fun m _ => a.size - (intOf m).toNat)
  case atStart => exact ⟨0, 0, rfl, Nat.zero_le _, rfl, alike_zero _ _⟩
  case round =>
    obtain ⟨k, nq, rfl, hk, rfl, HA⟩ := hrel
    by_cases hlt : k < a.size ∧ k < b.size
    · obtain ⟨hla, hlb⟩ := hlt
      by_cases he : a[k] = b[k]
      · have HM := hide1 (alike_more HA.out (by simpa using hla) (by simpa using hlb) he)
        have heb := byteSame he
        clear he
        go_wp2_with fail
        go_quiet (fail)
        go_wp2
        go_roundw
        case rel => exact ⟨k + 1, _, rfl, by omega, by go_num, HM⟩
        case measure => simp [intOf]; omega
      · have HO := hide1 (alike_other HA.out (by simpa using hla) (by simpa using hlb) he)
        have heb := byteDiff he
        clear he
        go_wp2_with fail
        go_quiet (fail)
        go_wp2
        go_ret
        exact ⟨ret_int (by rw [HO.out]), _, World.drewN_drewN _ _ _⟩
    · have HE := hide1 (alike_end HA.out (by simpa using hlt))
      by_cases h1 : k < a.size
      · have h2 : ¬ k < b.size := by omega
        clear hlt
        go_wp2_with fail
        go_quiet (fail)
        go_wp2
        go_ret
        exact ⟨ret_int (by rw [HE.out]), _, World.drewN_drewN _ _ _⟩
      · clear hlt
        go_wp2_with fail
        go_quiet (fail)
        go_wp2
        go_ret
        exact ⟨ret_int (by rw [HE.out]), _, World.drewN_drewN _ _ _⟩
set_option maxRecDepth 100000 in
set_option maxHeartbeats 400000 in
theorem end_any (a b : ByteArray) (w : World) (ha : a.size ≤ 65536) (hb : b.size ≤ 65536) :
    Calls Tryz.prog 115 #[.string a, .string b] w fun e w' => e = .returned (.int .i64 (pre a.data.toList.reverse b.data.toList.reverse : Nat)) ∧ ∃ nq, w' = w.drewN nq := by
  go_enter Tryz.func115, Tryz.ntmps115
  go_wp2
  go_loopw [5] (fun m wr => ∃ k nq : Nat, wr = w.drewN nq ∧ k ≤ a.size ∧ m = .int .i64 k ∧ Hid (Akin a.data.toList.reverse b.data.toList.reverse k)) (fun m _ => a.size - (intOf m).toNat)
  case atStart => exact ⟨0, 0, rfl, Nat.zero_le _, rfl, alike_zero _ _⟩
  case round =>
    obtain ⟨k, nq, rfl, hk, rfl, HA⟩ := hrel
    by_cases hlt : k < a.size ∧ k < b.size
    · obtain ⟨hla, hlb⟩ := hlt
      obtain ⟨i, hi, hi2⟩ : ∃ i : Nat, (a.size : Int) - 1 - k = i ∧ i < a.size := ⟨a.size - 1 - k, by omega, by omega⟩
      obtain ⟨j, hj, hj2⟩ : ∃ j : Nat, (b.size : Int) - 1 - k = j ∧ j < b.size := ⟨b.size - 1 - k, by omega, by omega⟩
      have hga := rev_get a k i hla (by omega)
      have hgb := rev_get b k j hlb (by omega)
      by_cases he : a[i] = b[j]
      · have HM := hide1 (alike_more HA.out (by simpa using hla) (by simpa using hlb) (by rw [hga, hgb]; exact he))
        have heb := byteSame he
        clear he hga hgb
        go_wp2_with fail
        go_quiet (fail)
        go_wp2
        go_roundw
        case rel => exact ⟨k + 1, _, rfl, by omega, by go_num, HM⟩
        case measure => simp [intOf]; omega
      · have HO := hide1 (alike_other HA.out (by simpa using hla) (by simpa using hlb) (by rw [hga, hgb]; exact he))
        have heb := byteDiff he
        clear he hga hgb
        go_wp2_with fail
        go_quiet (fail)
        go_wp2
        go_ret
        exact ⟨ret_int (by rw [HO.out]), _, World.drewN_drewN _ _ _⟩
    · have HE := hide1 (alike_end HA.out (by simpa using hlt))
      by_cases h1 : k < a.size
      · have h2 : ¬ k < b.size := by omega
        clear hlt
        go_wp2_with fail
        go_quiet (fail)
        go_wp2
        go_ret
        exact ⟨ret_int (by rw [HE.out]), _, World.drewN_drewN _ _ _⟩
      · clear hlt
        go_wp2_with fail
        go_quiet (fail)
        go_wp2
        go_ret
        exact ⟨ret_int (by rw [HE.out]), _, World.drewN_drewN _ _ _⟩
end Go.Proofs.YtdjllnhahhjgmaaGreatDoor
namespace Go.Proofs.YtdjllnhahhjgmaaGreatDoor
open Go.RowKit Chron
theorem enc_bad {e : Ev} (h : isB e = false) : encB 1 e = ([], 2) := by
  rw [encB, if_neg (by decide), if_pos (by simp [goesB, h])]
/- which letter was found so far -/
def kU (c : UInt8) : Nat → Int
  | 0 => 0
  | 1 => if c = 98 then 1 else 0
  | 2 => if c = 98 then 1 else if c = 100 then 2 else 0
  | _ => letterKind c
theorem kU_step {c : UInt8} {k : Nat} (hk : k < 3) : kU c (k + 1) = if c = [98, 100, 102][k]'(by simpa using hk) then (k : Int) + 1 else kU c k := by
  match k, hk with
  | 0, _ => rfl
  | 1, _ => simp only [kU]; by_cases h : c = 98 <;> simp [h]
  | 2, _ => simp only [kU, letterKind_eq]; by_cases h : c = 98 <;> by_cases h2 : c = 100 <;> simp [h, h2]
theorem letter_val (k : Nat) (h : k < 3) : (⟨#[98, 100, 102]⟩ : ByteArray)[k]'(by exact h) = [98, 100, 102][k]'(by simpa using h) := by
  match k, h with
  | 0, _ => rfl
  | 1, _ => rfl
  | 2, _ => rfl
theorem Gs.start2 (w : World) (t b : ByteArray) : Gs w.heap.size w ((w.alloc (.cells #[.int .i64 0, .string ⟨#[]⟩, .int .i64 0, .string ⟨#[]⟩, .slice none 0 0] 29)).alloc (.cells #[.int .i64 0, .string t, .int .i64 0, .string b, .slice none 0 0] 29)) ⟨0, t, 0, b, []⟩ (.slice none 0 0) := by
  refine ⟨?_, ?_, World.ownsRow_nil _ _ _ _, ((Below.refl _ _).alloc (Nat.le_refl _) _).alloc (by simp) _⟩
  · rw [Below.heap_alloc _ _ _ (by simp), heap_alloc_new]
  · have := heap_alloc_new (w.alloc (.cells #[.int .i64 0, .string ⟨#[]⟩, .int .i64 0, .string ⟨#[]⟩, .slice none 0 0] 29)) (.cells #[.int .i64 0, .string t, .int .i64 0, .string b, .slice none 0 0] 29)
    rw [World.size_alloc] at this; exact this
end Go.Proofs.YtdjllnhahhjgmaaGreatDoor
namespace Go.Proofs.YtdjllnhahhjgmaaGreatDoor
open Go.RowKit Chron
end Go.Proofs.YtdjllnhahhjgmaaGreatDoor
namespace Go.Proofs.YtdjllnhahhjgmaaGreatDoor
open Go.RowKit Chron
theorem first_read : decB 1 [98, 0] = (⟨1, ⟨#[45]⟩, 0, ⟨#[]⟩, []⟩, 0) := by
  have h1 : readTx [0] = some ([], []) := by decide +kernel
  have h2 : isB (dashE 98 []) = true := by decide +kernel
  have h3 : letterKind 98 = 1 := by decide +kernel
  rw [dec_dash h1, if_neg (by simp [h2]), dashE, h3]
def Low (ts : List ByteArray) : Prop := ∀ i, i < ts.length → (ts[i]?.getD ByteArray.empty).size ≤ 1048576
end Go.Proofs.YtdjllnhahhjgmaaGreatDoor
namespace Go.Proofs.YtdjllnhahhjgmaaGreatDoor
open Go.RowKit Chron
def told (l : List Item) : List (List UInt8) := (evs l).map tellB
theorem told_len (l : List Item) : (told l).length = l.length := by simp [told, evs]
theorem told_short {l : List Item} (h : ∀ x ∈ evs l, isB x = true) : ∀ x ∈ told l, x.length ≤ 1000 := by
  intro x hx
  simp only [told, List.mem_map] at hx
  obtain ⟨e, he, rfl⟩ := hx
  exact tell_len (h e he)
theorem told_cut {l : List Item} (h : ∀ x ∈ evs l, isB x = true) (hn : l.length ≤ 200) (k : Nat) : (91 :: jn ((told l).take k) : List UInt8).length ≤ 200300 := by
  have h1 := jn_len (l := (told l).take k) (m := 1000) (fun y hy => told_short h y (List.mem_of_mem_take hy))
  rw [List.length_take, told_len] at h1
  have h2 : min k l.length * 1001 ≤ 200 * 1001 := Nat.mul_le_mul_right _ (by omega)
  simp only [List.length_cons]
  omega
theorem put_byte_k (b : Nat) (l : List UInt8) (X : World) (hX : Lib.IsBuilderF 116 5 b b (Lib.byteCells l) X) (hl : l.length ≤ 1000000) (z : Int) (c : UInt8) (hz : z = (c.toNat : Int)) :
    Calls Tryz.prog 73 #[.pointer (some ⟨b, 0, none⟩), .int .u8 z] X fun e X' => e = .returned .nilIface ∧ Hid (Lib.IsBuilderF 116 5 b b (Lib.byteCells (l ++ [c])) X') ∧ Below b X X' ∧ Lib.OthersKept 5 (some b) X X' := by
  subst hz
  refine (Tryz.Builder_WriteByte_k b b _ _ _ hX (by rw [Lib.byteCells_length]; omega) (Nat.le_of_lt (builder_lt hX))).mono ?_
  rintro e w1 ⟨rfl, hB1, hb1, hk⟩
  rw [byteCells_push] at hB1
  exact ⟨rfl, .inr hB1, hb1, hk⟩
set_option maxRecDepth 100000 in
set_option maxHeartbeats 1000000 in
theorem tellEvs_any (a : Option Addr) (cap : Nat) (l : List Item) (w : World) (hl : Hid (EvsAt w a l)) (hall : Hid (∀ x ∈ evs l, isB x = true)) (hn : l.length ≤ 200) (hL : Hid (LaidAt w)) :
    Calls Tryz.prog 50 #[.slice a l.length cap, .func (.func 51) #[] #[]] w fun e w' => e = .returned (.string ⟨(listB (told l)).toArray⟩) ∧ Below w.heap.size w w' := by
  have HBN := hide0 (builder_new 116 5 w)
  go_enter Tryz.func50, Tryz.ntmps50
  go_wp2_with fail
  refine (put_byte w.heap.size [] _ HBN.out (by decide) 91 91 rfl).mono ?_
  rintro e w1 ⟨rfl, HB1, hb1⟩
  have HW1 : Hid (Below w.heap.size w w1) := ((Below.refl _ _).alloc (Nat.le_refl _) _).trans hb1
  clear hb1 HBN
  go_wp2
  go_loopw [11] (fun i wx => ∃ k : Nat, k ≤ l.length ∧ i = .int .i64 k ∧ Hid (Lib.IsBuilderF 116 5 w.heap.size w.heap.size (Lib.byteCells (91 :: jn ((told l).take k))) wx) ∧ Hid (Below w.heap.size w wx)) (fun i _ => l.length - (intOf i).toNat)
  case atStart => exact ⟨0, Nat.zero_le _, rfl, HB1, HW1⟩
  case round =>
    obtain ⟨k, hk, rfl, HB, HW⟩ := hrel
    have hlen := told_cut hall.out hn k
    have hsz := HW.out.size
    have hlt0 := builder_lt HB.out
    by_cases hlt : k < l.length
    · obtain ⟨b1, o1, rfl, hc1⟩ := hl.out.below HW.out (Nat.le_refl _) (by omega)
      obtain ⟨⟨⟨kd, tk, tm, bd, ts⟩, ta, tc⟩, hx⟩ : ∃ x, l[k]? = some x := ⟨_, List.getElem?_eq_getElem hlt⟩
      obtain ⟨⟨c0, c1, c2, c3, c4⟩, hok⟩ := hc1 k _ hx
      simp only at c0 c1 c2 c3 c4
      have HOK := hide0 hok
      have hev : (evs l)[k]? = some ⟨kd, tk, tm, bd, ts⟩ := by rw [evs, List.getElem?_map, hx]; rfl
      have HIS := hide0 (hall.out _ (List.mem_of_getElem? hev))
      have HAT : Hid ((told l)[k]? = some (tellB ⟨kd, tk, tm, bd, ts⟩)) := by rw [told, Hid, List.getElem?_map, hev]; rfl
      have hq2 := tell_len HIS.out
      obtain ⟨b2, o2, hbo, hc2⟩ := hl.out (by omega)
      have hokw := (hc2 k _ hx).2
      have hTE : ∀ X, Below w.heap.size w X → Calls Tryz.prog 51 #[.agg #[.int .i64 kd, .string tk, .int .i64 tm, .string bd, .slice ta ts.length tc]] X fun e w' => e = .returned (.string ⟨(tellB ⟨kd, tk, tm, bd, ts⟩).toArray⟩) ∧ Below X.heap.size X w' :=
        fun X hX => tellEvent_any kd tk tm bd ta tc ts X (hokw.tags.below hX (Nat.le_refl _)) HIS (hL.out.below hX (Nat.le_refl _))
      have HB0 := hide0 (builder_below HB.out ((Below.refl _ _).alloc (Nat.le_refl _) (.cells #[.int .i64 kd, .string tk, .int .i64 tm, .string bd, .slice ta ts.length tc] 29)))
      have HW0 := hide0 (HW.out.alloc hsz (.cells #[.int .i64 kd, .string tk, .int .i64 tm, .string bd, .slice ta ts.length tc] 29))
      have HTE := hide0 hTE
      clear hc1 hx hev hok hTE hbo hc2 hokw
      by_cases h0 : 0 < k
      · have HE := hide0 (jn_take HAT.out h0)
        go_wp2_with fail
        refine (put_byte_k w.heap.size _ _ HB0.out (by omega) 44 44 rfl).mono ?_
        rintro e w2 ⟨rfl, HB2, hb2, hk2⟩
        have hbx := hk2 wr.heap.size _ (heap_alloc_new wr _) (by simp; omega) (by intro c fz h; cases h)
        obtain ⟨d0, d1, d2, d3, d4, df⟩ := res_cells hbx
        have HW2 := hide0 (HW0.out.trans hb2)
        have hlt2 := builder_lt HB2.out
        clear hbx hk2 hb2
        go_wp2_with fail
        refine (HTE.out _ HW2.out).mono ?_
        rintro e w3 ⟨rfl, hb3⟩
        have HB3 := hide0 (builder_below HB2.out hb3)
        go_wp2_with fail
        refine (put_text w.heap.size _ _ _ HB3.out (by rw [List.length_append]; simp only [List.length_singleton]; omega)).mono ?_
        rintro e w4 ⟨⟨v, rfl⟩, HB4, hb4⟩
        have HW4 := hide0 ((HW2.out.trans (hb3.mono (by omega))).trans hb4)
        clear hb3 hb4 HB2 HB3 d0 d1 d2 d3 d4 df c0 c1 c2 c3 c4
        go_wp2
        go_roundw
        case rel => exact ⟨k + 1, by omega, by go_num, by rw [HE.out]; simpa using HB4, HW4⟩
        case measure => simp [intOf]; omega
      · have hk0 : k = 0 := by omega
        have HE : Hid (jn ((told l).take (k + 1)) = jn ((told l).take k) ++ tellB ⟨kd, tk, tm, bd, ts⟩) := by
          have := HAT.out
          subst hk0
          rw [Hid, jn_take_zero this]; rfl
        clear hk0
        go_wp2_with fail
        refine (HTE.out _ HW0.out).mono ?_
        rintro e w3 ⟨rfl, hb3⟩
        have HB3 := hide0 (builder_below HB0.out hb3)
        go_wp2_with fail
        refine (put_text w.heap.size _ _ _ HB3.out (by omega)).mono ?_
        rintro e w4 ⟨⟨v, rfl⟩, HB4, hb4⟩
        have HW4 := hide0 ((HW0.out.trans (hb3.mono (by rw [World.size_alloc]; omega))).trans hb4)
        clear hb3 hb4 HB3 c0 c1 c2 c3 c4
        go_wp2
        go_roundw
        case rel => exact ⟨k + 1, by omega, by go_num, by rw [HE.out]; simpa using HB4, HW4⟩
        case measure => simp [intOf]; omega
    · have HA : Hid (listB (told l) = 91 :: jn ((told l).take k) ++ [93]) := by
        rw [List.take_of_length_le (by rw [told_len]; omega)]; rfl
      go_wp2_with fail
      refine (put_byte w.heap.size _ _ HB.out (by omega) 93 93 rfl).mono ?_
      rintro e w2 ⟨rfl, HB2, hb2⟩
      have hlt2 := builder_lt HB2.out
      go_wp2_with fail
      refine (Tryz.Builder_String_any_k w.heap.size w.heap.size _ _ HB2.out (by omega)).mono ?_
      rintro e w3 ⟨rfl, hB3, hb3, _⟩
      go_wp2
      go_ret
      exact ⟨ret_str (by rw [HA.out]; rfl), (HW.out.trans hb2).trans hb3⟩
theorem expB_told {l : List Item} (hn : l.length ≤ 200) (h : ∀ x ∈ evs l, isB x = true) : expB (evs l) = (listB (told l), 0) := by
  rw [expB, if_neg (by simp [evs]; omega), if_pos (by rw [List.all_eq_true]; exact h)]; rfl
theorem expB_zero {l : List Item} (h : (expB (evs l)).2 = 0) : l.length ≤ 200 ∧ ∀ x ∈ evs l, isB x = true := by
  rw [expB] at h
  split at h
  · simp at h
  · split at h
    · rename_i h1 h2
      exact ⟨by simp [evs] at h1; omega, by rwa [List.all_eq_true] at h2⟩
    · simp at h
theorem expB_none {l : List Item} (h : ¬ (expB (evs l)).2 = 0) : (expB (evs l)).1 = [] := by
  rw [expB] at h ⊢
  split
  · rfl
  · split
    · rename_i h1 h2; simp [h1, h2] at h
    · rfl
set_option maxRecDepth 100000 in
set_option maxHeartbeats 1000000 in
theorem export_any (a : Option Addr) (cap : Nat) (l : List Item) (w : World) (hl : Hid (EvsAt w a l)) (hn : l.length * 72 ≤ 140737488351232) (hL : Hid (LaidAt w)) :
    Calls Tryz.prog 12 #[.slice a l.length cap] w fun e w' => e = .returned (.tuple #[.string ⟨(expB (evs l)).1.toArray⟩, .int .i64 (expB (evs l)).2]) ∧ Below w.heap.size w w' := by
  have hR := refuse_any a cap l w hl hn
  obtain ⟨z, hz⟩ : ∃ z, (expB (evs l)).2 = z := ⟨_, rfl⟩
  rw [hz] at hR
  by_cases h0 : z = 0
  · subst h0
    obtain ⟨hn2, hall⟩ := expB_zero hz
    have HX := hide0 (expB_told hn2 hall)
    have HALL := hide0 hall
    clear hz hall
    go_enter Tryz.func12, Tryz.ntmps12
    go_wp2_with fail
    refine hR.mono ?_
    rintro e w1 ⟨rfl, hb1⟩
    have hT := tellEvs_any a cap l w1 (hl.out.below hb1 (Nat.le_refl _)) HALL hn2 (hL.out.below hb1 (Nat.le_refl _))
    have hs1 := hb1.size
    go_wp2_with (first
      | (go_at_call 30; go_in)
      | (go_at_call 50; refine hT.mono ?_; rintro e w2 ⟨rfl, hb2⟩))
    go_ret2
    exact ⟨by rw [HX.out]; rfl, hb1.trans (hb2.mono hs1)⟩
  · have HZ := hide0 (expB_none (by rw [hz]; exact h0))
    have HZ2 := hide0 hz
    have hzb : (z != 0) = true := by simp [h0]
    clear hz
    go_enter Tryz.func12, Tryz.ntmps12
    go_wp2_with fail
    refine hR.mono ?_
    rintro e w1 ⟨rfl, hb1⟩
    go_wp2
    go_ret2
    exact ⟨by rw [HZ.out, HZ2.out]; rfl, hb1⟩
end Go.Proofs.YtdjllnhahhjgmaaGreatDoor
namespace Go.Proofs.YtdjllnhahhjgmaaGreatDoor
open Go.RowKit Chron
theorem held_mono {P : Program} {md : Region.Mode} {ops : Array Oper} {Q : Exit → Act → World → Prop} {S T : World → Prop} (h : ∀ w, T w → S w) : ∀ (fuel : Nat) (listed : Array Bool) (a : Act) (w : World), wpAnyH P md ops Q T fuel listed a w → wpAnyH P md ops Q S fuel listed a w
  | 0, _, _, _, H => H
  | fuel + 1, _, _, _, H => ⟨H.1, fun i hi => wpOp_mono (fun a' w' h' => ⟨h w' h'.1, held_mono h fuel _ a' w' h'.2⟩) (H.2 i hi)⟩
theorem word_cell (X : World) {i : Nat} {k : Int} (hk : (i : Int) + 1 = k) (hi : i < 4) : (X.alloc (.cells #[.string ⟨#[98, 101, 103, 117, 110]⟩, .string ⟨#[100, 111, 110, 101]⟩, .string ⟨#[102, 97, 105, 108, 101, 100]⟩, .string ⟨#[110, 111, 116, 101, 100]⟩] 9)).cell? ⟨X.heap.size, i, none⟩ = some (.string ⟨(wordB k).toArray⟩) := by
  subst hk
  have hh := heap_alloc_new X (.cells #[.string ⟨#[98, 101, 103, 117, 110]⟩, .string ⟨#[100, 111, 110, 101]⟩, .string ⟨#[102, 97, 105, 108, 101, 100]⟩, .string ⟨#[110, 111, 116, 101, 100]⟩] 9)
  have h4 : i = 0 ∨ i = 1 ∨ i = 2 ∨ i = 3 := by omega
  rcases h4 with rfl | rfl | rfl | rfl <;> (simp only [World.cell?, hh]; rfl)
end Go.Proofs.YtdjllnhahhjgmaaGreatDoor
namespace Go.Proofs.YtdjllnhahhjgmaaGreatDoor
open Go.RowKit Chron
structure RowIt (cur : Array Value) (o : Nat) (i : Item) : Prop where
  c0 : cur[o]? = some (.int .i64 i.ev.kind)
  c1 : cur[o + 1]? = some (.string i.ev.task)
  c2 : cur[o + 2]? = some (.int .i64 i.ev.time)
  c3 : cur[o + 3]? = some (.string i.ev.body)
  c4 : cur[o + 4]? = some (.slice i.at' i.ev.tags.length i.cap)
theorem RowIt.cells {w : World} {G o : Nat} {cur : Array Value} {t : TypeId} {fr : Nat × Nat} {i : Item} (h : RowIt cur o i) (hg : w.heap[G]? = some (.cells cur t fr)) : CellsAt w G o i :=
  ⟨by simpa [World.cell?, hg] using h.c0, by simpa [World.cell?, hg] using h.c1, by simpa [World.cell?, hg] using h.c2, by simpa [World.cell?, hg] using h.c3, by simpa [World.cell?, hg] using h.c4⟩
def set5 (w : World) (G o : Nat) (x0 x1 x2 x3 x4 : Value) : World := ((((w.setCell ⟨G, o, none⟩ x0).setCell ⟨G, o + 1, none⟩ x1).setCell ⟨G, o + 2, none⟩ x2).setCell ⟨G, o + 3, none⟩ x3).setCell ⟨G, o + 4, none⟩ x4
theorem set5_other {w : World} {G o q : Nat} {x0 x1 x2 x3 x4 : Value} (h : q ≠ G) : (set5 w G o x0 x1 x2 x3 x4).heap[q]? = w.heap[q]? := by
  unfold set5
  rw [Below.heap_setCell _ _ _ _ h, Below.heap_setCell _ _ _ _ h, Below.heap_setCell _ _ _ _ h, Below.heap_setCell _ _ _ _ h, Below.heap_setCell _ _ _ _ h]
theorem set1_heap {w : World} {G o : Nat} {cur : Array Value} {t : TypeId} {fr : Nat × Nat} {u : Value} (h : w.heap[G]? = some (.cells cur t fr)) : (w.setCell ⟨G, o, none⟩ u).heap[G]? = some (.cells (cur.setIfInBounds o u) t fr) := by
  rw [setCell_eq_setRow w G o cur t fr u h, setRow_heap w G _ _ t fr h]
theorem set5_heap {w : World} {G o : Nat} {cur : Array Value} {t : TypeId} {fr : Nat × Nat} {x0 x1 x2 x3 x4 : Value} (h : w.heap[G]? = some (.cells cur t fr)) :
    (set5 w G o x0 x1 x2 x3 x4).heap[G]? = some (.cells (((((cur.setIfInBounds o x0).setIfInBounds (o + 1) x1).setIfInBounds (o + 2) x2).setIfInBounds (o + 3) x3).setIfInBounds (o + 4) x4) t fr) :=
  set1_heap (set1_heap (set1_heap (set1_heap (set1_heap h))))
theorem set5_size {w : World} {G o : Nat} {x0 x1 x2 x3 x4 : Value} : (set5 w G o x0 x1 x2 x3 x4).heap.size = w.heap.size := by simp [set5, World.setCell]
theorem set5_below {w w' : World} {B G o : Nat} {x0 x1 x2 x3 x4 : Value} (h : Below B w w') (hG : B ≤ G) : Below B w (set5 w' G o x0 x1 x2 x3 x4) :=
  ((((h.setCell (p := ⟨G, o, none⟩) hG _).setCell (p := ⟨G, o + 1, none⟩) hG _).setCell (p := ⟨G, o + 2, none⟩) hG _).setCell (p := ⟨G, o + 3, none⟩) hG _).setCell (p := ⟨G, o + 4, none⟩) hG _
theorem set5_new {cur : Array Value} {o : Nat} (h : o + 5 ≤ cur.size) (i : Item) : RowIt (((((cur.setIfInBounds o (.int .i64 i.ev.kind)).setIfInBounds (o + 1) (.string i.ev.task)).setIfInBounds (o + 2) (.int .i64 i.ev.time)).setIfInBounds (o + 3) (.string i.ev.body)).setIfInBounds (o + 4) (.slice i.at' i.ev.tags.length i.cap)) o i := by
  constructor <;> (simp [Array.getElem?_setIfInBounds]; try omega)
theorem set5_old {cur : Array Value} {o p : Nat} {i : Item} {x0 x1 x2 x3 x4 : Value} (h : RowIt cur p i) (hp : p + 5 ≤ o ∨ o + 5 ≤ p) : RowIt (((((cur.setIfInBounds o x0).setIfInBounds (o + 1) x1).setIfInBounds (o + 2) x2).setIfInBounds (o + 3) x3).setIfInBounds (o + 4) x4) p i := by
  have key : ∀ j, j < 5 → (((((cur.setIfInBounds o x0).setIfInBounds (o + 1) x1).setIfInBounds (o + 2) x2).setIfInBounds (o + 3) x3).setIfInBounds (o + 4) x4)[p + j]? = cur[p + j]? := by
    intro j hj
    rw [Array.getElem?_setIfInBounds_ne (by omega), Array.getElem?_setIfInBounds_ne (by omega), Array.getElem?_setIfInBounds_ne (by omega), Array.getElem?_setIfInBounds_ne (by omega), Array.getElem?_setIfInBounds_ne (by omega)]
  exact ⟨(key 0 (by omega)).trans h.c0, (key 1 (by omega)).trans h.c1, (key 2 (by omega)).trans h.c2, (key 3 (by omega)).trans h.c3, (key 4 (by omega)).trans h.c4⟩
/- a row of events, its first ones known -/
def EvRow (w : World) (G m : Nat) (its : List Item) : Prop := ∃ cur, w.heap[G]? = some (.cells cur 29 (0, 0)) ∧ cur.size = m * 5 ∧ ∀ k i, its[k]? = some i → RowIt cur (k * 5) i
theorem EvRow.same {w w' : World} {G m : Nat} {its : List Item} (h : EvRow w G m its) (hg : w'.heap[G]? = w.heap[G]?) : EvRow w' G m its := by
  obtain ⟨cur, h1, h2, h3⟩ := h
  exact ⟨cur, hg.trans h1, h2, h3⟩
theorem EvRow.store {w : World} {G m : Nat} {its : List Item} (h : EvRow w G m its) {p : Nat} (hp : p < m) (hl : p ≤ its.length) (i : Item) :
    EvRow (set5 w G (p * 5) (.int .i64 i.ev.kind) (.string i.ev.task) (.int .i64 i.ev.time) (.string i.ev.body) (.slice i.at' i.ev.tags.length i.cap)) G m (its.take p ++ [i]) := by
  obtain ⟨cur, h1, h2, h3⟩ := h
  have hp5 : p * 5 + 5 ≤ cur.size := by
    have : (p + 1) * 5 ≤ m * 5 := Nat.mul_le_mul_right _ hp
    omega
  refine ⟨_, set5_heap h1, by simp [h2], fun k x hk => ?_⟩
  have hlen : (its.take p).length = p := by rw [List.length_take]; omega
  rcases Nat.lt_trichotomy k p with hkp | rfl | hkp
  · rw [List.getElem?_append_left (by omega), List.getElem?_take_of_lt hkp] at hk
    exact set5_old (h3 k x hk) (.inl (by have : (k + 1) * 5 ≤ p * 5 := Nat.mul_le_mul_right _ hkp; omega))
  · rw [List.getElem?_append_right (by omega), hlen, Nat.sub_self] at hk
    simp only [List.getElem?_cons_zero, Option.some.injEq] at hk
    subst hk
    exact set5_new hp5 i
  · rw [List.getElem?_eq_none (by simp; omega)] at hk
    cases hk
theorem EvRow.there {w : World} {G m : Nat} {its : List Item} (h : EvRow w G m its) {p : Nat} (hp : p < m * 5) : ∃ x, w.cell? ⟨G, p, none⟩ = some x ∧ w.frozen? ⟨G, p, none⟩ = false := by
  obtain ⟨cur, h1, h2, _⟩ := h
  exact ⟨cur[p], by simp [World.cell?, h1, h2, hp], by simp [World.frozen?, h1]⟩
theorem EvRow.at {w : World} {G m : Nat} {its : List Item} (h : EvRow w G m its) {k : Nat} {i : Item} (hk : its[k]? = some i) : CellsAt w G (k * 5) i := by
  obtain ⟨cur, h1, _, h3⟩ := h
  exact (h3 k i hk).cells h1
end Go.Proofs.YtdjllnhahhjgmaaGreatDoor
namespace Go.Proofs.YtdjllnhahhjgmaaGreatDoor
open Go.RowKit Chron
theorem infoEvent : (Tryz.prog.info? 29).map (fun i => (i.zero, i.size, i.bytes)) = some (some (.agg #[.int .i64 0, .string ⟨#[]⟩, .int .i64 0, .string ⟨#[]⟩, .slice none 0 0]), 5, 72) := by kernel_rfl
theorem own_five {w : World} {base : Nat} {g n : Nat} {xs : List Value} (h : w.ownsRow base 29 5 (.slice (some ⟨g, 0, none⟩) n n) n xs) : EvRow w g n [] := by
  rcases h.2 with ⟨h0, _⟩ | ⟨g', cap, cur, hv, hb, hg, h1, h2, h3, h4⟩
  · cases h0
  · simp only [Value.slice.injEq, Option.some.injEq, Addr.mk.injEq] at hv
    obtain ⟨⟨rfl, _⟩, _, rfl⟩ := hv
    exact ⟨cur, hg, h3, fun k i hk => by simp at hk⟩
end Go.Proofs.YtdjllnhahhjgmaaGreatDoor
namespace Go.Proofs.YtdjllnhahhjgmaaGreatDoor
open Go.RowKit Chron
theorem expB_nil : expB (evs []) = ([91, 93], 0) := by decide
end Go.Proofs.YtdjllnhahhjgmaaGreatDoor
namespace Go.Proofs.YtdjllnhahhjgmaaGreatDoor
open Go.RowKit Chron
def impFirst : List UInt8 := [32, 91, 32, 123, 32, 34, 116, 105, 109, 101, 34, 32, 58, 32, 48, 44, 34, 116, 97, 115, 107, 34, 58, 34, 97, 92, 117, 48, 48, 54, 50, 34, 44, 34, 116, 97, 103, 115, 34, 58, 91, 32, 93, 44, 34, 107, 105, 110, 100, 34, 58, 34, 102, 97, 105, 108, 101, 100, 34, 44, 34, 98, 111, 100, 121, 34, 58, 34, 120, 34, 32, 125, 32, 93, 32]
def firstEv : Ev := ⟨3, ⟨#[97, 98]⟩, 0, ⟨#[120]⟩, []⟩
def isFirst : Option (List Ev) → Bool
  | some [e] => decide (e.kind = 3) && (decide (e.task.data.toList = [97, 98]) && (decide (e.time = 0) && (decide (e.body.data.toList = [120]) && e.tags.isEmpty)))
  | _ => false
theorem isFirst_eq {o : Option (List Ev)} (h : isFirst o = true) : o = some [firstEv] := by
  match o, h with
  | some [⟨k, t, m, b, ts⟩], h =>
    simp only [isFirst, Bool.and_eq_true, decide_eq_true_eq, List.isEmpty_iff] at h
    obtain ⟨h1, h2, h3, h4, h5⟩ := h
    subst h1 h3 h5
    have e1 : t = ⟨#[97, 98]⟩ := bytes_inj h2
    have e2 : b = ⟨#[120]⟩ := bytes_inj h4
    rw [e1, e2]; rfl
theorem first_all : allL impFirst = some [firstEv] := isFirst_eq (by decide +kernel)
theorem first_imp : impB impFirst = ([firstEv], 0) := by
  have h1 : (expB [firstEv]).2 = 0 := by
    rw [expB, if_neg (by decide), if_pos (by decide +kernel)]
  rw [impB, if_neg (by decide), first_all]
  simp only [h1, if_true]
theorem imp_ok (L : List UInt8) : (∀ e ∈ (impB L).1, isB e = true) ∧ (impB L).1.length ≤ 200 ∧ (impB L).1.length ≤ L.length := by
  unfold impB
  split
  · simp
  · split
    · simp
    · rename_i es hes
      split
      · rename_i h0
        unfold expB at h0
        split at h0
        · simp at h0
        · rename_i hfew
          split at h0
          · rename_i hall
            exact ⟨fun e he => List.all_eq_true.1 hall e he, by simpa using hfew, all_len hes⟩
          · simp at h0
      · simp
/- how many bytes the first texts have, one round behind the other -/
def sz (ts : List ByteArray) (i : Nat) : Nat := (ts[i]?.getD ByteArray.empty).size
def cumT (ts : List ByteArray) : Nat → Nat
  | 0 => 0
  | i + 1 => cumT ts i + sz ts (i % ts.length)
def sumT (ts : List ByteArray) : Nat := (ts.map ByteArray.size).sum
theorem sum_take (ts : List ByteArray) (k : Nat) : sumT (ts.take (k + 1)) = sumT (ts.take k) + sz ts k := by
  by_cases h : k < ts.length
  · rw [List.take_succ_eq_append_getElem h, sumT, sumT, List.map_append, List.sum_append, sz, List.getElem?_eq_getElem h]; simp
  · rw [List.take_of_length_le (by omega), List.take_of_length_le (by omega), sz, List.getElem?_eq_none (by omega)]
    rfl
theorem cum_first (ts : List ByteArray) : ∀ k, k ≤ ts.length → cumT ts k = sumT (ts.take k)
  | 0, _ => by simp [cumT, sumT]
  | k + 1, h => by rw [cumT, cum_first ts k (by omega), sum_take, Nat.mod_eq_of_lt (by omega)]
theorem cum_second (ts : List ByteArray) : ∀ k, k ≤ ts.length → cumT ts (ts.length + k) = sumT ts + sumT (ts.take k)
  | 0, _ => by rw [Nat.add_zero, cum_first ts _ (Nat.le_refl _), List.take_length]; simp [sumT]
  | k + 1, h => by
    rw [← Nat.add_assoc, cumT, cum_second ts k (by omega), sum_take, Nat.add_mod_left, Nat.mod_eq_of_lt (by omega)]; omega
theorem sum_le_take (ts : List ByteArray) (k : Nat) : sumT (ts.take k) ≤ sumT ts := by
  have : sumT ts = sumT (ts.take k) + sumT (ts.drop k) := by
    rw [sumT, sumT, sumT, ← List.sum_append, ← List.map_append, List.take_append_drop]
  omega
theorem cum_le (ts : List ByteArray) {i : Nat} (h : i ≤ 2 * ts.length) : cumT ts i ≤ 2 * sumT ts := by
  by_cases h1 : i ≤ ts.length
  · rw [cum_first ts i h1]; have := sum_le_take ts i; omega
  · obtain ⟨k, rfl⟩ : ∃ k, i = ts.length + k := ⟨i - ts.length, by omega⟩
    rw [cum_second ts k (by omega)]; have := sum_le_take ts k; omega
theorem Glob.grow {B : Nat} {w w' : World} (h : Glob B w) (hb : Below B w w') : Glob w'.heap.size w' := by
  have h2 := h.more hb
  have := h2.below
  exact ⟨h2.err, h2.kinds, h2.names, Nat.le_refl _, Nat.lt_of_lt_of_le h2.e this, Nat.lt_of_lt_of_le h2.k this, Nat.lt_of_lt_of_le h2.n this⟩
theorem Book2.clear {b : Nat} {tv ev : Value} {xs ys : List Value} {w : World} (h : Book2 b tv ev xs ys w) {q : Nat} (hq : w.heap.size ≤ q) : Clear b tv ev xs ys q := by
  have hb := h.lt
  refine ⟨by omega, fun e => by have := (h.tags.lt q e).2; omega, fun e => by have := (h.evts.lt q e).2; omega, fun v hv e => ?_, fun v hv e => ?_⟩
  · obtain ⟨i, hi⟩ := List.getElem?_of_mem hv
    rcases h.full i v hi with rfl | ⟨g, no, cap, ho, _⟩
    · cases e
    · have h1 := ho.blk
      have h2 := ho.lt
      rw [e] at h1
      have := Option.some.inj h1; omega
  · obtain ⟨i, hi⟩ := List.getElem?_of_mem hv
    rcases h.fullE i v hi with rfl | ⟨g, no, cap, ho, _⟩
    · cases e
    · have h1 := ho.blk
      have h2 := ho.lt
      rw [e] at h1
      have := Option.some.inj h1; omega
end Go.Proofs.YtdjllnhahhjgmaaGreatDoor
namespace Go.Proofs.YtdjllnhahhjgmaaGreatDoor
open Go.RowKit Chron
theorem few_is {e : Ev} (h : isB e = true) : Few 1048576 e := by
  have k := is_known h
  refine ⟨by have := k.few; omega, fun t ht => ?_, by have := k.task; omega, by have := k.body; omega⟩
  have := k.lines t ht
  omega
structure Got (L : List UInt8) (N : Nat) (w : World) (a : Option Addr) (cap : Nat) (its : List Item) : Prop where
  made : MadeO N w (.slice a its.length cap) its
  evs : evs its = (impB L).1
  len : its.length ≤ 200 ∧ its.length ≤ L.length
  few : ∀ it ∈ its, Few 1048576 it.ev
  four : ∀ it ∈ its, it.ev.tags.length ≤ 4
theorem ImpO.got {L : List UInt8} {N : Nat} {w : World} {lv : Value} (h : ImpO L N w lv) : ∃ a cap its, lv = .slice a its.length cap ∧ Got L N w a cap its := by
  obtain ⟨its, hM, hev⟩ := h
  obtain ⟨h1, h2, h3⟩ := imp_ok L
  rw [← hev] at h1 h2 h3
  have hm : ∀ it ∈ its, isB it.ev = true := fun it hi => h1 _ (List.mem_map.2 ⟨it, hi, rfl⟩)
  have hl : (evs its).length = its.length := by simp [evs]
  obtain ⟨a, cap, hlv, _⟩ := hM.made.evs (fun it hi => few_is (hm it hi))
  exact ⟨a, cap, its, hlv, by rw [← hlv]; exact hM, hev, ⟨by omega, by omega⟩, fun it hi => few_is (hm it hi), fun it hi => (is_known (hm it hi)).few⟩
theorem Got.at {L : List UInt8} {N : Nat} {w : World} {a : Option Addr} {cap : Nat} {its : List Item} (h : Got L N w a cap its) : EvsAt w a its := by
  obtain ⟨a', cap', hv, he⟩ := h.made.made.evs h.few
  cases hv
  exact he
theorem Got.below {L : List UInt8} {N : Nat} {w w' : World} {a : Option Addr} {cap : Nat} {its : List Item} (h : Got L N w a cap its) (hb : Below w.heap.size w w') : Got L N w' a cap its :=
  ⟨h.made.keep (fun q _ hq => hb.block q hq), h.evs, h.len, h.few, h.four⟩
theorem evs_first (X : World) : EvsAt (X.alloc (.cells #[.int .i64 3, .string ⟨#[97, 98]⟩, .int .i64 0, .string ⟨#[120]⟩, .slice none 0 0] 29)) (some ⟨X.heap.size, 0, none⟩) [⟨firstEv, none, 0⟩] := by
  intro _
  refine ⟨X.heap.size, 0, rfl, fun k i hk => ?_⟩
  have hk0 : k = 0 := by
    have := (List.getElem?_eq_some_iff.1 hk).1
    simp at this; exact this
  subst hk0
  simp only [List.getElem?_cons_zero, Option.some.injEq] at hk
  subst hk
  obtain ⟨c0, c1, c2, c3, c4, _⟩ := res_cells (heap_alloc_new X (.cells #[.int .i64 3, .string ⟨#[97, 98]⟩, .int .i64 0, .string ⟨#[120]⟩, .slice none 0 0] 29))
  refine ⟨⟨c0, c1, c2, c3, c4⟩, ⟨(fun h => by cases h), (fun k hk => by cases hk), by decide, by decide, by decide⟩⟩
set_option maxRecDepth 100000 in
set_option maxHeartbeats 4000000 in
theorem imports_any (a : Option Addr) (cap : Nat) (ts : List ByteArray) (w : World) (ht : Hid (TagsAt w a ts)) (hs : Hid (Low ts)) (hl : ts.length ≤ 1048576) (hsum : Hid (sumT ts ≤ 1048576)) (G : Hid (Glob w.heap.size w)) :
    Calls Tryz.prog 3 #[.slice a ts.length cap] w fun e w' => e = .returned (.bool true) ∧ Below w.heap.size w w' := by
  have hI0 := import_any ⟨impFirst.toArray⟩ w G (by decide)
  rw [show (⟨impFirst.toArray⟩ : ByteArray).data.toList = impFirst from rfl, first_imp] at hI0
  go_enter Tryz.func3, Tryz.ntmps3
  go_wp2_with fail
  refine hI0.mono ?_
  rintro e w1 ⟨lv, rfl, hO, hb1⟩
  obtain ⟨fa, fc, fi, rfl, hG⟩ := hO.out.got
  have HG := hide0 hG
  have hfe := hG.evs
  rw [first_imp] at hfe
  have hSA := sameAll_any fa (some ⟨w1.heap.size, 0, none⟩) fc 1 fi [⟨firstEv, none, 0⟩] (w1.alloc (.cells #[.int .i64 3, .string ⟨#[97, 98]⟩, .int .i64 0, .string ⟨#[120]⟩, .slice none 0 0] 29)) ((hG.at.below ((Below.refl _ _).alloc (Nat.le_refl _) _) (Nat.le_refl _))) (evs_first w1) hfe (by have := hG.len; omega)
  have hs1 := hb1.size
  clear hI0 hfe hG hO
  go_wp2_with fail
  refine hSA.mono ?_
  rintro e w2 ⟨rfl, hb2⟩
  have HW2 := hide0 ((hb1.alloc hs1 _).trans (hb2.mono (by rw [World.size_alloc]; omega)))
  have hs2 := HW2.out.size
  clear hb1 hb2 hSA HG hs1
  go_wp2_with fail
  go_loopw [5, 7] (fun okv iv wx => ∃ (i r : Nat) (tv ev : Value) (xs ys : List Value), i ≤ 2 * ts.length ∧ iv = .int .i64 i ∧ okv = .bool true ∧ Hid (xs.length = 4 * r ∧ r ≤ cumT ts i ∧ ys.length = 4 * i) ∧ Hid (Book2 w2.heap.size tv ev xs ys wx) ∧ Hid (Below w.heap.size w wx)) (fun _ iv _ => 2 * ts.length - (intOf iv).toNat)
  case atStart => exact ⟨0, 0, .slice none 0 0, .slice none 0 0, [], [], Nat.zero_le _, rfl, rfl, ⟨rfl, Nat.le_refl _, rfl⟩, ⟨heap_alloc_new _ _, World.ownsRow_nil _ _ _ _, World.ownsRow_nil _ _ _ _, (fun q hq => by cases hq), (fun i v hv => by simp at hv), (fun i v hv => by simp at hv)⟩, HW2.out.alloc hs2 _⟩
  case round =>
    obtain ⟨i, r, tv, ev, xs, ys, hi, rfl, rfl, HX, HB, HW⟩ := hrel
    have hsr := HW.out.size
    have hcum := cum_le ts hi
    have hsm := hsum.out
    by_cases hlt : i < 2 * ts.length
    · have hlti : (i : Int) < 2 * (ts.length : Int) := by omega
      have hn0 : ((ts.length : Int) == 0) = false := beq_eq_false_iff_ne.2 (by omega)
      have hn1 : ((ts.length : Int) == -1) = false := beq_eq_false_iff_ne.2 (by omega)
      have hpl : i % ts.length < ts.length := Nat.mod_lt _ (by omega)
      obtain ⟨p, hp, hpn, HPI⟩ : ∃ p : Nat, (i : Int) % (ts.length : Int) = p ∧ p < ts.length ∧ Hid (p = i % ts.length) := ⟨i % ts.length, by simp, hpl, rfl⟩
      obtain ⟨q, off, rfl, hcx⟩ := ht.out (by omega)
      have hck := hcx p hpn
      have hqlt := World.block_lt_of_cell? w _ hck
      have hss := hs.out p hpn
      have HCU : Hid (cumT ts (i + 1) = cumT ts i + (ts[p]?.getD ByteArray.empty).size) := by rw [Hid, cumT, sz, HPI.out]
      have hcum2 := cum_le ts (i := i + 1) (by omega)
      have HCM : Hid (cumT ts (i + 1) ≤ 2097152) := by show _ ≤ _; omega
      generalize ts[p]?.getD ByteArray.empty = s at hck hss HCU
      have hcs : wr.cell? ⟨q, off + p, none⟩ = some (.string s) := (HW.out.cell (p := ⟨q, off + p, none⟩) hqlt).trans hck
      have G0 := hide0 (G.out.grow HW.out)
      have hC := import_any s wr G0 (by unfold maxLen; omega)
      have hR := fun X => importRef_any s X (by unfold maxLen; omega)
      generalize hZ : (impB s.data.toList).2 = er at hC hR
      have hb2 : w2.heap.size < wr.heap.size := HB.out.lt
      clear hcx hck hpl hZ hcum hcum2 hsm
      go_wp2_with fail
      refine hC.mono ?_
      rintro e w3 ⟨lv, rfl, hO, hb3⟩
      obtain ⟨la, lc, its, rfl, hG⟩ := hO.out.got
      have HG3 := hide0 hG
      have HB3 := hide0 hb3
      have hs3 := hb3.size
      clear hC hG hO hcs hb3
      go_wp2_with fail
      refine (hR _).mono ?_
      rintro e w4 ⟨mv, rfl, hI, hb4⟩
      obtain ⟨ma, mc, mi, rfl, hmE, hmev, hml⟩ := hI.out
      have HG4 := hide0 (HG3.out.below hb4)
      have HB4 := hide0 (HB3.out.trans (hb4.mono hs3))
      have hs4 := hb4.size
      have hSA := sameAll_any la ma lc mc its mi w4 HG4.out.at hmE (by show _ = _; rw [HG4.out.evs, hmev]) (by have := HG4.out.len; omega)
      clear hR hI hmE hmev hml hb4 HG3 HB3
      go_wp2_with fail
      refine hSA.mono ?_
      rintro e w5 ⟨rfl, hb5⟩
      have HG5 := hide0 (HG4.out.below hb5)
      have hs5 := hb5.size
      have HB5 := hide0 (HB4.out.trans (hb5.mono (by omega)))
      have HBK5 := hide0 (HB.out.below HB5.out)
      have HP5 : Hid (Pend w2.heap.size tv ev xs ys w5 (.slice la its.length lc) its 0) := HG5.out.made.pend (by omega) (fun q hq => HB.out.clear hq)
      have hlen := HG5.out.len
      have hl5 : its.length ≤ 200 := hlen.1
      have HLE : Hid (its.length ≤ s.size) := by show _ ≤ _; have : s.data.toList.length = s.size := by simp
                                                 omega
      have HF5 : Hid (∀ it ∈ its, it.ev.tags.length ≤ 4) := HG5.out.four
      clear hSA hb5 HG4 HB4 hlen
      go_wp2_with fail
      refine (keep_any w2.heap.size r i tv ev xs ys (.slice la its.length lc) its w5 HBK5 HP5 hl5 HF5 ⟨HX.out.1, by have := HX.out; have := HCU.out; have := HCM.out; have := HLE.out; omega⟩ ⟨HX.out.2.2, by omega⟩).mono ?_
      rintro e w6 ⟨rfl, tv', ev', xs', ys', HBK6, HX6, hb6⟩
      have hs6 := hb6.size
      have HW6 := hide0 ((HW.out.trans (HB5.out.mono hsr)).trans (hb6.mono hs2))
      have HX7 : Hid (xs'.length = 4 * (r + its.length) ∧ r + its.length ≤ cumT ts (i + 1) ∧ ys'.length = 4 * (i + 1)) := ⟨HX6.out.1, by have := HX.out; have := HCU.out; have := HLE.out; omega, HX6.out.2⟩
      clear hb6 HBK5 HP5 HB5 HG5
      go_wp2_with fail
      refine (whole2_any w2.heap.size tv' ev' xs' ys' w6 HBK6 (by have := HX7.out; have := HCM.out; omega) (by have := HX7.out; omega)).mono ?_
      rintro e w7 ⟨rfl, hb7⟩
      have HBK7 := hide0 (HBK6.out.below hb7)
      have HW7 := hide0 (HW6.out.trans (hb7.mono HW6.out.size))
      have hfg : (er != er) = false := by simp
      clear hb7 HBK6 HW6
      go_wp2
      go_roundw
      case rel => exact ⟨i + 1, r + its.length, tv', ev', xs', ys', by omega, by go_num, rfl, HX7, HBK7, HW7⟩
      case measure => simp [intOf]; omega
    · have hlti : 2 * (ts.length : Int) ≤ (i : Int) := by omega
      clear hcum hsm
      go_wp2_with fail
      refine (whole2_any w2.heap.size tv ev xs ys wr HB (by have := HX.out; have := cum_le ts hi; have := hsum.out; omega) (by have := HX.out; omega)).mono ?_
      rintro e w9 ⟨rfl, hb9⟩
      go_wp2
      go_ret
      exact ⟨rfl, HW.out.trans (hb9.mono hsr)⟩
end Go.Proofs.YtdjllnhahhjgmaaGreatDoor
namespace Go.Proofs.YtdjllnhahhjgmaaGreatDoor
open Go.ChangeShapes Go.WideShapes Go.ChangeAt Go.WideMaps Go.WideElems Go.RowKit Chron
theorem giKinds : Tryz.prog.globalNamed "chronicle/canon.kinds" = some 1 := by kernel_rfl
theorem tiKinds : (Tryz.prog.globals[1]?).map (·.type) = some 123 := by kernel_rfl
theorem gNames : Tryz.prog.globalNamed "chronicle/canon.names" = some 0 := by kernel_rfl
theorem tNames : (Tryz.prog.globals[0]?).map (·.type) = some 107 := by kernel_rfl
theorem gErr : Tryz.prog.globalNamed "strconv.ErrSyntax" = some 8 := by kernel_rfl
theorem tErr : (Tryz.prog.globals[8]?).map (·.type) = some 118 := by kernel_rfl
/- what stands in a table of texts -/
theorem texts_table {W : World} {name : String} {g t n : Nat} {l : List (List UInt8)} (hg0 : Tryz.prog.globalNamed name = some g) (ht0 : (Tryz.prog.globals[g]?).map (·.type) = some t) (hu : Tryz.prog.underlying t = some (.array n 9))
    (h : Lib.VarReads Tryz.prog W name (.agg (l.map fun s => .lit (.string s)))) : l.length = n ∧ ∀ i s, l[i]? = some s → W.cell? ⟨g, i, none⟩ = some (.string (ba s)) := by
  obtain ⟨g', t', cs, fuel, p, hg, ht, hv, hd⟩ := h
  obtain rfl := Option.some.inj (hg0.symm.trans hg)
  obtain rfl := Option.some.inj (ht0.symm.trans ht)
  obtain ⟨xs, m1, rfl, hx1, hlen, hn4, hel⟩ := DataW.trod_array hu hd
  simp only [Prod.mk.injEq, DataW.agg.injEq] at hx1
  have hxl : l.length = xs.length := by have := congrArg List.length hx1.1; simpa using this
  refine ⟨by omega, fun i s hi => ?_⟩
  have hil := (List.getElem?_eq_some_iff.1 hi).1
  have he := hel i (by omega)
  obtain ⟨x, hx⟩ : ∃ x, xs[i]? = some x := ⟨_, List.getElem?_eq_getElem (by omega)⟩
  rw [hx] at he
  obtain ⟨s0, e0, f0, _⟩ := DataW.trod_string Tryz.underlying9 he
  rw [cellsStr] at e0
  have hlx := congrArg (·[i]?) hx1.1
  simp only [List.getElem?_map, hi, hx, Option.map_some, Option.some.injEq] at hlx
  rw [f0] at hlx
  simp only [DataW.lit.injEq, Lit.string.injEq] at hlx
  rw [World.var?_cell hg hv i]
  have h9 := congrArg (·[0]?) e0
  have h10 : cs[i]? = some (.string s0) := by simpa [List.getElem?_take, List.getElem?_drop] using h9
  rw [h10]
  exact congrArg (fun s => some (Value.string s)) (Chron.bytes_inj (by rw [← hlx]; simp [ba]))
set_option maxRecDepth 100000 in
theorem err_table {W : World} {n : String} {d : DataW Unit} (h : Lib.VarReads Tryz.prog W "strconv.ErrSyntax" (.iface n d)) : ErrV W := by
  obtain ⟨g', t', cs, fuel, p, hg, ht, hv, hd⟩ := h
  obtain rfl := Option.some.inj (gErr.symm.trans hg)
  obtain rfl := Option.some.inj (tErr.symm.trans ht)
  have key : ∃ te pe, cs.toList = [.iface te pe] := by
    cases fuel with
    | zero => simp [DataW.trod] at hd
    | succ k =>
      unfold DataW.trod at hd
      rw [Tryz.underlying118] at hd
      split at hd <;> simp_all
  obtain ⟨te, pe, hc⟩ := key
  refine ⟨te, pe, ?_⟩
  rw [World.var?_cell hg hv 0]
  have := congrArg (·[0]?) hc
  simpa using this
set_option maxRecDepth 100000 in
theorem glob_of {W : World} (h : laidMetH Tryz.prog Rows.importsUptoRow.laid W) : Glob W.heap.size W := by
  rw [MakeChecks.laidMetH_plain _ _ _ (by kernel_rfl)] at h
  have hk := texts_table (l := [wordB 1, wordB 2, wordB 3, wordB 4]) giKinds tiKinds Tryz.underlying123 (Lib.laidMet.reads h (n := "chronicle/canon.kinds") (d := Rows.laid_chronicle_canon_kinds) (by simp [Rows.importsUptoRow]))
  have hn := texts_table (l := namesL) gNames tNames Tryz.underlying107 (Lib.laidMet.reads h (n := "chronicle/canon.names") (d := Rows.laid_chronicle_canon_names) (by simp [Rows.importsUptoRow]))
  have he := err_table (Lib.laidMet.reads h (n := "strconv.ErrSyntax") (d := Rows.laid_strconv_ErrSyntax) (by simp [Rows.importsUptoRow]))
  have hkinds : Kinds W := by
    intro i hi
    have h4 : i = 0 ∨ i = 1 ∨ i = 2 ∨ i = 3 := by omega
    rcases h4 with rfl | rfl | rfl | rfl
    · exact hk.2 0 _ rfl
    · exact hk.2 1 _ rfl
    · exact hk.2 2 _ rfl
    · exact hk.2 3 _ rfl
  have hnames : ∀ i, i < 5 → W.cell? ⟨0, i, none⟩ = some (.string (ba (nameAt i))) := by
    intro i hi
    have h5 : i = 0 ∨ i = 1 ∨ i = 2 ∨ i = 3 ∨ i = 4 := by omega
    rcases h5 with rfl | rfl | rfl | rfl | rfl
    · exact hn.2 0 _ rfl
    · exact hn.2 1 _ rfl
    · exact hn.2 2 _ rfl
    · exact hn.2 3 _ rfl
    · exact hn.2 4 _ rfl
  obtain ⟨te, pe, hc⟩ := he
  exact ⟨⟨te, pe, hc⟩, hkinds, hnames, Nat.le_refl _, World.block_lt_of_cell? W _ hc, World.block_lt_of_cell? W _ (hkinds 0 (by decide)), World.block_lt_of_cell? W _ (hnames 0 (by decide))⟩
end Go.Proofs.YtdjllnhahhjgmaaGreatDoor
namespace Go.Proofs
abbrev Tryz.muLink : Go.Conc.Locks.MuLink := { lock := 36, unlock := 37, ilock := 58, iunlock := 59, lockSlow := 90, unlockSlow := 93, disable := 86, enable := 88, acquire := 89, relMerge := 91, cas32 := 87, add32 := 92, tMutex := 76, tIMutex := 74, tPMutex := 100, tPIMutex := 128, tPI32 := 130, tUP := 132, tNoCopy := 71, tU32 := 72 }
theorem Tryz.muLib : Go.Conc.Locks.MuLib Tryz.prog Tryz.muLink :=
  ⟨Tryz.func36, Tryz.func37, Tryz.func58, Tryz.func59, Tryz.func86, Tryz.func88, Tryz.func89, Tryz.func91, Tryz.func87, Tryz.func92,
    Tryz.underlying74, Tryz.runUnderlying74, Tryz.sizeOf74, Tryz.isAgg74, Tryz.zeroValue74,
    Tryz.underlying76, Tryz.runUnderlying76, Tryz.sizeOf76, Tryz.isAgg76, Tryz.zeroValue76,
    Tryz.underlying100, Tryz.runUnderlying100, Tryz.sizeOf100, Tryz.isAgg100, Tryz.zeroValue100,
    Tryz.underlying128, Tryz.runUnderlying128, Tryz.sizeOf128, Tryz.isAgg128, Tryz.zeroValue128,
    Tryz.underlying130, Tryz.runUnderlying130, Tryz.sizeOf130, Tryz.isAgg130, Tryz.zeroValue130,
    Tryz.underlying132, Tryz.runUnderlying132, Tryz.sizeOf132, Tryz.isAgg132, Tryz.zeroValue132,
    Tryz.underlying71, Tryz.runUnderlying71, Tryz.sizeOf71, Tryz.isAgg71, Tryz.zeroValue71,
    Tryz.underlying21, Tryz.runUnderlying21, Tryz.sizeOf21, Tryz.isAgg21, Tryz.zeroValue21, (by kernel_rfl)⟩
end Go.Proofs
