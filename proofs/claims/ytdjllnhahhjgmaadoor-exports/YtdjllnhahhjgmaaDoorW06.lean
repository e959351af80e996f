/- Walks and plain facts, in the order in which they lean on one another. -/
import Derived.Test.YtdjllnhahhjgmaaDoorW04
import Derived.Test.YtdjllnhahhjgmaaDoorW05
import Derived.Test.YtdjllnhahhjgmaaDoorW01
import Derived.ProofKit
import Derived.SizedLaws
import Derived.SliceStrings
import Derived.OpenShut
import Derived.Deep.Slices
import Derived.Stop.LaidErr
import Derived.MakeChecks
import Derived.Lib.LaidTab
namespace Go.Proofs.YtdjllnhahhjgmaaDoor
open Go.RowKit Chron
def badBd : ByteArray := ⟨#[116, 104, 101, 32, 99, 97, 108, 108, 101, 114, 39, 115]⟩
def badE : Ev := ⟨-1000, ⟨#[]⟩, 0, badBd, []⟩
def badI : Item := ⟨badE, none, 0⟩
set_option maxRecDepth 100000 in
set_option maxHeartbeats 400000 in
theorem badEvent_zero (w : World) : Calls Tryd.prog 10 #[.int .i64 0] w fun e w' => e = .returned (.agg #[.int .i64 (-1000), .string ⟨#[]⟩, .int .i64 0, .string badBd, .slice none 0 0]) ∧ Below w.heap.size w w' := by
  go_enter Tryd.func10, Tryd.ntmps10
  go_wp2
  obtain ⟨c0, c1, c2, c3, c4, _⟩ := res_cells (heap_alloc_new w (.cells #[.int .i64 (-1000), .string ⟨#[]⟩, .int .i64 0, .string ⟨#[116, 104, 101, 32, 99, 97, 108, 108, 101, 114, 39, 115]⟩, .slice none 0 0] 39))
  refine bodyPost_ret (v := .agg #[.int .i64 (-1000), .string ⟨#[]⟩, .int .i64 0, .string badBd, .slice none 0 0]) (by simp [results, Tryd.results10, go_sem, c0, c1, c2, c3, c4, badBd]) rfl ⟨rfl, (Below.refl _ _).alloc (Nat.le_refl _) _⟩
set_option maxRecDepth 100000 in
set_option maxHeartbeats 1000000 in
theorem sameAll_any (a1 a2 : Option Addr) (cap1 cap2 : Nat) (l1 l2 : List Item) (w : World) (h1 : Hid (EvsAt w a1 l1)) (h2 : Hid (EvsAt w a2 l2)) (he : Hid (evs l1 = evs l2)) (hn : l1.length * 72 ≤ 140737488355328) :
    Calls Tryd.prog 18 #[.slice a1 l1.length cap1, .slice a2 l2.length cap2] w fun e w' => e = .returned (.bool true) ∧ Below w.heap.size w w' := by
  have hlen : l1.length = l2.length := by have := congrArg List.length he.out; simpa [evs] using this
  rw [← hlen]
  have HLE := hide0 hlen
  clear hlen
  go_enter Tryd.func18, Tryd.ntmps18
  go_wp2
  go_loopw [5] (fun i wx => ∃ k : Nat, k ≤ l1.length ∧ i = .int .i64 k ∧ Hid (Below w.heap.size w wx)) (fun i _ => l1.length - (intOf i).toNat)
  case atStart => exact ⟨0, Nat.zero_le _, rfl, Below.refl _ _⟩
  case round =>
    obtain ⟨k, hk, rfl, HW⟩ := hrel
    by_cases hlt : k < l1.length
    · obtain ⟨b1, o1, rfl, hc1⟩ := h1.out.below HW.out (Nat.le_refl _) (by omega)
      obtain ⟨b2, o2, rfl, hc2⟩ := h2.out.below HW.out (Nat.le_refl _) (by have := HLE.out; omega)
      obtain ⟨⟨⟨kd, tk, tm, bd, ts⟩, ta, tc⟩, hx⟩ : ∃ x, l1[k]? = some x := ⟨_, List.getElem?_eq_getElem hlt⟩
      obtain ⟨⟨ev, ta2, tc2⟩, hy⟩ : ∃ x, l2[k]? = some x := ⟨_, List.getElem?_eq_getElem (by rw [← HLE.out]; exact hlt)⟩
      have hev : ev = ⟨kd, tk, tm, bd, ts⟩ := by
        have := congrArg (fun l => l[k]?) he.out
        simp only [evs, List.getElem?_map, hx, hy, Option.map_some, Option.some.injEq] at this
        exact this.symm
      subst hev
      obtain ⟨⟨c0, c1, c2, c3, c4⟩, hok⟩ := hc1 k _ hx
      obtain ⟨⟨d0, d1, d2, d3, d4⟩, hok2⟩ := hc2 k _ hy
      simp only at c0 c1 c2 c3 c4 d0 d1 d2 d3 d4
      have HOK := hide0 hok
      have HOK2 := hide0 hok2
      have hki : (k : Int) < (l1.length : Int) := by omega
      have hS := same_law ⟨kd, tk, tm, bd, ts⟩ ⟨kd, tk, tm, bd, ts⟩ ta ta2 tc tc2 wr.drew HOK.out.tags HOK2.out.tags (by have := HOK.out.few; unfold maxLen; simp only at this ⊢; omega) (by have := HOK.out.few; unfold maxLen; simp only at this ⊢; omega)
      simp only [evVal, (sameEv_iff (e := ⟨kd, tk, tm, bd, ts⟩) (f := ⟨kd, tk, tm, bd, ts⟩)).2 rfl] at hS
      have lt1 : b1 < wr.drew.heap.size := World.block_lt_of_cell? wr _ c0
      have lt2 : b2 < wr.drew.heap.size := World.block_lt_of_cell? wr _ d0
      have hsz := HW.out.size
      clear hc1 hc2 hok hok2 hx hy
      go_wp2_with fail
      go_region_held (fun w' => w'.cell? ⟨b1, o1 + k * 5, none⟩ = some (.int .i64 kd) ∧ w'.cell? ⟨b1, o1 + k * 5 + 1, none⟩ = some (.string tk) ∧ w'.cell? ⟨b1, o1 + k * 5 + 2, none⟩ = some (.int .i64 tm) ∧ w'.cell? ⟨b1, o1 + k * 5 + 3, none⟩ = some (.string bd) ∧ w'.cell? ⟨b1, o1 + k * 5 + 4, none⟩ = some (.slice ta ts.length tc) ∧ w'.cell? ⟨b2, o2 + k * 5, none⟩ = some (.int .i64 kd) ∧ w'.cell? ⟨b2, o2 + k * 5 + 1, none⟩ = some (.string tk) ∧ w'.cell? ⟨b2, o2 + k * 5 + 2, none⟩ = some (.int .i64 tm) ∧ w'.cell? ⟨b2, o2 + k * 5 + 3, none⟩ = some (.string bd) ∧ w'.cell? ⟨b2, o2 + k * 5 + 4, none⟩ = some (.slice ta2 ts.length tc2)) (go_keep)
        (first | (go_at_call 17; refine hS.mono ?_; rintro e w1 ⟨rfl, hb1⟩; have p0 := (hb1.cell (p := ⟨b1, o1 + k * 5, none⟩) lt1).trans c0; have p1 := (hb1.cell (p := ⟨b1, o1 + k * 5 + 1, none⟩) lt1).trans c1; have p2 := (hb1.cell (p := ⟨b1, o1 + k * 5 + 2, none⟩) lt1).trans c2; have p3 := (hb1.cell (p := ⟨b1, o1 + k * 5 + 3, none⟩) lt1).trans c3; have p4 := (hb1.cell (p := ⟨b1, o1 + k * 5 + 4, none⟩) lt1).trans c4; have q0 := (hb1.cell (p := ⟨b2, o2 + k * 5, none⟩) lt2).trans d0; have q1 := (hb1.cell (p := ⟨b2, o2 + k * 5 + 1, none⟩) lt2).trans d1; have q2 := (hb1.cell (p := ⟨b2, o2 + k * 5 + 2, none⟩) lt2).trans d2; have q3 := (hb1.cell (p := ⟨b2, o2 + k * 5 + 3, none⟩) lt2).trans d3; have q4 := (hb1.cell (p := ⟨b2, o2 + k * 5 + 4, none⟩) lt2).trans d4))
      all_goals
        have HW1 := hide0 (HW.out.drew.trans (hb1.mono (by show w.heap.size ≤ wr.heap.size; exact hsz)))
        clear hb1 p0 p1 p2 p3 p4 q0 q1 q2 q3 q4 c0 c1 c2 c3 c4 d0 d1 d2 d3 d4 hS
        go_wp2
        go_roundw
        case rel => exact ⟨k + 1, by omega, by go_num, HW1⟩
        case measure => simp [intOf]; omega
    · go_wp2
      go_ret
      exact ⟨rfl, HW.out⟩
end Go.Proofs.YtdjllnhahhjgmaaDoor
namespace Go.Proofs.YtdjllnhahhjgmaaDoor
open Go.RowKit Chron
set_option maxRecDepth 100000 in
set_option maxHeartbeats 2000000 in
theorem kept_any (b G n : Nat) (tv cv : Value) (a : Option Addr) (cap : Nat) (ls : List (Nat × Nat)) (its l : List Item) (w : World)
    (HL : Hid (LoanAt b tv cv (.slice (some ⟨G, 0, none⟩) (n + 8) (n + 8)) (.int .i64 n) (.slice a n cap) ls.length (lentV ls) ls.length (lentN ls) w)) (HK : Hid (LentOk ls w)) (hl : ls.length * 24 ≤ 140737488355328)
    (hn : n * 72 ≤ 140737488351232) (HE : Hid (EvsAt w (some ⟨G, 0, none⟩) its)) (hin : its.length = n) (HB : Hid (∀ k, n ≤ k → k < n + 8 → CellsAt w G (k * 5) badI)) (HA : Hid (EvsAt w a l)) (hln : l.length = n) (heq : Hid (evs its = evs l)) :
    Calls Tryd.prog 7 #[.pointer (some ⟨b, 0, none⟩)] w fun e w' => e = .returned (.bool true) ∧ Below w.heap.size w w' := by
  obtain ⟨d0, d1, d2, d3, d4, df⟩ := res_cells HL.out.blk
  obtain ⟨ta, tc, rfl, htc, _, hT⟩ := row_at HL.out.tags
  obtain ⟨ca, cc, rfl, hcc, _, hC⟩ := row_at HL.out.counts
  have HT := hide0 hT
  have HC := hide0 hC
  clear hT hC
  go_enter Tryd.func7, Tryd.ntmps7
  go_wp2
  go_loopw [3] (fun i wx => ∃ k nq : Nat, k ≤ ls.length ∧ i = .int .i64 k ∧ wx = w.drewN nq) (fun i _ => ls.length - (intOf i).toNat)
  case atStart => exact ⟨0, 0, Nat.zero_le _, rfl, rfl⟩
  case round =>
    obtain ⟨k, nq, hk, rfl, rfl⟩ := hrel
    by_cases hlt : k < ls.length
    · obtain ⟨M, n', hMn⟩ : ∃ M n, ls[k]? = some (M, n) := ⟨ls[k].1, ls[k].2, by simp [hlt]⟩
      obtain ⟨g1, rfl, c1⟩ := HT.out k (.slice (some ⟨M, 0, none⟩) (n' + 8) (n' + 8)) (by simp [lentV, hMn])
      obtain ⟨g2, rfl, c2⟩ := HC.out k (.int .i64 n') (by simp [lentN, hMn])
      obtain ⟨hn', hcells⟩ := HK.out k M n' hMn
      have HCL := hide0 hcells
      have hki : (k : Int) < (ls.length : Int) := by omega
      clear hMn hcells
      go_wp2
      go_loopw [4] (fun i wx => ∃ p nq : Nat, n' ≤ p ∧ p ≤ n' + 8 ∧ i = .int .i64 p ∧ wx = w.drewN nq) (fun i _ => n' + 8 - (intOf i).toNat)
      case atStart => exact ⟨n', nq, Nat.le_refl _, by omega, rfl, rfl⟩
      case round =>
        obtain ⟨p, nq', hp1, hp2, rfl, rfl⟩ := hrel
        by_cases hq : p < n' + 8
        · have cq := HCL.out p hp1 hq
          have hpi : (p : Int) < (n' : Int) + 8 := by omega
          have hbb : (badT.toList == badT.toList) = true := by simp
          go_wp2_with fail
          go_quiet (first | (go_at_call 16; refine quiet_more (badTag_zero _)))
          go_wp2
          go_roundw
          case rel => exact ⟨p + 1, _, by omega, by omega, by go_num, rfl⟩
          case measure => simp [intOf]; omega
        · have hpi : (n' : Int) + 8 ≤ (p : Int) := by omega
          go_wp2
          go_roundw
          case rel => exact ⟨k + 1, nq', by omega, by go_num, rfl⟩
          case measure => simp [intOf]; omega
    · have hki : (ls.length : Int) ≤ (k : Int) := by omega
      go_wp2
      go_loopw [5] (fun i wx => ∃ p : Nat, n ≤ p ∧ p ≤ n + 8 ∧ i = .int .i64 p ∧ Hid (Below w.heap.size w wx)) (fun i _ => n + 8 - (intOf i).toNat)
      case atStart => exact ⟨n, Nat.le_refl _, by omega, rfl, below_drewN (Below.refl _ _) nq⟩
      case round =>
        obtain ⟨p, hp1, hp2, rfl, HW⟩ := hrel
        have HLw : Hid (LoanAt b (.slice ta ls.length tc) (.slice ca ls.length cc) (.slice (some ⟨G, 0, none⟩) (n + 8) (n + 8)) (.int .i64 n) (.slice a n cap) ls.length (lentV ls) ls.length (lentN ls) wr) := HL.out.kept HW.out (Nat.le_refl _)
        obtain ⟨f0, f1, f2, f3, f4, ff⟩ := res_cells HLw.out.blk
        have hsz := HW.out.size
        by_cases hq : p < n + 8
        · obtain ⟨c0, c1, c2, c3, c4⟩ := (HB.out p hp1 hq).below HW.out (Nat.le_refl _)
          simp only [badI, badE, List.length_nil] at c0 c1 c2 c3 c4
          have hpi : (p : Int) < (n : Int) + 8 := by omega
          have hcells : ∀ X, Below w.heap.size w X → X.cell? ⟨b, 2, none⟩ = some (.slice (some ⟨G, 0, none⟩) (n + 8) (n + 8)) ∧ X.cell? ⟨G, p * 5, none⟩ = some (.int .i64 (-1000)) ∧ X.cell? ⟨G, p * 5 + 1, none⟩ = some (.string ⟨#[]⟩) ∧ X.cell? ⟨G, p * 5 + 2, none⟩ = some (.int .i64 0) ∧ X.cell? ⟨G, p * 5 + 3, none⟩ = some (.string badBd) ∧ X.cell? ⟨G, p * 5 + 4, none⟩ = some (.slice none 0 0) := by
            intro X hX
            obtain ⟨_, _, e2, _, _, _⟩ := res_cells (HL.out.kept hX (Nat.le_refl _)).blk
            obtain ⟨c0, c1, c2, c3, c4⟩ := (HB.out p hp1 hq).below hX (Nat.le_refl _)
            exact ⟨e2, c0, c1, c2, c3, c4⟩
          have hBE : ∀ X, Hid (Below w.heap.size w X) → Calls Tryd.prog 10 #[.int .i64 0] X fun e X' => e = .returned (.agg #[.int .i64 (-1000), .string ⟨#[]⟩, .int .i64 0, .string badBd, .slice none 0 0]) ∧ Hid (Below w.heap.size w X') ∧ X'.cell? ⟨b, 2, none⟩ = some (.slice (some ⟨G, 0, none⟩) (n + 8) (n + 8)) ∧ X'.cell? ⟨G, p * 5, none⟩ = some (.int .i64 (-1000)) ∧ X'.cell? ⟨G, p * 5 + 1, none⟩ = some (.string ⟨#[]⟩) ∧ X'.cell? ⟨G, p * 5 + 2, none⟩ = some (.int .i64 0) ∧ X'.cell? ⟨G, p * 5 + 3, none⟩ = some (.string badBd) ∧ X'.cell? ⟨G, p * 5 + 4, none⟩ = some (.slice none 0 0) := by
            intro X hX
            refine (badEvent_zero X).mono ?_
            rintro e X' ⟨rfl, hb⟩
            have h2 := hX.out.trans (hb.mono hX.out.size)
            exact ⟨rfl, h2, hcells _ h2⟩
          have hSM : ∀ X, Hid (Below w.heap.size w X) → Calls Tryd.prog 17 #[.agg #[.int .i64 (-1000), .string ⟨#[]⟩, .int .i64 0, .string badBd, .slice none 0 0], .agg #[.int .i64 (-1000), .string ⟨#[]⟩, .int .i64 0, .string badBd, .slice none 0 0]] X fun e X' => e = .returned (.bool true) ∧ Hid (Below w.heap.size w X') ∧ X'.cell? ⟨b, 2, none⟩ = some (.slice (some ⟨G, 0, none⟩) (n + 8) (n + 8)) ∧ X'.cell? ⟨G, p * 5, none⟩ = some (.int .i64 (-1000)) ∧ X'.cell? ⟨G, p * 5 + 1, none⟩ = some (.string ⟨#[]⟩) ∧ X'.cell? ⟨G, p * 5 + 2, none⟩ = some (.int .i64 0) ∧ X'.cell? ⟨G, p * 5 + 3, none⟩ = some (.string badBd) ∧ X'.cell? ⟨G, p * 5 + 4, none⟩ = some (.slice none 0 0) := by
            intro X hX
            have hS := same_law badE badE none none 0 0 X (fun h => by cases h) (fun h => by cases h) (by decide) (by decide)
            rw [(sameEv_iff (e := badE) (f := badE)).2 rfl] at hS
            refine Calls.mono hS ?_
            rintro e X' ⟨rfl, hb⟩
            have h2 := hX.out.trans (hb.mono hX.out.size)
            exact ⟨rfl, h2, hcells _ h2⟩
          have HWd : Hid (Below w.heap.size w wr.drew) := HW.out.drew
          clear hcells
          go_wp2_with fail
          go_region_held (fun X => X.cell? ⟨b, 2, none⟩ = some (.slice (some ⟨G, 0, none⟩) (n + 8) (n + 8)) ∧ X.cell? ⟨G, p * 5, none⟩ = some (.int .i64 (-1000)) ∧ X.cell? ⟨G, p * 5 + 1, none⟩ = some (.string ⟨#[]⟩) ∧ X.cell? ⟨G, p * 5 + 2, none⟩ = some (.int .i64 0) ∧ X.cell? ⟨G, p * 5 + 3, none⟩ = some (.string badBd) ∧ X.cell? ⟨G, p * 5 + 4, none⟩ = some (.slice none 0 0)) (go_keep)
            (first
              | (go_at_call 10; refine (hBE _ (by first | assumption | exact HWd)).mono ?_; rintro e w1 ⟨rfl, HW1, q0, q1, q2, q3, q4, q5⟩)
              | (go_at_call 17; refine (hSM _ (by first | assumption | exact HWd)).mono ?_; rintro e w2 ⟨rfl, HW2, r0, r1, r2, r3, r4, r5⟩))
          all_goals
            clear q0 q1 q2 q3 q4 q5 r0 r1 r2 r3 r4 r5 c0 c1 c2 c3 c4 f0 f1 f2 f3 f4 ff
            go_wp2
            go_roundw
            case rel => exact ⟨p + 1, by omega, by omega, by go_num, HW2⟩
            case measure => simp [intOf]; omega
        · have hpi : (n : Int) + 8 ≤ (p : Int) := by omega
          have hsl : (n : Int) ≤ (n : Int) + 8 := by omega
          have hcells : ∀ X, Below w.heap.size w X → X.cell? ⟨b, 2, none⟩ = some (.slice (some ⟨G, 0, none⟩) (n + 8) (n + 8)) ∧ X.cell? ⟨b, 3, none⟩ = some (.int .i64 n) ∧ X.cell? ⟨b, 4, none⟩ = some (.slice a n cap) := by
            intro X hX
            obtain ⟨_, _, e2, e3, e4, _⟩ := res_cells (HL.out.kept hX (Nat.le_refl _)).blk
            exact ⟨e2, e3, e4⟩
          have hSA : ∀ X, Hid (Below w.heap.size w X) → Calls Tryd.prog 18 #[.slice (some ⟨G, 0, none⟩) n (n + 8), .slice a n cap] X fun e X' => e = .returned (.bool true) ∧ Hid (Below w.heap.size w X') ∧ X'.cell? ⟨b, 2, none⟩ = some (.slice (some ⟨G, 0, none⟩) (n + 8) (n + 8)) ∧ X'.cell? ⟨b, 3, none⟩ = some (.int .i64 n) ∧ X'.cell? ⟨b, 4, none⟩ = some (.slice a n cap) := by
            intro X hX
            have hS := sameAll_any (some ⟨G, 0, none⟩) a (n + 8) cap its l X (HE.out.below hX.out (Nat.le_refl _)) (HA.out.below hX.out (Nat.le_refl _)) heq (by omega)
            rw [hin, hln] at hS
            refine hS.mono ?_
            rintro e X' ⟨rfl, hb⟩
            have h2 := hX.out.trans (hb.mono hX.out.size)
            exact ⟨rfl, h2, hcells _ h2⟩
          have HWd : Hid (Below w.heap.size w wr.drew) := HW.out.drew
          clear hcells
          go_wp2_with fail
          go_region_held (fun X => X.cell? ⟨b, 2, none⟩ = some (.slice (some ⟨G, 0, none⟩) (n + 8) (n + 8)) ∧ X.cell? ⟨b, 3, none⟩ = some (.int .i64 n) ∧ X.cell? ⟨b, 4, none⟩ = some (.slice a n cap)) (go_keep)
            (first
              | (go_at_call 18; refine (hSA _ (by first | assumption | exact HWd)).mono ?_; rintro e w2 ⟨rfl, HW2, r0, r1, r2⟩))
          all_goals
            go_wp2
            go_ret
            exact ⟨rfl, HW2.out⟩
end Go.Proofs.YtdjllnhahhjgmaaDoor
namespace Go.Proofs.YtdjllnhahhjgmaaDoor
open Go.RowKit Chron
structure RowIt (cur : Array Value) (o : Nat) (i : Item) : Prop where
  c0 : cur[o]? = some (.int .i64 i.ev.kind)
  c1 : cur[o + 1]? = some (.string i.ev.task)
  c2 : cur[o + 2]? = some (.int .i64 i.ev.time)
  c3 : cur[o + 3]? = some (.string i.ev.body)
  c4 : cur[o + 4]? = some (.slice i.at' i.ev.tags.length i.cap)
theorem RowIt.cells {w : World} {G o : Nat} {cur : Array Value} {t : TypeId} {fr : Nat × Nat} {i : Item} (h : RowIt cur o i) (hg : w.heap[G]? = some (.cells cur t fr)) : CellsAt w G o i :=
  ⟨by simpa [World.cell?, hg] using h.c0, by simpa [World.cell?, hg] using h.c1, by simpa [World.cell?, hg] using h.c2, by simpa [World.cell?, hg] using h.c3, by simpa [World.cell?, hg] using h.c4⟩
def set5 (w : World) (G o : Nat) (x0 x1 x2 x3 x4 : Value) : World := ((((w.setCell ⟨G, o, none⟩ x0).setCell ⟨G, o + 1, none⟩ x1).setCell ⟨G, o + 2, none⟩ x2).setCell ⟨G, o + 3, none⟩ x3).setCell ⟨G, o + 4, none⟩ x4
theorem set5_other {w : World} {G o q : Nat} {x0 x1 x2 x3 x4 : Value} (h : q ≠ G) : (set5 w G o x0 x1 x2 x3 x4).heap[q]? = w.heap[q]? := by
  unfold set5
  rw [Below.heap_setCell _ _ _ _ h, Below.heap_setCell _ _ _ _ h, Below.heap_setCell _ _ _ _ h, Below.heap_setCell _ _ _ _ h, Below.heap_setCell _ _ _ _ h]
theorem set1_heap {w : World} {G o : Nat} {cur : Array Value} {t : TypeId} {fr : Nat × Nat} {u : Value} (h : w.heap[G]? = some (.cells cur t fr)) : (w.setCell ⟨G, o, none⟩ u).heap[G]? = some (.cells (cur.setIfInBounds o u) t fr) := by
  rw [setCell_eq_setRow w G o cur t fr u h, setRow_heap w G _ _ t fr h]
theorem set5_heap {w : World} {G o : Nat} {cur : Array Value} {t : TypeId} {fr : Nat × Nat} {x0 x1 x2 x3 x4 : Value} (h : w.heap[G]? = some (.cells cur t fr)) :
    (set5 w G o x0 x1 x2 x3 x4).heap[G]? = some (.cells (((((cur.setIfInBounds o x0).setIfInBounds (o + 1) x1).setIfInBounds (o + 2) x2).setIfInBounds (o + 3) x3).setIfInBounds (o + 4) x4) t fr) :=
  set1_heap (set1_heap (set1_heap (set1_heap (set1_heap h))))
theorem set5_size {w : World} {G o : Nat} {x0 x1 x2 x3 x4 : Value} : (set5 w G o x0 x1 x2 x3 x4).heap.size = w.heap.size := by simp [set5, World.setCell]
theorem set5_below {w w' : World} {B G o : Nat} {x0 x1 x2 x3 x4 : Value} (h : Below B w w') (hG : B ≤ G) : Below B w (set5 w' G o x0 x1 x2 x3 x4) :=
  ((((h.setCell (p := ⟨G, o, none⟩) hG _).setCell (p := ⟨G, o + 1, none⟩) hG _).setCell (p := ⟨G, o + 2, none⟩) hG _).setCell (p := ⟨G, o + 3, none⟩) hG _).setCell (p := ⟨G, o + 4, none⟩) hG _
theorem set5_new {cur : Array Value} {o : Nat} (h : o + 5 ≤ cur.size) (i : Item) : RowIt (((((cur.setIfInBounds o (.int .i64 i.ev.kind)).setIfInBounds (o + 1) (.string i.ev.task)).setIfInBounds (o + 2) (.int .i64 i.ev.time)).setIfInBounds (o + 3) (.string i.ev.body)).setIfInBounds (o + 4) (.slice i.at' i.ev.tags.length i.cap)) o i := by
  constructor <;> (simp [Array.getElem?_setIfInBounds]; try omega)
theorem set5_old {cur : Array Value} {o p : Nat} {i : Item} {x0 x1 x2 x3 x4 : Value} (h : RowIt cur p i) (hp : p + 5 ≤ o ∨ o + 5 ≤ p) : RowIt (((((cur.setIfInBounds o x0).setIfInBounds (o + 1) x1).setIfInBounds (o + 2) x2).setIfInBounds (o + 3) x3).setIfInBounds (o + 4) x4) p i := by
  have key : ∀ j, j < 5 → (((((cur.setIfInBounds o x0).setIfInBounds (o + 1) x1).setIfInBounds (o + 2) x2).setIfInBounds (o + 3) x3).setIfInBounds (o + 4) x4)[p + j]? = cur[p + j]? := by
    intro j hj
    rw [Array.getElem?_setIfInBounds_ne (by omega), Array.getElem?_setIfInBounds_ne (by omega), Array.getElem?_setIfInBounds_ne (by omega), Array.getElem?_setIfInBounds_ne (by omega), Array.getElem?_setIfInBounds_ne (by omega)]
  exact ⟨(key 0 (by omega)).trans h.c0, (key 1 (by omega)).trans h.c1, (key 2 (by omega)).trans h.c2, (key 3 (by omega)).trans h.c3, (key 4 (by omega)).trans h.c4⟩
/- a row of events, its first ones known -/
def EvRow (w : World) (G m : Nat) (its : List Item) : Prop := ∃ cur, w.heap[G]? = some (.cells cur 39 (0, 0)) ∧ cur.size = m * 5 ∧ ∀ k i, its[k]? = some i → RowIt cur (k * 5) i
theorem EvRow.same {w w' : World} {G m : Nat} {its : List Item} (h : EvRow w G m its) (hg : w'.heap[G]? = w.heap[G]?) : EvRow w' G m its := by
  obtain ⟨cur, h1, h2, h3⟩ := h
  exact ⟨cur, hg.trans h1, h2, h3⟩
theorem EvRow.store {w : World} {G m : Nat} {its : List Item} (h : EvRow w G m its) {p : Nat} (hp : p < m) (hl : p ≤ its.length) (i : Item) :
    EvRow (set5 w G (p * 5) (.int .i64 i.ev.kind) (.string i.ev.task) (.int .i64 i.ev.time) (.string i.ev.body) (.slice i.at' i.ev.tags.length i.cap)) G m (its.take p ++ [i]) := by
  obtain ⟨cur, h1, h2, h3⟩ := h
  have hp5 : p * 5 + 5 ≤ cur.size := by
    have : (p + 1) * 5 ≤ m * 5 := Nat.mul_le_mul_right _ hp
    omega
  refine ⟨_, set5_heap h1, by simp [h2], fun k x hk => ?_⟩
  have hlen : (its.take p).length = p := by rw [List.length_take]; omega
  rcases Nat.lt_trichotomy k p with hkp | rfl | hkp
  · rw [List.getElem?_append_left (by omega), List.getElem?_take_of_lt hkp] at hk
    exact set5_old (h3 k x hk) (.inl (by have : (k + 1) * 5 ≤ p * 5 := Nat.mul_le_mul_right _ hkp; omega))
  · rw [List.getElem?_append_right (by omega), hlen, Nat.sub_self] at hk
    simp only [List.getElem?_cons_zero, Option.some.injEq] at hk
    subst hk
    exact set5_new hp5 i
  · rw [List.getElem?_eq_none (by simp; omega)] at hk
    cases hk
theorem EvRow.there {w : World} {G m : Nat} {its : List Item} (h : EvRow w G m its) {p : Nat} (hp : p < m * 5) : ∃ x, w.cell? ⟨G, p, none⟩ = some x ∧ w.frozen? ⟨G, p, none⟩ = false := by
  obtain ⟨cur, h1, h2, _⟩ := h
  exact ⟨cur[p], by simp [World.cell?, h1, h2, hp], by simp [World.frozen?, h1]⟩
theorem EvRow.at {w : World} {G m : Nat} {its : List Item} (h : EvRow w G m its) {k : Nat} {i : Item} (hk : its[k]? = some i) : CellsAt w G (k * 5) i := by
  obtain ⟨cur, h1, _, h3⟩ := h
  exact (h3 k i hk).cells h1
/- the loan, while its lists are made -/
structure AllAt (b G n : Nat) (a : Option Addr) (cap : Nat) (l : List Item) (w0 wx : World) (tv cv : Value) (ls : List (Nat × Nat)) (its : List Item) : Prop where
  loan : LoanAt b tv cv (.slice (some ⟨G, 0, none⟩) (n + 8) (n + 8)) (.int .i64 n) (.slice a n cap) ls.length (lentV ls) ls.length (lentN ls) wx
  bel : Below b w0 wx
  row : EvRow wx G (n + 8) its
  lists : ∀ (k M c : Nat), ls[k]? = some (M, c) → ∃ e, l[k]? = some e ∧ c = e.ev.tags.length ∧ its[k]? = some ⟨e.ev, some ⟨M, 0, none⟩, c + 8⟩ ∧ wx.heap[M]? = some (.cells (lent e.ev.tags 8).toArray 9 (0, 0)) ∧ M ≠ G ∧ b < M ∧ tv.ownBlock ≠ some M ∧ cv.ownBlock ≠ some M
  bads : ∀ k, n ≤ k → k < its.length → its[k]? = some badI
  gb : b < G
  gt : tv.ownBlock ≠ some G
  gc : cv.ownBlock ≠ some G
theorem LoanAt.not_new {b : Nat} {tv cv ev nv lv : Value} {nT : Nat} {xs : List Value} {nC : Nat} {cs : List Value} {w : World} (h : LoanAt b tv cv ev nv lv nT xs nC cs w) {q : Nat} (hq : w.heap.size ≤ q) : tv.ownBlock ≠ some q ∧ cv.ownBlock ≠ some q := by
  constructor <;> intro e
  · have := (h.tags.lt q e).2; omega
  · have := (h.counts.lt q e).2; omega
theorem AllAt.store {b G n : Nat} {a : Option Addr} {cap : Nat} {l : List Item} {w0 wx : World} {tv cv : Value} {ls : List (Nat × Nat)} {its : List Item} (h : AllAt b G n a cap l w0 wx tv cv ls its) {p : Nat} (hp : p < n + 8) (hl : p ≤ its.length) (hls : ls.length ≤ p) (i : Item) (hb : n ≤ p → i = badI) :
    AllAt b G n a cap l w0 (set5 wx G (p * 5) (.int .i64 i.ev.kind) (.string i.ev.task) (.int .i64 i.ev.time) (.string i.ev.body) (.slice i.at' i.ev.tags.length i.cap)) tv cv ls (its.take p ++ [i]) := by
  have hlen : (its.take p).length = p := by rw [List.length_take]; omega
  have hgb := h.gb
  refine ⟨h.loan.same fun q hq => set5_other ?_, set5_below h.bel (by omega), h.row.store hp hl i, fun k M c hk => ?_, fun k h1 h2 => ?_, h.gb, h.gt, h.gc⟩
  · rintro rfl
    rcases hq with e | e | e
    · omega
    · exact h.gt e
    · exact h.gc e
  · obtain ⟨e, h1, h2, h3, h4, h5, h6⟩ := h.lists k M c hk
    have hkl := (List.getElem?_eq_some_iff.1 hk).1
    exact ⟨e, h1, h2, by rw [List.getElem?_append_left (by omega), List.getElem?_take_of_lt (by omega)]; exact h3, (set5_other h5).trans h4, h5, h6⟩
  · rw [List.length_append, hlen, List.length_singleton] at h2
    rcases Nat.lt_or_ge k p with hkp | hkp
    · rw [List.getElem?_append_left (by omega), List.getElem?_take_of_lt hkp]
      exact h.bads k h1 (by omega)
    · have : k = p := by omega
      subst this
      rw [List.getElem?_append_right (by omega), hlen, Nat.sub_self, hb h1]; rfl
theorem AllAt.below {b G n : Nat} {a : Option Addr} {cap : Nat} {l : List Item} {w0 wx wy : World} {tv cv : Value} {ls : List (Nat × Nat)} {its : List Item} (h : AllAt b G n a cap l w0 wx tv cv ls its) (hb : Below wx.heap.size wx wy) : AllAt b G n a cap l w0 wy tv cv ls its := by
  have hG : G < wx.heap.size := by obtain ⟨cur, h1, _⟩ := h.row; exact (Array.getElem?_eq_some_iff.1 h1).1
  have hblt := h.loan.lt
  refine ⟨h.loan.kept hb (Nat.le_refl _), h.bel.trans (hb.mono (by omega)), h.row.same (hb.block G hG), fun k M c hk => ?_, h.bads, h.gb, h.gt, h.gc⟩
  obtain ⟨e, h1, h2, h3, h4, h5⟩ := h.lists k M c hk
  exact ⟨e, h1, h2, h3, (hb.block M (Array.getElem?_eq_some_iff.1 h4).1).trans h4, h5⟩
theorem AllAt.cut {b G n : Nat} {a : Option Addr} {cap : Nat} {l : List Item} {w0 wx : World} {tv cv : Value} {ls : List (Nat × Nat)} {its : List Item} (h : AllAt b G n a cap l w0 wx tv cv ls its) {p : Nat} (hp : ls.length ≤ p) (hl : p ≤ its.length) : AllAt b G n a cap l w0 wx tv cv ls (its.take p) := by
  refine ⟨h.loan, h.bel, ?_, fun k M c hk => ?_, fun k h1 h2 => ?_, h.gb, h.gt, h.gc⟩
  · obtain ⟨cur, h1, h2, h3⟩ := h.row
    refine ⟨cur, h1, h2, fun k i hk => h3 k i ?_⟩
    have := (List.getElem?_eq_some_iff.1 hk).1
    rwa [List.getElem?_take_of_lt (by rw [List.length_take] at this; omega)] at hk
  · obtain ⟨e, h1, h2, h3, h4⟩ := h.lists k M c hk
    have hkl := (List.getElem?_eq_some_iff.1 hk).1
    exact ⟨e, h1, h2, by rw [List.getElem?_take_of_lt (by omega)]; exact h3, h4⟩
  · rw [List.length_take] at h2
    rw [List.getElem?_take_of_lt (by omega)]
    exact h.bads k h1 (by omega)
theorem AllAt.one {b G n : Nat} {a : Option Addr} {cap : Nat} {l : List Item} {w0 wx wy : World} {tv cv tv' cv' : Value} {ls : List (Nat × Nat)} {its : List Item} {M : Nat} {e : Item} (h : AllAt b G n a cap l w0 wx tv cv ls its)
    (he : l[ls.length]? = some e) (hM : wx.heap.size ≤ M) (hrow : wy.heap[M]? = some (.cells (lent e.ev.tags 8).toArray 9 (0, 0)))
    (hloan : LoanAt b tv' cv' (.slice (some ⟨G, 0, none⟩) (n + 8) (n + 8)) (.int .i64 n) (.slice a n cap) (ls.length + 1) (lentV ls ++ [.slice (some ⟨M, 0, none⟩) (e.ev.tags.length + 8) (e.ev.tags.length + 8)]) (ls.length + 1) (lentN ls ++ [.int .i64 e.ev.tags.length]) wy)
    (htv : ∀ q, tv'.ownBlock = some q → q ≠ M ∧ (tv.ownBlock = some q ∨ wx.heap.size ≤ q)) (hcv : ∀ q, cv'.ownBlock = some q → q ≠ M ∧ (cv.ownBlock = some q ∨ wx.heap.size ≤ q)) (hfar : Far wx wy [some b, tv.ownBlock, cv.ownBlock])
    (hlen : its.length = ls.length) (hn : ls.length < n) :
    EvRow wy G (n + 8) its ∧ AllAt b G n a cap l w0 (set5 wy G (ls.length * 5) (.int .i64 e.ev.kind) (.string e.ev.task) (.int .i64 e.ev.time) (.string e.ev.body) (.slice (some ⟨M, 0, none⟩) e.ev.tags.length (e.ev.tags.length + 8))) tv' cv' (ls ++ [(M, e.ev.tags.length)]) (its ++ [⟨e.ev, some ⟨M, 0, none⟩, e.ev.tags.length + 8⟩]) := by
  have hgb := h.gb
  have hG : G < wx.heap.size := by obtain ⟨cur, h1, _⟩ := h.row; exact (Array.getElem?_eq_some_iff.1 h1).1
  have hblt := h.loan.lt
  have hblk : ∀ q, q < wx.heap.size → q ≠ b → tv.ownBlock ≠ some q → cv.ownBlock ≠ some q → wy.heap[q]? = wx.heap[q]? := fun q hq h1 h2 h3 => hfar.block q hq (fun r hr e => by
    subst e
    simp only [List.mem_cons, List.mem_nil_iff, or_false, Option.some.injEq] at hr
    rcases hr with hr | hr | hr
    · exact h1 hr
    · exact h2 hr.symm
    · exact h3 hr.symm)
  have hnew : ∀ (q : Nat), q < wx.heap.size → tv.ownBlock ≠ some q → cv.ownBlock ≠ some q → tv'.ownBlock ≠ some q ∧ cv'.ownBlock ≠ some q := fun q hq h1 h2 => ⟨fun e => by
      rcases (htv q e).2 with h | h
      · exact h1 h
      · omega, fun e => by
      rcases (hcv q e).2 with h | h
      · exact h2 h
      · omega⟩
  have hr := h.row.same (hblk G hG (by omega) h.gt h.gc)
  have hst := hr.store (p := ls.length) (by omega) (by omega) ⟨e.ev, some ⟨M, 0, none⟩, e.ev.tags.length + 8⟩
  rw [← hlen, List.take_length, hlen] at hst
  refine ⟨hr, ?_, set5_below (h.bel.trans (hfar.below (by omega) (fun q hq => ?_))) (by omega), hst, fun k M' c hk => ?_, fun k h1 h2 => ?_, h.gb, (hnew G hG h.gt h.gc).1, (hnew G hG h.gt h.gc).2⟩
  · have e1 : (ls ++ [(M, e.ev.tags.length)]).length = ls.length + 1 := by simp
    have e2 : lentV (ls ++ [(M, e.ev.tags.length)]) = lentV ls ++ [.slice (some ⟨M, 0, none⟩) (e.ev.tags.length + 8) (e.ev.tags.length + 8)] := by simp [lentV]
    have e3 : lentN (ls ++ [(M, e.ev.tags.length)]) = lentN ls ++ [.int .i64 e.ev.tags.length] := by simp [lentN]
    rw [e1, e2, e3]
    refine hloan.same fun q hq => set5_other ?_
    rintro rfl
    rcases hq with e | e | e
    · omega
    · exact (hnew _ hG h.gt h.gc).1 e
    · exact (hnew _ hG h.gt h.gc).2 e
  · simp only [List.mem_cons, List.mem_nil_iff, or_false, Option.some.injEq] at hq
    rcases hq with hq | hq | hq
    · omega
    · have := (h.loan.tags.lt q hq.symm).1; omega
    · have := (h.loan.counts.lt q hq.symm).1; omega
  · rcases Nat.lt_or_ge k ls.length with hkl | hkl
    · rw [List.getElem?_append_left hkl] at hk
      obtain ⟨x, h1, h2, h3, h4, h5, h6, h7, h8⟩ := h.lists k M' c hk
      have hM' := (Array.getElem?_eq_some_iff.1 h4).1
      exact ⟨x, h1, h2, by rw [List.getElem?_append_left (by omega)]; exact h3, (set5_other h5).trans ((hblk M' hM' (by omega) h7 h8).trans h4), h5, h6, (hnew M' hM' h7 h8).1, (hnew M' hM' h7 h8).2⟩
    · have hk0 : k = ls.length := by
        have := (List.getElem?_eq_some_iff.1 hk).1
        simp at this; omega
      subst hk0
      simp only [List.getElem?_append_right (Nat.le_refl _), Nat.sub_self, List.getElem?_cons_zero, Option.some.injEq, Prod.mk.injEq] at hk
      obtain ⟨rfl, rfl⟩ := hk
      refine ⟨e, he, rfl, ?_, (set5_other (by omega)).trans hrow, by omega, by omega, fun e => (htv _ e).1 rfl, fun e => (hcv _ e).1 rfl⟩
      rw [← hlen, List.getElem?_append_right (Nat.le_refl _), Nat.sub_self]; rfl
  · rw [List.length_append, List.length_singleton] at h2
    omega
end Go.Proofs.YtdjllnhahhjgmaaDoor
namespace Go.Proofs.YtdjllnhahhjgmaaDoor
open Go.RowKit Chron
theorem infoEvent : (Tryd.prog.info? 39).map (fun i => (i.zero, i.size, i.bytes)) = some (some (.agg #[.int .i64 0, .string ⟨#[]⟩, .int .i64 0, .string ⟨#[]⟩, .slice none 0 0]), 5, 72) := by kernel_rfl
theorem own_five {w : World} {base : Nat} {g n : Nat} {xs : List Value} (h : w.ownsRow base 39 5 (.slice (some ⟨g, 0, none⟩) n n) n xs) : EvRow w g n [] := by
  rcases h.2 with ⟨h0, _⟩ | ⟨g', cap, cur, hv, hb, hg, h1, h2, h3, h4⟩
  · cases h0
  · simp only [Value.slice.injEq, Option.some.injEq, Addr.mk.injEq] at hv
    obtain ⟨⟨rfl, _⟩, _, rfl⟩ := hv
    exact ⟨cur, hg, h3, fun k i hk => by simp at hk⟩
theorem all_start {b G : Nat} {a : Option Addr} {cap : Nat} {l : List Item} {w0 w w1 : World} (_hw0 : w0.heap.size ≤ b) (HB0 : Below b w0 w) (HL : LoanAt b (.slice none 0 0) (.slice none 0 0) (.slice none 0 0) (.int .i64 0) (.slice none 0 0) 0 [] 0 [] w)
    (hG : ((w.setCell ⟨b, 4, none⟩ (.slice a l.length cap)).setCell ⟨b, 3, none⟩ (.int .i64 l.length)).heap.size = G)
    (hown : w1.ownsRow (b + 1) 39 5 (.slice (some ⟨G, 0, none⟩) (l.length + 8) (l.length + 8)) (l.length + 8) (madeCells (Value.agg #[.int .i64 0, .string ⟨#[]⟩, .int .i64 0, .string ⟨#[]⟩, .slice none 0 0]).cells ((l.length + 8) * 5)).toList)
    (hgr : ((w.setCell ⟨b, 4, none⟩ (.slice a l.length cap)).setCell ⟨b, 3, none⟩ (.int .i64 l.length)).grownBy w1 none) :
    w1.heap[b]? = some (.cells #[.slice none 0 0, .slice none 0 0, .slice none 0 0, .int .i64 l.length, .slice a l.length cap] 30) ∧
    AllAt b G l.length a cap l w0 (w1.setCell ⟨b, 2, none⟩ (.slice (some ⟨G, 0, none⟩) (l.length + 8) (l.length + 8))) (.slice none 0 0) (.slice none 0 0) [] [] := by
  have hblt := HL.lt
  rw [size_set, size_set] at hG
  have h1 := loan_set (i := 4) (u := .slice a l.length cap) HL.blk
  have h2 := loan_set (i := 3) (u := .int .i64 l.length) h1
  have h3 : w1.heap[b]? = some (.cells #[.slice none 0 0, .slice none 0 0, .slice none 0 0, .int .i64 l.length, .slice a l.length cap] 30) := by
    rw [hgr.block b (by rw [size_set, size_set]; exact hblt) (by simp)]; exact h2
  have hbel : Below b w0 w1 := Below.grown ((HB0.setCell (p := ⟨b, 4, none⟩) (Nat.le_refl _) _).setCell (p := ⟨b, 3, none⟩) (Nat.le_refl _) _) hgr (by rw [size_set, size_set]; omega) (fun q hq => by cases hq)
  refine ⟨h3, ⟨loan_set h3, World.ownsRow_nil _ _ _ _, World.ownsRow_nil _ _ _ _, fun q hq => by cases hq⟩, hbel.setCell (p := ⟨b, 2, none⟩) (Nat.le_refl _) _, (own_five hown).same (Below.heap_setCell _ _ _ _ (by show G ≠ b; omega)), fun k M c hk => by simp at hk, fun k h1 h2 => by simp at h2, by omega, by simp [Value.ownBlock], by simp [Value.ownBlock]⟩
set_option maxRecDepth 100000 in
set_option maxHeartbeats 2000000 in
theorem all_any (b : Nat) (a : Option Addr) (cap : Nat) (l : List Item) (w0 w : World) (hw0 : w0.heap.size ≤ b) (HB0 : Hid (Below b w0 w))
    (HL : Hid (LoanAt b (.slice none 0 0) (.slice none 0 0) (.slice none 0 0) (.int .i64 0) (.slice none 0 0) 0 [] 0 [] w)) (hl : Hid (EvsAt w0 a l)) (hn : l.length * 72 ≤ 140737488351232) :
    Calls Tryd.prog 5 #[.pointer (some ⟨b, 0, none⟩), .slice a l.length cap] w fun e w' =>
      ∃ G tv cv ls its, e = .returned (.slice (some ⟨G, 0, none⟩) l.length (l.length + 8)) ∧ its.length = l.length + 8 ∧ ls.length = l.length ∧ AllAt b G l.length a cap l w0 w' tv cv ls its := by
  obtain ⟨i0, hi, hz0, hz1, hz2⟩ := info_parts infoEvent
  have hb2 : i0.bytes * (l.length + 8) ≤ 281474976710656 := by rw [hz2]; omega
  have hb3 : l.length + 8 ≤ maxLen := by unfold maxLen; omega
  have hblt := HL.out.lt
  obtain ⟨d0, d1, d2, d3, d4, df⟩ := res_cells HL.out.blk
  go_enter Tryd.func5, Tryd.ntmps5
  go_wp2_with (first
    | (at_make; go_must (refine wpList_make_full _ rfl _ _ 22 rfl (b + 1) 39 i0 (.agg #[.int .i64 0, .string ⟨#[]⟩, .int .i64 0, .string ⟨#[]⟩, .slice none 0 0]) 5 Tryd.underlying22 hi hz0 hz1 .i64 .i64 _ _ (l.length + 8) rfl rfl (by simp) (by simp) hb2 hb3 (by rw [size_set, size_set]; exact hblt) ?_); intro w1 hown1 hgr1
       obtain ⟨G, hG⟩ : ∃ G, ((w.setCell ⟨b, 4, none⟩ (.slice a l.length cap)).setCell ⟨b, 3, none⟩ (.int .i64 l.length)).heap.size = G := ⟨_, rfl⟩
       rw [hG] at hown1
       try rw [hG]
       obtain ⟨hbx, hal⟩ := all_start hw0 HB0.out HL.out hG hown1 hgr1
       obtain ⟨e0, e1, e2, e3, e4, ef⟩ := res_cells hbx
       have HAL := hide0 hal
       clear hown1 hgr1 hbx hal d0 d1 d2 d3 d4 df hG))
  go_loopw [5] (fun i wx => ∃ (k : Nat) (tv cv : Value) (ls : List (Nat × Nat)) (its : List Item), k ≤ l.length + 8 ∧ i = .int .i64 k ∧ its.length = k ∧ ls.length = min k l.length ∧ Hid (AllAt b G l.length a cap l w0 wx tv cv ls its)) (fun i _ => l.length + 8 - (intOf i).toNat)
  case atStart => exact ⟨0, _, _, [], [], by omega, rfl, rfl, by simp, HAL⟩
  case round =>
    obtain ⟨k, tv, cv, ls, its, hk, rfl, hki, hls, HA⟩ := hrel
    obtain ⟨f0, f1, f2, f3, f4, ff⟩ := res_cells HA.out.loan.blk
    by_cases hlt : k < l.length + 8
    · have hkI : (k : Int) < (l.length : Int) + 8 := by omega
      have hgb : G ≠ b := by have := HA.out.gb; omega
      have hBE : Calls Tryd.prog 10 #[.int .i64 0] wr.drew fun e X => e = .returned (.agg #[.int .i64 (-1000), .string ⟨#[]⟩, .int .i64 0, .string badBd, .slice none 0 0]) ∧ Hid (AllAt b G l.length a cap l w0 X tv cv ls its) := by
        refine (badEvent_zero wr.drew).mono ?_
        rintro e X ⟨rfl, hb⟩
        exact ⟨rfl, HA.out.below ((Below.refl _ _).drew.trans hb)⟩
      go_wp2_with fail
      go_region_held (fun X => X.cell? ⟨b, 2, none⟩ = some (.slice (some ⟨G, 0, none⟩) (l.length + 8) (l.length + 8))) (go_keep)
        (first
          | (go_at_call 10; refine hBE.mono ?_; rintro e w2 ⟨rfl, HA1⟩
             have g2 := (res_cells HA1.out.loan.blk).2.2.1
             obtain ⟨y0, t0, z0⟩ := HA1.out.row.there (p := k * 5) (by omega)
             obtain ⟨y1, t1, z1⟩ := HA1.out.row.there (p := k * 5 + 1) (by omega)
             obtain ⟨y2, t2, z2⟩ := HA1.out.row.there (p := k * 5 + 2) (by omega)
             obtain ⟨y3, t3, z3⟩ := HA1.out.row.there (p := k * 5 + 3) (by omega)
             obtain ⟨y4, t4, z4⟩ := HA1.out.row.there (p := k * 5 + 4) (by omega)))
      have HA2' : Hid (AllAt b G l.length a cap l w0 (((((w2.setCell ⟨G, k * 5, none⟩ (.int .i64 (-1000))).setCell ⟨G, k * 5 + 1, none⟩ (.string ⟨#[]⟩)).setCell ⟨G, k * 5 + 2, none⟩ (.int .i64 0)).setCell ⟨G, k * 5 + 3, none⟩ (.string badBd)).setCell ⟨G, k * 5 + 4, none⟩ (.slice none 0 0)) tv cv ls (its.take k ++ [badI])) := HA1.out.store (p := k) hlt (by omega) (by omega) badI (fun _ => rfl)
      generalize (((((w2.setCell ⟨G, k * 5, none⟩ (.int .i64 (-1000))).setCell ⟨G, k * 5 + 1, none⟩ (.string ⟨#[]⟩)).setCell ⟨G, k * 5 + 2, none⟩ (.int .i64 0)).setCell ⟨G, k * 5 + 3, none⟩ (.string badBd)).setCell ⟨G, k * 5 + 4, none⟩ (.slice none 0 0)) = X at HA2' ⊢
      have HA2 := HA2'
      clear HA2' hBE HA1 t0 t1 t2 t3 t4 z0 z1 z2 z3 z4 g2 f0 f1 f2 f3 f4 ff HA
      have hl2 : (its.take k ++ [badI]).length = k + 1 := by rw [List.length_append, List.length_take]; simp; omega
      by_cases hkn : k < l.length
      · have hknI : (k : Int) < (l.length : Int) := by omega
        have hlsk : ls.length = k := by omega
        obtain ⟨b1, o1, rfl, hc1⟩ := hl.out (by omega)
        obtain ⟨⟨⟨kd, tk, tm, bd, ts⟩, ta, tc⟩, hx⟩ : ∃ x, l[k]? = some x := ⟨_, List.getElem?_eq_getElem hkn⟩
        have HC0 := hide0 (hc1 k _ hx)
        have HX := hide0 hx
        clear hc1 hx
        obtain ⟨c0, c1, c2, c3, c4⟩ := HC0.out.1.below HA2.out.bel hw0
        simp only at c0 c1 c2 c3 c4
        have HA2d : Hid (AllAt b G l.length (some ⟨b1, o1, none⟩) cap l w0 X.drew tv cv ls ((its.take k ++ [badI]).take k)) := (HA2.out.below (Below.refl _ _).drew).cut (by omega) (by omega)
        have hlen3 : ((its.take k ++ [badI]).take k).length = ls.length := by rw [List.length_take]; omega
        have hONE : Calls Tryd.prog 11 #[.pointer (some ⟨b, 0, none⟩), .agg #[.int .i64 kd, .string tk, .int .i64 tm, .string bd, .slice ta ts.length tc]] X.drew fun e Y =>
            ∃ M tv' cv', e = .returned (.agg #[.int .i64 kd, .string tk, .int .i64 tm, .string bd, .slice (some ⟨M, 0, none⟩) ts.length (ts.length + 8)]) ∧ Y.cell? ⟨b, 2, none⟩ = some (.slice (some ⟨G, 0, none⟩) (l.length + 8) (l.length + 8)) ∧ CellsAt Y b1 (o1 + k * 5) ⟨⟨kd, tk, tm, bd, ts⟩, ta, tc⟩ ∧ Hid (EvRow Y G (l.length + 8) ((its.take k ++ [badI]).take k)) ∧
              Hid (AllAt b G l.length (some ⟨b1, o1, none⟩) cap l w0 (((((Y.setCell ⟨G, k * 5, none⟩ (.int .i64 kd)).setCell ⟨G, k * 5 + 1, none⟩ (.string tk)).setCell ⟨G, k * 5 + 2, none⟩ (.int .i64 tm)).setCell ⟨G, k * 5 + 3, none⟩ (.string bd)).setCell ⟨G, k * 5 + 4, none⟩ (.slice (some ⟨M, 0, none⟩) ts.length (ts.length + 8))) tv' cv' (ls ++ [(M, ts.length)]) ((its.take k ++ [badI]).take k ++ [⟨⟨kd, tk, tm, bd, ts⟩, some ⟨M, 0, none⟩, ts.length + 8⟩])) := by
          refine (one_any b tv cv _ _ _ ls.length (lentV ls) (lentN ls) kd tk tm bd ta tc ts X.drew HA2d.out.loan (HC0.out.2.tags.below HA2d.out.bel hw0) HC0.out.2.few (by omega)).mono ?_
          rintro e Y ⟨M, tv', cv', rfl, hM, hrow, hloan, htv, hcv, hfar⟩
          obtain ⟨hR, hF⟩ := HA2d.out.one (e := ⟨⟨kd, tk, tm, bd, ts⟩, ta, tc⟩) (by rw [hlsk]; exact HX.out) hM hrow hloan htv hcv hfar hlen3 (by omega)
          rw [hlsk] at hF
          have hbelY : Below b w0 Y := by
            have hb2 := HA2d.out.loan.lt
            refine HA2d.out.bel.trans (hfar.below (by omega) (fun q hq => ?_))
            simp only [List.mem_cons, List.mem_nil_iff, or_false, Option.some.injEq] at hq
            rcases hq with hq | hq | hq
            · omega
            · have := (HA2d.out.loan.tags.lt q hq.symm).1; omega
            · have := (HA2d.out.loan.counts.lt q hq.symm).1; omega
          exact ⟨M, tv', cv', rfl, (res_cells hloan.blk).2.2.1, HC0.out.1.below hbelY hw0, hR, hF⟩
        obtain ⟨f0, f1, f2, f3, f4, ff⟩ := res_cells HA2.out.loan.blk
        have hg1 : G ≠ b1 := by
          have h1 : b1 < w0.heap.size := World.block_lt_of_cell? w0 _ HC0.out.1.c0
          have h2 := HA2.out.gb
          omega
        clear HA2d
        go_wp2_with fail
        go_region_held (fun Z => Z.cell? ⟨b, 2, none⟩ = some (.slice (some ⟨G, 0, none⟩) (l.length + 8) (l.length + 8)) ∧ Z.cell? ⟨b1, o1 + k * 5, none⟩ = some (.int .i64 kd) ∧ Z.cell? ⟨b1, o1 + k * 5 + 1, none⟩ = some (.string tk) ∧ Z.cell? ⟨b1, o1 + k * 5 + 2, none⟩ = some (.int .i64 tm) ∧ Z.cell? ⟨b1, o1 + k * 5 + 3, none⟩ = some (.string bd) ∧ Z.cell? ⟨b1, o1 + k * 5 + 4, none⟩ = some (.slice ta ts.length tc)) (go_keep)
          (first
            | (go_at_call 11; refine hONE.mono ?_; rintro e w4 ⟨M, tv', cv', rfl, g2, ⟨p0, p1, p2, p3, p4⟩, HR, HF⟩
               simp only at p0 p1 p2 p3 p4
               obtain ⟨y0, t0, z0⟩ := HR.out.there (p := k * 5) (by omega)
               obtain ⟨y1, t1, z1⟩ := HR.out.there (p := k * 5 + 1) (by omega)
               obtain ⟨y2, t2, z2⟩ := HR.out.there (p := k * 5 + 2) (by omega)
               obtain ⟨y3, t3, z3⟩ := HR.out.there (p := k * 5 + 3) (by omega)
               obtain ⟨y4, t4, z4⟩ := HR.out.there (p := k * 5 + 4) (by omega)))
        all_goals
          go_wp2
          go_roundw
          case rel => exact ⟨k + 1, tv', cv', ls ++ [(M, ts.length)], _, by omega, by go_num, by rw [List.length_append, hlen3]; simp; omega, by rw [List.length_append]; simp; omega, HF⟩
          case measure => simp [intOf]; omega
      · have hknI : (l.length : Int) ≤ (k : Int) := by omega
        go_wp2
        go_roundw
        case rel => exact ⟨k + 1, tv, cv, ls, _, by omega, by go_num, hl2, by omega, HA2⟩
        case measure => simp [intOf]; omega
    · have hkI : (l.length : Int) + 8 ≤ (k : Int) := by omega
      go_wp2
      go_ret
      exact ⟨G, tv, cv, ls, its, rfl, by omega, by omega, HA.out⟩
end Go.Proofs.YtdjllnhahhjgmaaDoor
namespace Go.Proofs.YtdjllnhahhjgmaaDoor
open Go.RowKit Chron
theorem AllAt.done {b G n : Nat} {a : Option Addr} {cap : Nat} {l : List Item} {w0 wx : World} {tv cv : Value} {ls : List (Nat × Nat)} {its : List Item} (h : AllAt b G n a cap l w0 wx tv cv ls its) (hn : l.length = n) (hi : its.length = n + 8) (hls : ls.length = n) (hl : EvsAt w0 a l) :
    EvsAt wx (some ⟨G, 0, none⟩) (its.take n) ∧ (its.take n).length = n ∧ evs (its.take n) = evs l ∧ LentOk ls wx ∧ ∀ k, n ≤ k → k < n + 8 → CellsAt wx G (k * 5) badI := by
  have hok : ∀ k e, l[k]? = some e → ItemOk w0 e := fun k e he => by
    obtain ⟨_, _, _, hc⟩ := hl (by have := (List.getElem?_eq_some_iff.1 he).1; omega)
    exact (hc k e he).2
  have hlen : (its.take n).length = n := by rw [List.length_take]; omega
  have hat : ∀ k, k < n → ∃ M e, ls[k]? = some (M, e.ev.tags.length) ∧ l[k]? = some e ∧ its[k]? = some ⟨e.ev, some ⟨M, 0, none⟩, e.ev.tags.length + 8⟩ ∧ wx.heap[M]? = some (.cells (lent e.ev.tags 8).toArray 9 (0, 0)) := by
    intro k hk
    obtain ⟨⟨M, c⟩, hM⟩ : ∃ x, ls[k]? = some x := ⟨_, List.getElem?_eq_getElem (by omega)⟩
    obtain ⟨e, h1, h2, h3, h4, _⟩ := h.lists k M c hM
    subst h2
    exact ⟨M, e, hM, h1, h3, h4⟩
  refine ⟨fun _ => ⟨G, 0, rfl, fun k i hk => ?_⟩, hlen, ?_, fun i M c hM => ?_, fun k h1 h2 => h.row.at (h.bads k h1 (by omega))⟩
  · have hkn : k < n := by have := (List.getElem?_eq_some_iff.1 hk).1; omega
    rw [List.getElem?_take_of_lt hkn] at hk
    obtain ⟨M, e, _, he, hI, hr⟩ := hat k hkn
    rw [hI] at hk
    simp only [Option.some.injEq] at hk
    subst hk
    have ho := hok k e he
    exact ⟨by rw [Nat.zero_add]; exact h.row.at hI, lent_tags hr, ho.short, ho.few, ho.task, ho.body⟩
  · apply List.ext_getElem?
    intro k
    rcases Nat.lt_or_ge k n with hk | hk
    · obtain ⟨M, e, _, he, hI, _⟩ := hat k hk
      simp only [evs, List.getElem?_map, List.getElem?_take_of_lt hk, hI, he, Option.map_some]
    · rw [List.getElem?_eq_none (by simp [evs]; omega), List.getElem?_eq_none (by simp [evs]; omega)]
  · obtain ⟨e, h1, rfl, h3, hr, _⟩ := h.lists i M c hM
    refine ⟨(hok i e h1).few, fun q g1 g2 => ?_⟩
    have : (lent e.ev.tags 8)[q]? = some (.string badT) := by
      rw [lent, List.getElem?_append_right (by simpa using g1), List.getElem?_append_left (by simp; omega), List.getElem?_replicate, if_pos (by simp; omega)]
    simpa [World.cell?, hr] using this
theorem expB_nil : expB (evs []) = ([91, 93], 0) := by decide
set_option maxRecDepth 100000 in
set_option maxHeartbeats 2000000 in
theorem exports_any (a : Option Addr) (cap : Nat) (l : List Item) (w : World) (hl : Hid (EvsAt w a l)) (hn : l.length * 72 ≤ 140737488351232) (hL : Hid (LaidAt w)) :
    Calls Tryd.prog 3 #[.slice a l.length cap] w fun e w' => e = .returned (.bool true) ∧ Below w.heap.size w w' := by
  have hE0 := export_any none 0 [] w (fun h => by cases h) (by decide) hL
  rw [expB_nil] at hE0
  go_enter Tryd.func3, Tryd.ntmps3
  go_wp2_with fail
  refine Calls.mono hE0 ?_
  rintro e w1 ⟨rfl, hb1⟩
  clear hE0
  go_wp2_with fail
  have hs1 := hb1.size
  have HL1 : Hid (LoanAt w1.heap.size (.slice none 0 0) (.slice none 0 0) (.slice none 0 0) (.int .i64 0) (.slice none 0 0) 0 [] 0 [] (w1.alloc (.cells #[.slice none 0 0, .slice none 0 0, .slice none 0 0, .int .i64 0, .slice none 0 0] 30))) :=
    ⟨heap_alloc_new _ _, World.ownsRow_nil _ _ _ _, World.ownsRow_nil _ _ _ _, fun q hq => by cases hq⟩
  have HE1 := hide0 (hl.out.below hb1 (Nat.le_refl _))
  refine (all_any w1.heap.size a cap l w1 _ (Nat.le_refl _) ((Below.refl _ _).alloc (Nat.le_refl _) _) HL1 HE1 hn).mono ?_
  rintro e w2 ⟨G, tv, cv, ls, its, rfl, hi, hls, hA⟩
  obtain ⟨q1, q2, q3, q4, q5⟩ := hA.done rfl hi hls HE1.out
  have HQ1 := hide0 q1
  have HQ3 := hide0 q3
  have HQ4 := hide0 q4
  have HQ5 := hide0 q5
  have HA := hide0 hA
  have hb2 := hA.bel
  have hs2 := hb2.size
  have HW2 := hide0 (hb1.trans (hb2.mono hs1))
  have hX := export_any (some ⟨G, 0, none⟩) (l.length + 8) (its.take l.length) w2 HQ1 (by rw [q2]; exact hn) (hL.out.below HW2.out (Nat.le_refl _))
  rw [q2, q3] at hX
  clear q1 q3 q4 q5 hA hb1 HL1 HE1 hb2
  go_wp2_with fail
  refine hX.mono ?_
  rintro e w3 ⟨rfl, hb3⟩
  have hs3 := hb3.size
  have HW3 := hide0 (HW2.out.trans (hb3.mono (by omega)))
  clear hX
  go_wp2_with fail
  refine (exportRef_any a cap l w3 (hl.out.below HW3.out (Nat.le_refl _)) hn).mono ?_
  rintro e w4 ⟨rfl, hb4⟩
  have hb24 : Below w2.heap.size w2 w4 := hb3.trans (hb4.mono hs3)
  have HB24 := hide0 hb24
  have hs4 := hb4.size
  have HW4 := hide0 (HW3.out.trans (hb4.mono (by omega)))
  clear hb3 hb4 hb24
  go_wp2_with fail
  have hK := kept_any w1.heap.size G l.length tv cv a cap ls (its.take l.length) l w4 (HA.out.loan.kept HB24.out (Nat.le_refl _))
    (fun i M n hi => ⟨(HQ4.out i M n hi).1, fun q h1 h2 => by have := (HQ4.out i M n hi).2 q h1 h2; exact (HB24.out.cell (p := ⟨M, q, none⟩) (World.block_lt_of_cell? w2 _ this)).trans this⟩) (by omega) hn (HQ1.out.below HB24.out (Nat.le_refl _)) q2
    (fun k h1 h2 => (HQ5.out k h1 h2).below HB24.out (Nat.le_refl _)) (hl.out.below HW4.out (Nat.le_refl _)) rfl HQ3
  refine hK.mono ?_
  rintro e w5 ⟨rfl, hb5⟩
  have HW5 := hide0 (HW4.out.trans (hb5.mono (by omega)))
  clear hK hb5
  generalize expB (evs l) = x
  have h1 : ((⟨x.1.toArray⟩ : ByteArray).toList == (⟨x.1.toArray⟩ : ByteArray).toList) = true := by simp
  have h2 : (x.2 == x.2) = true := by simp
  go_wp2
  go_ret
  exact ⟨rfl, HW5.out⟩
end Go.Proofs.YtdjllnhahhjgmaaDoor
namespace Go.Proofs.YtdjllnhahhjgmaaDoor
open Go.ChangeShapes Go.WideShapes Go.ChangeAt Go.RowKit
theorem cellsEvent : Tryd.prog.cellsOf 39 = 5 := by kernel_rfl
theorem cellsInt : Tryd.prog.cellsOf 3 = 1 := by kernel_rfl
theorem cellsText : Tryd.prog.cellsOf 9 = 1 := by kernel_rfl
theorem cellsTexts : Tryd.prog.cellsOf 37 = 1 := by kernel_rfl
theorem bytesText : Tryd.prog.bytesOf 9 = 16 := by kernel_rfl
theorem array5 {α : Type} {cs : Array α} (h : cs.size = 5) : ∃ c0 c1 c2 c3 c4, cs = #[c0, c1, c2, c3, c4] := by
  obtain ⟨l⟩ := cs
  match l, h with
  | [c0, c1, c2, c3, c4], _ => exact ⟨c0, c1, c2, c3, c4, rfl⟩
theorem tags_open {H : Type} {enc : TypeId × Value → H} {W : World} {base : Nat} {held : Bool} {fuel : Nat} {cs : List Value} {x : DataW H × List MemPlace}
    (h : DataW.trod enc Tryd.prog W base (fun _ => true) held fuel 37 cs = some x) (hw : ∀ n ∈ x.1.weights Tryd.prog 37, n ≤ reachBytes) :
    ∃ (a : Option Addr) (cap : Nat) (ts : List ByteArray), cs = [.slice a ts.length cap] ∧ TagsAt W a ts ∧ Short ts ∧ ts.length * 16 ≤ 140737488351232 := by
  rcases open_strings Tryd.underlying37 Tryd.underlying9 cellsText h with ⟨hcs, _⟩ | ⟨a, len, cap, ss, hcs, _, hl, hm, hz, rfl, hcell, hsz⟩
  · exact ⟨none, 0, [], hcs, fun h0 => by simp at h0, fun i hi => by simp at hi, by simp⟩
  · have hz' : ss.length = cap := by simpa using hz
    have hlen : (ss.take len).length = len := by simp; omega
    refine ⟨some a, cap, ss.take len, by rw [hlen]; exact hcs, ?_, ?_, ?_⟩
    · intro h0
      rw [hlen] at h0
      obtain ⟨b, off, spot⟩ := a
      have hspot : spot = none := by simpa [Addr.add] using World.cell?_spot (hcell 0 (by omega))
      subst hspot
      have hc : ∀ i, i < ss.length → W.cell? ⟨b, off + i, none⟩ = some (.string (ss.getD i ByteArray.empty)) := fun i hi => by rw [← Go.WideShapes.add_plain]; exact hcell i hi
      refine ⟨b, off, rfl, fun i hi => ?_⟩
      rw [hlen] at hi
      rw [hc i (by omega), List.getElem?_take_of_lt hi, List.getD_eq_getElem?_getD]
    · intro i hi
      rw [hlen] at hi
      rw [List.getElem?_take_of_lt hi, List.getElem?_eq_getElem (by omega)]
      exact hsz _ (List.getElem_mem _)
    · have := hw ((ss.take len).length * 16 + (ss.drop len).length * 16) (by
        simp only [DataW.weights, Tryd.underlying37, strs, List.length_map, bytesText]
        apply List.mem_cons.2; left; omega)
      unfold reachBytes at this
      omega
theorem event_open {H : Type} {enc : TypeId × Value → H} {W : World} {base b0 : Nat} {held : Bool} {v : Value} {d : DataW H} {p : List MemPlace} (hval : Value.okWide Tryd.prog W .any b0 39 v)
    (h : DataW.Trod enc Tryd.prog W base (fun _ => true) held 39 v d p) (hw : ∀ n ∈ d.weights Tryd.prog 39, n ≤ reachBytes) :
    ∃ (k : Int) (t : ByteArray) (m : Int) (bd : ByteArray) (a : Option Addr) (cap : Nat) (ts : List ByteArray), v = .agg #[.int .i64 k, .string t, .int .i64 m, .string bd, .slice a ts.length cap] ∧ TagsAt W a ts ∧ Short ts ∧ ts.length * 16 ≤ 140737488351232 ∧ t.size ≤ maxLen ∧ bd.size ≤ maxLen := by
  obtain ⟨cs, rfl, hsz⟩ := okWide_struct Tryd.underlying39 hval
  obtain ⟨c0, c1, c2, c3, c4, rfl⟩ := array5 (hsz.trans cellsEvent)
  obtain ⟨fuel, hf⟩ := h
  obtain ⟨xs, n, _, hx, _, hlen, hfld⟩ := DataW.trod_struct Tryd.underlying39 hf
  match xs, hlen with
  | [y0, y1, y2, y3, y4], _ =>
    have h0 := hfld 0 _ rfl
    have h1 := hfld 1 _ rfl
    have h2 := hfld 2 _ rfl
    have h3 := hfld 3 _ rfl
    have h4 := hfld 4 _ rfl
    simp [Value.cells, cellsInt] at h0 h2
    simp [Value.cells, cellsText] at h1 h3
    simp [Value.cells, cellsTexts] at h4
    simp only [Prod.mk.injEq] at hx
    obtain ⟨rfl, _⟩ := hx
    obtain ⟨k, e0, _, _⟩ := DataW.trod_int Tryd.underlying3 h0
    obtain ⟨t, e1, _, ht⟩ := DataW.trod_string Tryd.underlying9 h1
    obtain ⟨m, e2, _, _⟩ := DataW.trod_int Tryd.underlying3 h2
    obtain ⟨bd, e3, _, hb⟩ := DataW.trod_string Tryd.underlying9 h3
    obtain ⟨a, cap, ts, e4, g1, g2, g3⟩ := tags_open h4 (fun n hn => hw n (by
      simp only [DataW.weights, Tryd.underlying39]
      exact DataW.weights_mem_each (j := 4) (d := y4.1) rfl rfl n hn))
    simp only [List.cons.injEq, and_true] at e0 e1 e2 e3 e4
    subst e0 e1 e2 e3 e4
    exact ⟨k, t, m, bd, a, cap, ts, rfl, g1, g2, g3, ht, hb⟩
end Go.Proofs.YtdjllnhahhjgmaaDoor
namespace Go.Proofs.YtdjllnhahhjgmaaDoor
open Go.ChangeShapes Go.WideShapes Go.ChangeAt Go.RowKit Chron
theorem bytesEvent : Tryd.prog.bytesOf 39 = 72 := by kernel_rfl
theorem weights_in {H : Type} {P : Program} {e : TypeId} : ∀ {l : List (DataW H)} {d : DataW H}, d ∈ l → ∀ n ∈ d.weights P e, n ∈ DataW.weightsAll P e l
  | x :: l, d, hd, n, hn => by
    simp only [DataW.weightsAll, List.mem_append]
    rcases List.mem_cons.1 hd with rfl | hd
    · exact .inl hn
    · exact .inr (weights_in hd n hn)
theorem event_cells {H : Type} {enc : TypeId × Value → H} {W : World} {base : Nat} {held : Bool} {fuel : Nat} {cs : List Value} {x : DataW H × List MemPlace} (hlen5 : cs.length = 5)
    (h : DataW.trod enc Tryd.prog W base (fun _ => true) held fuel 39 cs = some x) (hw : ∀ n ∈ x.1.weights Tryd.prog 39, n ≤ reachBytes) :
    ∃ i : Item, cs = [.int .i64 i.ev.kind, .string i.ev.task, .int .i64 i.ev.time, .string i.ev.body, .slice i.at' i.ev.tags.length i.cap] ∧ ItemOk W i := by
  match cs, hlen5 with
  | [c0, c1, c2, c3, c4], _ =>
    obtain ⟨xs, n, _, hx, _, hlen, hfld⟩ := DataW.trod_struct Tryd.underlying39 h
    match xs, hlen with
    | [y0, y1, y2, y3, y4], _ =>
      have h0 := hfld 0 _ rfl
      have h1 := hfld 1 _ rfl
      have h2 := hfld 2 _ rfl
      have h3 := hfld 3 _ rfl
      have h4 := hfld 4 _ rfl
      simp [cellsInt] at h0 h2
      simp [cellsText] at h1 h3
      simp [cellsTexts] at h4
      subst hx
      obtain ⟨k, e0, _, _⟩ := DataW.trod_int Tryd.underlying3 h0
      obtain ⟨t, e1, _, ht⟩ := DataW.trod_string Tryd.underlying9 h1
      obtain ⟨m, e2, _, _⟩ := DataW.trod_int Tryd.underlying3 h2
      obtain ⟨bd, e3, _, hb⟩ := DataW.trod_string Tryd.underlying9 h3
      obtain ⟨a, cap, ts, e4, g1, g2, g3⟩ := tags_open h4 (fun n hn => hw n (by
        simp only [DataW.weights, Tryd.underlying39]
        exact DataW.weights_mem_each (j := 4) (d := y4.1) rfl rfl n hn))
      simp only [List.cons.injEq, and_true] at e0 e1 e2 e3 e4
      subst e0 e1 e2 e3 e4
      exact ⟨⟨⟨k, t, m, bd, ts⟩, a, cap⟩, rfl, g1, g2, g3, ht, hb⟩
theorem events_open {H : Type} {enc : TypeId × Value → H} {W : World} {base b0 : Nat} {held : Bool} {v : Value} {d : DataW H} {p : List MemPlace} (hval : Value.okWide Tryd.prog W .any b0 22 v)
    (h : DataW.Trod enc Tryd.prog W base (fun _ => true) held 22 v d p) (hw : ∀ n ∈ d.weights Tryd.prog 22, n ≤ reachBytes) :
    ∃ (a : Option Addr) (cap : Nat) (l : List Item), v = .slice a l.length cap ∧ EvsAt W a l ∧ l.length * 72 ≤ 140737488351232 := by
  obtain ⟨a0, len0, cap0, rfl⟩ := okWide_slice Tryd.underlying22 hval
  obtain ⟨fuel, hf⟩ := h
  rcases Go.Deep.open_slice Tryd.underlying22 hf with ⟨hcs, _⟩ | ⟨a, len, cap, m, n, D, Pl, hcs, _, hl, hm, hmc, hx, hel⟩
  · simp [Value.cells] at hcs
    obtain ⟨rfl, rfl, rfl⟩ := hcs
    exact ⟨none, 0, [], rfl, fun h0 => by simp at h0, by simp⟩
  · simp [Value.cells] at hcs
    obtain ⟨rfl, rfl, rfl⟩ := hcs
    simp only [Prod.mk.injEq] at hx
    obtain ⟨rfl, _⟩ := hx
    simp only [if_true] at hmc
    subst hmc
    simp only [cellsEvent] at hel
    simp only [DataW.weights, Tryd.underlying22, bytesEvent, List.length_map, List.length_range] at hw
    have hit : ∀ i, i < len0 → ∃ it : Item, ∃ cs', W.cells? base (a.add (i * 5)) 5 = some cs' ∧ cs' = [.int .i64 it.ev.kind, .string it.ev.task, .int .i64 it.ev.time, .string it.ev.body, .slice it.at' it.ev.tags.length it.cap] ∧ ItemOk W it := by
      intro i hi
      obtain ⟨cs', hc, ht⟩ := hel i (by omega)
      obtain ⟨it, e, ho⟩ := event_cells (World.cells?_some hc).2.1 ht (fun k hk => hw k (List.mem_cons_of_mem _ (List.mem_append_left _ (weights_in (List.mem_map.2 ⟨i, List.mem_range.2 hi, rfl⟩) k hk))))
      exact ⟨it, cs', hc, e, ho⟩
    let l : List Item := (List.range len0).attach.map fun i => (hit i.1 (List.mem_range.1 i.2)).choose
    have hlen : l.length = len0 := by simp [l]
    have hget : ∀ k it, l[k]? = some it → ∃ cs', W.cells? base (a.add (k * 5)) 5 = some cs' ∧ cs' = [.int .i64 it.ev.kind, .string it.ev.task, .int .i64 it.ev.time, .string it.ev.body, .slice it.at' it.ev.tags.length it.cap] ∧ ItemOk W it := by
      intro k it hk
      have hkl : k < len0 := by have := (List.getElem?_eq_some_iff.1 hk).1; omega
      have e : l[k]? = some (hit k hkl).choose := by simp [l, hkl]
      rw [e] at hk
      rw [← Option.some.inj hk]
      exact (hit k hkl).choose_spec
    refine ⟨some a, m, l, by rw [hlen], fun h0 => ?_, ?_⟩
    · obtain ⟨b, off, spot⟩ := a
      obtain ⟨it0, h00⟩ : ∃ x, l[0]? = some x := ⟨_, List.getElem?_eq_getElem h0⟩
      obtain ⟨cs0, hc0, rfl, _⟩ := hget 0 it0 h00
      have hc00 := (World.cells?_some hc0).2.2 0 (by omega)
      have hspot : spot = none := by simpa [Addr.add] using World.cell?_spot hc00
      subst hspot
      refine ⟨b, off, rfl, fun k it hk => ?_⟩
      obtain ⟨cs', hc, rfl, ho⟩ := hget k it hk
      have hcc : ∀ i, i < 5 → W.cell? ⟨b, off + k * 5 + i, none⟩ = [Value.int .i64 it.ev.kind, .string it.ev.task, .int .i64 it.ev.time, .string it.ev.body, .slice it.at' it.ev.tags.length it.cap][i]? := fun i hi => by
        have := (World.cells?_some hc).2.2 i hi
        rw [Go.WideShapes.add_plain, Go.WideShapes.add_plain] at this
        exact this
      exact ⟨⟨hcc 0 (by omega), hcc 1 (by omega), hcc 2 (by omega), hcc 3 (by omega), hcc 4 (by omega)⟩, ho⟩
    · have := hw _ (List.mem_cons_self ..)
      unfold reachBytes at this
      omega
end Go.Proofs.YtdjllnhahhjgmaaDoor
