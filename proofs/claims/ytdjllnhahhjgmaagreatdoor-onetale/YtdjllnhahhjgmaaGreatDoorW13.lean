/- Walks and plain facts, in the order in which they lean on one another. -/
import Derived.Test.YtdjllnhahhjgmaaGreatDoorW12
import Derived.Test.YtdjllnhahhjgmaaGreatDoorW05
import Derived.Test.YtdjllnhahhjgmaaGreatDoorW03
import Derived.Test.YtdjllnhahhjgmaaGreatDoorW02
import Derived.Test.YtdjllnhahhjgmaaGreatDoorW04
namespace Go.Proofs.YtdjllnhahhjgmaaGreatDoor
open Go.RowKit Chron
end Go.Proofs.YtdjllnhahhjgmaaGreatDoor
namespace Go.Proofs.YtdjllnhahhjgmaaGreatDoor
open Go.RowKit Chron
theorem reps_at {no j : Nat} {x : Value} (h : j < no) : (reps no [x])[j]? = some x := by rw [reps_one]; simp [h]
theorem reps_five {no j : Nat} {mc : List Value} (hm : mc.length = 5) (h : j < no) {c : Nat} (hc : c < 5) : (reps no mc)[j * 5 + c]? = mc[c]? := by
  induction no generalizing j with
  | zero => omega
  | succ n ih =>
    have e : reps (n + 1) mc = mc ++ reps n mc := by simp [reps, List.replicate_succ]
    rw [e]
    cases j with
    | zero => rw [Nat.zero_mul, Nat.zero_add, List.getElem?_append_left (by omega)]
    | succ j =>
      rw [List.getElem?_append_right (by omega)]
      have : (j + 1) * 5 + c - mc.length = j * 5 + c := by omega
      rw [this]
      exact ih (by omega)
set_option maxRecDepth 100000 in
set_option maxHeartbeats 4000000 in
theorem whole2_any (b : Nat) (tv ev : Value) (xs ys : List Value) (w : World) (HB : Hid (Book2 b tv ev xs ys w)) (hx : xs.length ≤ 12000000) (hy : ys.length ≤ 12000000) :
    Calls Tryz.prog 10 #[.pointer (some ⟨b, 0, none⟩)] w fun e w' => e = .returned (.bool true) ∧ Below w.heap.size w w' := by
  obtain ⟨ta, tc, htv, htc, _, hT⟩ := row_at HB.out.tags
  subst htv
  obtain ⟨ea, ec, hev, hec, _, hE⟩ := row_at HB.out.evts
  subst hev
  have HT := hide0 hT
  have HEV := hide0 hE
  have hblt : b < w.heap.size := HB.out.lt
  clear hT hE
  go_enter Tryz.func10, Tryz.ntmps10
  go_wp2
  go_loopw [3] (fun i wx => ∃ k : Nat, k ≤ xs.length ∧ i = .int .i64 k ∧ Hid (Below w.heap.size w wx)) (fun i _ => xs.length - (intOf i).toNat)
  case atStart => exact ⟨0, Nat.zero_le _, rfl, Below.refl _ _⟩
  case round =>
    obtain ⟨k, hk, rfl, HW⟩ := hrel
    have HBk := hide0 (HB.out.below HW.out)
    obtain ⟨d0, d1, df⟩ := book_cells HBk.out.blk
    by_cases hlt : k < xs.length
    · obtain ⟨v, hv⟩ : ∃ v, xs[k]? = some v := ⟨xs[k], by simp [hlt]⟩
      obtain ⟨gt, rfl, c1w⟩ := HT.out k v hv
      have hglt := World.block_lt_of_cell? w _ c1w
      have c1 : wr.cell? ⟨gt, k, none⟩ = some v := (HW.out.cell (p := ⟨gt, k, none⟩) hglt).trans c1w
      obtain ⟨a, no, cap, rfl, hno, hnc, HC⟩ : ∃ a no cap, v = .slice a no cap ∧ no ≤ 7 ∧ no ≤ cap ∧ Hid (∀ j, j < no → ∃ g, a = some ⟨g, 0, none⟩ ∧ g < w.heap.size ∧ w.cell? ⟨g, j, none⟩ = some (.string (badB (k / 4)))) := by
        rcases HB.out.full k v hv with rfl | ⟨g, no, cap, ho, h2, h3⟩
        · exact ⟨none, 0, 0, rfl, Nat.zero_le _, Nat.le_refl _, fun j hj => by omega⟩
        · exact ⟨some ⟨g, 0, none⟩, no, cap, ho.val, ho.few, ho.room, fun j hj => ⟨g, rfl, ho.lt, ho.cells j _ (reps_at hj)⟩⟩
      have hki : (k : Int) < (xs.length : Int) := by omega
      have HC1 := hide0 c1w
      clear c1w hv
      go_wp2
      clear d0 d1 df c1 HBk
      go_loopw [4] (fun i wx => ∃ j : Nat, j ≤ no ∧ i = .int .i64 j ∧ Hid (Below w.heap.size w wx)) (fun i _ => no - (intOf i).toNat)
      case atStart => exact ⟨0, Nat.zero_le _, rfl, HW⟩
      case round =>
        obtain ⟨j, hj, rfl, HWj⟩ := hrel
        obtain ⟨d0, d1, df⟩ := book_cells (HB.out.below HWj.out).blk
        have c1 := (HWj.out.cell (p := ⟨gt, k, none⟩) hglt).trans HC1.out
        have hbs := HWj.out.size
        by_cases hjl : j < no
        · obtain ⟨g, rfl, hgw, c2w⟩ := HC.out j hjl
          have c2 := (HWj.out.cell (p := ⟨g, j, none⟩) hgw).trans c2w
          have hji : (j : Int) < (no : Int) := by omega
          have hbt : ∀ (n : Int) (w' : World), Hid (0 ≤ n ∧ n.toNat = k / 4) → Calls Tryz.prog 28 #[.int .i64 n] w' fun e w'' => e = .returned (.string (badB (k / 4))) ∧ Below w'.heap.size w' w'' := by
            intro n w' hn
            have := badTag_any n w' hn.out.1 (by show n.toNat < 26 ^ 13; rw [hn.out.2]; omega)
            rw [hn.out.2] at this
            exact this
          have hwk : Hid (0 ≤ IntKind.i64.wrap ((k : Int) / 4) ∧ (IntKind.i64.wrap ((k : Int) / 4)).toNat = k / 4) := by show _ ∧ _; rw [wrapI_small (by omega) (by omega)]; exact ⟨by omega, by omega⟩
          have hbb : ((badB (k / 4)).toList == (badB (k / 4)).toList) = true := by simp
          clear c2w
          generalize badB (k / 4) = m at c2 hbt hbb
          go_wp2_with fail
          go_region_held (fun w' => w'.cell? ⟨b, 0, none⟩ = some (.slice (some ⟨gt, 0, none⟩) xs.length tc) ∧ w'.cell? ⟨gt, k, none⟩ = some (.slice (some ⟨g, 0, none⟩) no cap) ∧ w'.cell? ⟨g, j, none⟩ = some (.string m)) (go_keep)
            (first | (go_at_call 28; refine (hbt _ _ hwk).mono ?_; rintro e w2 ⟨rfl, hb2⟩; have q0 := (hb2.cell (p := ⟨b, 0, none⟩) (Nat.lt_of_lt_of_le hblt hbs)).trans d0; have q1 := (hb2.cell (p := ⟨gt, k, none⟩) (Nat.lt_of_lt_of_le hglt hbs)).trans c1; have q2 := (hb2.cell (p := ⟨g, j, none⟩) (Nat.lt_of_lt_of_le hgw hbs)).trans c2))
          all_goals
            have HW2 := hide0 (HWj.out.drew.trans (hb2.mono hbs))
            go_wp2
            go_roundw
            case rel => exact ⟨j + 1, by omega, by go_num, HW2⟩
            case measure => simp [intOf]; omega
        · have hji : (no : Int) ≤ (j : Int) := by omega
          go_wp2
          go_roundw
          case rel => exact ⟨k + 1, by omega, by go_num, HWj⟩
          case measure => simp [intOf]; omega
    · have hki : (xs.length : Int) ≤ (k : Int) := by omega
      go_wp2
      clear d0 d1 df HBk
      go_loopw [5] (fun i wx => ∃ k : Nat, k ≤ ys.length ∧ i = .int .i64 k ∧ Hid (Below w.heap.size w wx)) (fun i _ => ys.length - (intOf i).toNat)
      case atStart => exact ⟨0, Nat.zero_le _, rfl, HW⟩
      case round =>
        obtain ⟨p, hp, rfl, HWp⟩ := hrel
        obtain ⟨d0, d1, df⟩ := book_cells (HB.out.below HWp.out).blk
        by_cases hlt : p < ys.length
        · obtain ⟨v, hv⟩ : ∃ v, ys[p]? = some v := ⟨ys[p], by simp [hlt]⟩
          obtain ⟨gt, rfl, c1w⟩ := HEV.out p v hv
          have hglt := World.block_lt_of_cell? w _ c1w
          have c1 : wr.cell? ⟨gt, p, none⟩ = some v := (HWp.out.cell (p := ⟨gt, p, none⟩) hglt).trans c1w
          obtain ⟨a, no, cap, rfl, hno, hnc, HC⟩ : ∃ a no cap, v = .slice a no cap ∧ no ≤ 203 ∧ no ≤ cap ∧ Hid (∀ j, j < no → ∃ g, a = some ⟨g, 0, none⟩ ∧ g < w.heap.size ∧ ∀ c, c < 5 → w.cell? ⟨g, j * 5 + c, none⟩ = (badV (p / 4))[c]?) := by
            rcases HB.out.fullE p v hv with rfl | ⟨g, no, cap, ho, h2, h3⟩
            · exact ⟨none, 0, 0, rfl, Nat.zero_le _, Nat.le_refl _, fun j hj => by omega⟩
            · refine ⟨some ⟨g, 0, none⟩, no, cap, ho.val, ho.few, ho.room, fun j hj => ⟨g, rfl, ho.lt, fun c hc => ?_⟩⟩
              have h5 := reps_five (mc := badV (p / 4)) rfl hj hc
              obtain ⟨u, hu⟩ : ∃ u, (badV (p / 4))[c]? = some u := ⟨_, List.getElem?_eq_getElem (show c < (badV (p / 4)).length from hc)⟩
              rw [hu] at h5 ⊢
              exact ho.cells _ _ h5
          have hki2 : (p : Int) < (ys.length : Int) := by omega
          have HC1 := hide0 c1w
          clear c1w hv
          go_wp2
          clear d0 d1 df c1
          go_loopw [6] (fun i wx => ∃ j : Nat, j ≤ no ∧ i = .int .i64 j ∧ Hid (Below w.heap.size w wx)) (fun i _ => no - (intOf i).toNat)
          case atStart => exact ⟨0, Nat.zero_le _, rfl, HWp⟩
          case round =>
            obtain ⟨j, hj, rfl, HWj⟩ := hrel
            obtain ⟨d0, d1, df⟩ := book_cells (HB.out.below HWj.out).blk
            have c1 := (HWj.out.cell (p := ⟨gt, p, none⟩) hglt).trans HC1.out
            have hbs := HWj.out.size
            by_cases hjl : j < no
            · obtain ⟨g, rfl, hgw, c2w⟩ := HC.out j hjl
              have hji : (j : Int) < (no : Int) := by omega
              obtain ⟨z, HZ, hz⟩ : ∃ z : Int, Hid (z = -1000 - ((p / 4 : Nat) : Int)) ∧ badV (p / 4) = [.int .i64 z, .string ⟨#[]⟩, .int .i64 0, .string callerB, .slice none 0 0] := ⟨_, rfl, rfl⟩
              have hcells : ∀ X, Below w.heap.size w X → X.cell? ⟨b, 1, none⟩ = some (.slice (some ⟨gt, 0, none⟩) ys.length ec) ∧ X.cell? ⟨gt, p, none⟩ = some (.slice (some ⟨g, 0, none⟩) no cap) ∧ X.cell? ⟨g, j * 5, none⟩ = some (.int .i64 z) ∧ X.cell? ⟨g, j * 5 + 1, none⟩ = some (.string ⟨#[]⟩) ∧ X.cell? ⟨g, j * 5 + 2, none⟩ = some (.int .i64 0) ∧ X.cell? ⟨g, j * 5 + 3, none⟩ = some (.string callerB) ∧ X.cell? ⟨g, j * 5 + 4, none⟩ = some (.slice none 0 0) := by
                intro X hX
                have e1 := (book_cells (HB.out.below hX).blk).2.1
                have ce : ∀ c u, c < 5 → (badV (p / 4))[c]? = some u → X.cell? ⟨g, j * 5 + c, none⟩ = some u := fun c u hc hu => (hX.cell (p := ⟨g, j * 5 + c, none⟩) hgw).trans ((c2w c hc).trans hu)
                refine ⟨e1, (hX.cell (p := ⟨gt, p, none⟩) hglt).trans HC1.out, ce 0 _ (by decide) (by rw [hz]; rfl), ce 1 _ (by decide) (by rw [hz]; rfl), ce 2 _ (by decide) (by rw [hz]; rfl), ce 3 _ (by decide) (by rw [hz]; rfl), ce 4 _ (by decide) (by rw [hz]; rfl)⟩
              have hBE : ∀ (n : Int) (X : World), Hid (n = ((p / 4 : Nat) : Int)) → Hid (Below w.heap.size w X) → Calls Tryz.prog 27 #[.int .i64 n] X fun e X' => e = .returned (.agg #[.int .i64 z, .string ⟨#[]⟩, .int .i64 0, .string callerB, .slice none 0 0]) ∧ Hid (Below w.heap.size w X') ∧ X'.cell? ⟨b, 1, none⟩ = some (.slice (some ⟨gt, 0, none⟩) ys.length ec) ∧ X'.cell? ⟨gt, p, none⟩ = some (.slice (some ⟨g, 0, none⟩) no cap) ∧ X'.cell? ⟨g, j * 5, none⟩ = some (.int .i64 z) ∧ X'.cell? ⟨g, j * 5 + 1, none⟩ = some (.string ⟨#[]⟩) ∧ X'.cell? ⟨g, j * 5 + 2, none⟩ = some (.int .i64 0) ∧ X'.cell? ⟨g, j * 5 + 3, none⟩ = some (.string callerB) ∧ X'.cell? ⟨g, j * 5 + 4, none⟩ = some (.slice none 0 0) := by
                intro n X hn hX
                refine (badEvent_any n (p / 4) X hn.out (by omega)).mono ?_
                rintro e X' ⟨rfl, hb⟩
                have h2 := hX.out.trans (hb.mono hX.out.size)
                exact ⟨by rw [hz], h2, hcells _ h2⟩
              have hSM : ∀ X, Hid (Below w.heap.size w X) → Calls Tryz.prog 23 #[.agg #[.int .i64 z, .string ⟨#[]⟩, .int .i64 0, .string callerB, .slice none 0 0], .agg #[.int .i64 z, .string ⟨#[]⟩, .int .i64 0, .string callerB, .slice none 0 0]] X fun e X' => e = .returned (.bool true) ∧ Hid (Below w.heap.size w X') ∧ X'.cell? ⟨b, 1, none⟩ = some (.slice (some ⟨gt, 0, none⟩) ys.length ec) ∧ X'.cell? ⟨gt, p, none⟩ = some (.slice (some ⟨g, 0, none⟩) no cap) ∧ X'.cell? ⟨g, j * 5, none⟩ = some (.int .i64 z) ∧ X'.cell? ⟨g, j * 5 + 1, none⟩ = some (.string ⟨#[]⟩) ∧ X'.cell? ⟨g, j * 5 + 2, none⟩ = some (.int .i64 0) ∧ X'.cell? ⟨g, j * 5 + 3, none⟩ = some (.string callerB) ∧ X'.cell? ⟨g, j * 5 + 4, none⟩ = some (.slice none 0 0) := by
                intro X hX
                have hS := same_law ⟨z, ⟨#[]⟩, 0, callerB, []⟩ ⟨z, ⟨#[]⟩, 0, callerB, []⟩ none none 0 0 X (fun h => by cases h) (fun h => by cases h) (Nat.zero_le _) (Nat.zero_le _)
                rw [sameEv_iff.2 rfl] at hS
                refine Calls.mono hS ?_
                rintro e X' ⟨rfl, hb⟩
                have h2 := hX.out.trans (hb.mono hX.out.size)
                exact ⟨rfl, h2, hcells _ h2⟩
              have hwk : Hid (IntKind.i64.wrap ((p : Int) / 4) = ((p / 4 : Nat) : Int)) := by show _ = _; rw [wrapI_small (by omega) (by omega)]; omega
              have HWd : Hid (Below w.heap.size w wr.drew) := HWj.out.drew
              obtain ⟨_, _, c20, c21, c22, c23, c24⟩ := hcells wr HWj.out
              clear hcells c2w hz
              go_wp2_with fail
              go_region_held (fun X => X.cell? ⟨b, 1, none⟩ = some (.slice (some ⟨gt, 0, none⟩) ys.length ec) ∧ X.cell? ⟨gt, p, none⟩ = some (.slice (some ⟨g, 0, none⟩) no cap) ∧ X.cell? ⟨g, j * 5, none⟩ = some (.int .i64 z) ∧ X.cell? ⟨g, j * 5 + 1, none⟩ = some (.string ⟨#[]⟩) ∧ X.cell? ⟨g, j * 5 + 2, none⟩ = some (.int .i64 0) ∧ X.cell? ⟨g, j * 5 + 3, none⟩ = some (.string callerB) ∧ X.cell? ⟨g, j * 5 + 4, none⟩ = some (.slice none 0 0)) (go_keep)
                (first
                  | (go_at_call 27; refine (hBE _ _ hwk (by first | assumption | exact HWd)).mono ?_; rintro e w1 ⟨rfl, HW1, q0, q1, q2, q3, q4, q5, q6⟩)
                  | (go_at_call 23; refine (hSM _ (by first | assumption | exact HWd)).mono ?_; rintro e w2 ⟨rfl, HW2, r0, r1, r2, r3, r4, r5, r6⟩))
              all_goals
                clear q0 q1 q2 q3 q4 q5 q6 r0 r1 r2 r3 r4 r5 r6 c20 c21 c22 c23 c24 d0 d1 df c1
                go_wp2
                go_roundw
                case rel => exact ⟨j + 1, by omega, by go_num, HW2⟩
                case measure => simp [intOf]; omega
            · have hji : (no : Int) ≤ (j : Int) := by omega
              go_wp2
              go_roundw
              case rel => exact ⟨p + 1, by omega, by go_num, HWj⟩
              case measure => simp [intOf]; omega
        · have hpi : (ys.length : Int) ≤ (p : Int) := by omega
          go_wp2
          go_ret
          exact ⟨rfl, HWp.out⟩
end Go.Proofs.YtdjllnhahhjgmaaGreatDoor
namespace Go.Proofs.YtdjllnhahhjgmaaGreatDoor
open Go.RowKit Chron
set_option maxRecDepth 100000 in
set_option maxHeartbeats 1000000 in
theorem whole_any (b : Nat) (tv : Value) (xs : List Value) (B : Nat) (w : World) (HB0 : Hid (BookAt b tv xs B w)) (hx : xs.length ≤ 12000000) :
    Calls Tryz.prog 10 #[.pointer (some ⟨b, 0, none⟩)] w fun e w' => e = .returned (.bool true) ∧ Below w.heap.size w w' := by
  have HB := hide0 (HB0.out.grow HB0.out.size (Nat.le_refl _))
  obtain ⟨ta, tc, htv, htc, _, hT⟩ := row_at HB.out.tags
  subst htv
  have HT := hide0 hT
  clear hT HB0
  go_enter Tryz.func10, Tryz.ntmps10
  go_wp2
  go_loopw [3] (fun i wx => ∃ k : Nat, k ≤ xs.length ∧ i = .int .i64 k ∧ Hid (Below w.heap.size w wx)) (fun i _ => xs.length - (intOf i).toNat)
  case atStart => exact ⟨0, Nat.zero_le _, rfl, Below.refl _ _⟩
  case round =>
    obtain ⟨k, hk, rfl, HW⟩ := hrel
    have HBk := hide0 (HB.out.keep HW.out)
    obtain ⟨d0, d1, df⟩ := book_cells HBk.out.blk
    by_cases hlt : k < xs.length
    · obtain ⟨v, hv⟩ : ∃ v, xs[k]? = some v := ⟨xs[k], by simp [hlt]⟩
      obtain ⟨gt, rfl, c1w⟩ := HT.out k v hv
      have hglt := World.block_lt_of_cell? w _ c1w
      have c1 : wr.cell? ⟨gt, k, none⟩ = some v := (HW.out.cell (p := ⟨gt, k, none⟩) hglt).trans c1w
      have HE := hide0 (HBk.out.full k v hv)
      obtain ⟨a, no, cap, rfl, hno, hnc, HC⟩ : ∃ a no cap, v = .slice a no cap ∧ no ≤ 7 ∧ no ≤ cap ∧ Hid (∀ j, j < no → ∃ g, a = some ⟨g, 0, none⟩ ∧ g < w.heap.size ∧ w.cell? ⟨g, j, none⟩ = some (.string (badB (k / 4)))) := by
        rcases HB.out.full k v hv with rfl | ⟨g, no, cap, ho, h2, h3⟩
        · exact ⟨none, 0, 0, rfl, Nat.zero_le _, Nat.le_refl _, fun j hj => by omega⟩
        · exact ⟨some ⟨g, 0, none⟩, no, cap, ho.val, ho.few, ho.room, fun j hj => ⟨g, rfl, h3, ho.cells j hj⟩⟩
      have hki : (k : Int) < (xs.length : Int) := by omega
      have HC1 := hide0 c1w
      clear HE c1w hv
      go_wp2
      clear d0 d1 df c1 HBk
      go_loopw [4] (fun i wx => ∃ j : Nat, j ≤ no ∧ i = .int .i64 j ∧ Hid (Below w.heap.size w wx)) (fun i _ => no - (intOf i).toNat)
      case atStart => exact ⟨0, Nat.zero_le _, rfl, HW⟩
      case round =>
        obtain ⟨j, hj, rfl, HWj⟩ := hrel
        obtain ⟨d0, d1, df⟩ := book_cells (HB.out.keep HWj.out).blk
        have c1 := (HWj.out.cell (p := ⟨gt, k, none⟩) hglt).trans HC1.out
        have hbs := HWj.out.size
        by_cases hjl : j < no
        · obtain ⟨g, rfl, hgw, c2w⟩ := HC.out j hjl
          have c2 := (HWj.out.cell (p := ⟨g, j, none⟩) hgw).trans c2w
          have hji : (j : Int) < (no : Int) := by omega
          have hblt : b < w.heap.size := HB.out.lt
          have hbt : ∀ (n : Int) (w' : World), Hid (0 ≤ n ∧ n.toNat = k / 4) → Calls Tryz.prog 28 #[.int .i64 n] w' fun e w'' => e = .returned (.string (badB (k / 4))) ∧ Below w'.heap.size w' w'' := by
            intro n w' hn
            have := badTag_any n w' hn.out.1 (by show n.toNat < 26 ^ 13; rw [hn.out.2]; omega)
            rw [hn.out.2] at this
            exact this
          have hwk : Hid (0 ≤ IntKind.i64.wrap ((k : Int) / 4) ∧ (IntKind.i64.wrap ((k : Int) / 4)).toNat = k / 4) := by show _ ∧ _; rw [wrapI_small (by omega) (by omega)]; exact ⟨by omega, by omega⟩
          have hbb : ((badB (k / 4)).toList == (badB (k / 4)).toList) = true := by simp
          clear c2w
          generalize badB (k / 4) = m at c2 hbt hbb
          go_wp2_with fail
          go_region_held (fun w' => w'.cell? ⟨b, 0, none⟩ = some (.slice (some ⟨gt, 0, none⟩) xs.length tc) ∧ w'.cell? ⟨gt, k, none⟩ = some (.slice (some ⟨g, 0, none⟩) no cap) ∧ w'.cell? ⟨g, j, none⟩ = some (.string m)) (go_keep)
            (first | (go_at_call 28; refine (hbt _ _ hwk).mono ?_; rintro e w2 ⟨rfl, hb2⟩; have q0 := (hb2.cell (p := ⟨b, 0, none⟩) (Nat.lt_of_lt_of_le hblt hbs)).trans d0; have q1 := (hb2.cell (p := ⟨gt, k, none⟩) (Nat.lt_of_lt_of_le hglt hbs)).trans c1; have q2 := (hb2.cell (p := ⟨g, j, none⟩) (Nat.lt_of_lt_of_le hgw hbs)).trans c2))
          all_goals
            have HW2 := hide0 (HWj.out.drew.trans (hb2.mono hbs))
            go_wp2
            go_roundw
            case rel => exact ⟨j + 1, by omega, by go_num, HW2⟩
            case measure => simp [intOf]; omega
        · have hji : (no : Int) ≤ (j : Int) := by omega
          go_wp2
          go_roundw
          case rel => exact ⟨k + 1, by omega, by go_num, HWj⟩
          case measure => simp [intOf]; omega
    · have hki : (xs.length : Int) ≤ (k : Int) := by omega
      go_wp2
      go_loopw [5] (fun i wx => i = .int .i64 0 ∧ Hid (Below w.heap.size w wx)) (fun _ _ => 0)
      case atStart => exact ⟨rfl, HW⟩
      case round =>
        obtain ⟨rfl, HWj⟩ := hrel
        clear d0 d1 df
        obtain ⟨d0, d1, df⟩ := book_cells (HB.out.keep HWj.out).blk
        go_wp2
        go_ret
        exact ⟨rfl, HWj.out⟩
end Go.Proofs.YtdjllnhahhjgmaaGreatDoor
namespace Chron
open Go Go.RowKit
def nAt (r : List UInt8) : Nat × Option (List UInt8) := match readNum r with | none => (0, none) | some (n, q) => (n, some q)
def tAt (r : List UInt8) : List UInt8 × Option (List UInt8) := match readTx r with | none => ([], none) | some (t, q) => (t, some q)
def gstep (e : Ev) (c : UInt8) (r : List UInt8) : Ev × Option (List UInt8) :=
  if c = 1 then ({ e with kind := (nAt r).1 }, (nAt r).2)
  else if c = 3 then ({ e with time := (nAt r).1 }, (nAt r).2)
  else if c = 2 then ({ e with task := ⟨(tAt r).1.toArray⟩ }, (tAt r).2)
  else if c = 4 then ({ e with body := ⟨(tAt r).1.toArray⟩ }, (tAt r).2)
  else if c = 5 then ({ e with tags := e.tags ++ [⟨(tAt r).1.toArray⟩] }, (tAt r).2)
  else (e, (tAt r).2)
def guessF : Nat → Ev → List UInt8 → Ev
  | 0, e, _ => e
  | _ + 1, e, [] => e
  | f + 1, e, c :: r => match gstep e c r with
    | (e', none) => e'
    | (e', some q) => guessF f e' q
theorem nAt_len {r q : List UInt8} (h : (nAt r).2 = some q) : q.length ≤ r.length := by
  unfold nAt at h
  rcases hr : readNum r with _ | ⟨n, x⟩
  · rw [hr] at h; cases h
  · rw [hr] at h
    simp only [Option.some.injEq] at h
    subst h; exact readNum_len hr
theorem tAt_len {r q : List UInt8} (h : (tAt r).2 = some q) : q.length ≤ r.length := by
  unfold tAt at h
  rcases hr : readTx r with _ | ⟨n, x⟩
  · rw [hr] at h; cases h
  · rw [hr] at h
    simp only [Option.some.injEq] at h
    subst h; have := readTx_len hr; omega
theorem gstep_len {e : Ev} {c : UInt8} {r q : List UInt8} (h : (gstep e c r).2 = some q) : q.length ≤ r.length := by
  unfold gstep at h
  split at h
  · exact nAt_len h
  · split at h
    · exact nAt_len h
    · split at h
      · exact tAt_len h
      · split at h
        · exact tAt_len h
        · split at h <;> exact tAt_len h
theorem guessF_fuel : ∀ (f : Nat) (e : Ev) (s : List UInt8), s.length ≤ f → guessF f e s = guessF s.length e s
  | 0, e, s, h => by have : s = [] := List.eq_nil_of_length_eq_zero (by omega); subst this; rfl
  | f + 1, e, [], _ => rfl
  | f + 1, e, c :: r, h => by
    rw [List.length_cons, guessF, guessF]
    rcases hg : gstep e c r with ⟨e', _ | q⟩
    · rfl
    · have hq := gstep_len (e := e) (c := c) (r := r) (q := q) (by rw [hg])
      simp only [List.length_cons] at h
      simp only
      rw [guessF_fuel f e' q (by omega), guessF_fuel r.length e' q hq]
def guessG (e : Ev) (s : List UInt8) : Ev := guessF s.length e s
theorem guessG_nil (e : Ev) : guessG e [] = e := rfl
theorem guessG_stop {e e' : Ev} {c : UInt8} {r : List UInt8} (h : gstep e c r = (e', none)) : guessG e (c :: r) = e' := by
  rw [guessG, List.length_cons, guessF, h]
theorem guessG_next {e e' : Ev} {c : UInt8} {r q : List UInt8} (h : gstep e c r = (e', some q)) : guessG e (c :: r) = guessG e' q := by
  have hq := gstep_len (e := e) (c := c) (r := r) (q := q) (by rw [h])
  rw [guessG, List.length_cons, guessF, h]
  exact guessF_fuel _ _ _ hq
def bump (v : Int) (e : Ev) : Ev := if v = 2 ∧ e.kind < 9 then { e with kind := e.kind + 1 } else e
def guessB (v : Int) (s : List UInt8) : Ev := bump v (guessG zeroEv s)
theorem nAt_of {n : Nat} (hn : n < 128 ^ 9) (r : List UInt8) : nAt (num n ++ r) = (n, some r) := by rw [nAt, readNum_of hn]
theorem tAt_of {t : List UInt8} (ht : t.length ≤ 60) (r : List UInt8) : tAt (text t ++ r) = (t, some r) := by rw [tAt, readTx_of ht]
theorem guess_kind {e : Ev} {n : Nat} (hn : n < 128 ^ 9) (r : List UInt8) : guessG e (num 1 ++ num n ++ r) = guessG { e with kind := n } r := by
  rw [List.append_assoc]
  refine guessG_next (c := 1) (r := num n ++ r) ?_
  rw [gstep, if_pos rfl]
  rw [nAt_of hn]
theorem guess_time {e : Ev} {n : Nat} (hn : n < 128 ^ 9) (r : List UInt8) : guessG e (num 3 ++ num n ++ r) = guessG { e with time := n } r := by
  rw [List.append_assoc]
  refine guessG_next (c := 3) (r := num n ++ r) ?_
  rw [gstep, if_neg (by decide), if_pos rfl]
  rw [nAt_of hn]
theorem guess_task {e : Ev} {t : ByteArray} (ht : t.size ≤ 60) (r : List UInt8) : guessG e (num 2 ++ text t.data.toList ++ r) = guessG { e with task := t } r := by
  rw [List.append_assoc]
  refine guessG_next (c := 2) (r := text t.data.toList ++ r) ?_
  rw [gstep, if_neg (by decide), if_neg (by decide), if_pos rfl]
  rw [tAt_of (by simpa using ht)]
theorem guess_body {e : Ev} {t : ByteArray} (ht : t.size ≤ 60) (r : List UInt8) : guessG e (num 4 ++ text t.data.toList ++ r) = guessG { e with body := t } r := by
  rw [List.append_assoc]
  refine guessG_next (c := 4) (r := text t.data.toList ++ r) ?_
  rw [gstep, if_neg (by decide), if_neg (by decide), if_neg (by decide), if_pos rfl]
  rw [tAt_of (by simpa using ht)]
theorem guess_tag {e : Ev} {t : ByteArray} (ht : t.size ≤ 60) (r : List UInt8) : guessG e (tagPart t ++ r) = guessG { e with tags := e.tags ++ [t] } r := by
  rw [tagPart, List.append_assoc]
  refine guessG_next (c := 5) (r := text t.data.toList ++ r) ?_
  rw [gstep, if_neg (by decide), if_neg (by decide), if_neg (by decide), if_neg (by decide), if_pos rfl]
  rw [tAt_of (by simpa using ht)]
theorem guess_tags : ∀ (ts : List ByteArray) (e : Ev), Lines ts → guessG e (tagParts ts) = { e with tags := e.tags ++ ts }
  | [], e, _ => by simp [tagParts, guessG_nil]
  | t :: ts, e, h => by
    have ht := h t (by simp)
    rw [show tagParts (t :: ts) = tagPart t ++ tagParts ts from rfl, guess_tag ht, guess_tags ts _ (fun x hx => h x (by simp [hx]))]
    simp
theorem guess_fields {v : Int} {e : Ev} (hv : v = 2 ∨ v = 3) (hk : Known e) : guessB v (fieldsB v e) = e := by
  obtain ⟨k, t, m, b, ts⟩ := e
  obtain ⟨h1, h4, htk, _, ht0, ht1, hbd, hfew, hlines⟩ := hk
  simp only at h1 h4 htk ht0 ht1 hbd hfew hlines
  have hsb := shift_bd v
  have hj : (k - shift v).toNat < 128 ^ 9 := by have : (k - shift v).toNat ≤ 4 := by omega
                                                exact Nat.lt_of_le_of_lt this (by decide)
  have hG : guessG zeroEv (fieldsB v ⟨k, t, m, b, ts⟩) = ⟨k - shift v, t, m, b, ts⟩ := by
    rw [fieldsB, front]
    simp only [List.append_assoc]
    rw [← List.append_assoc (num 1) (num _), guess_kind hj, ← List.append_assoc (num 2) (text _), guess_task htk]
    have hT : ∀ e' : Ev, e'.time = 0 → guessG e' (timePart m ++ (bodyPart b ++ tagParts ts)) = guessG { e' with time := m } (bodyPart b ++ tagParts ts) := by
      intro e' he
      unfold timePart
      split
      · rename_i hm; obtain ⟨a1, a2, a3, a4, a5⟩ := e'; simp only at he; subst he; subst hm; rfl
      · rw [guess_time (time_small ht1)]
        congr 1
        simp only [Ev.mk.injEq, true_and, and_true]; omega
    have hB : ∀ e' : Ev, e'.body = ⟨#[]⟩ → guessG e' (bodyPart b ++ tagParts ts) = guessG { e' with body := b } (tagParts ts) := by
      intro e' he
      unfold bodyPart
      split
      · rename_i hm
        have hb0 : b = ⟨#[]⟩ := by apply bytes_inj; rw [← ByteArray.toList_eq, hm]
        obtain ⟨a1, a2, a3, a4, a5⟩ := e'; simp only at he; subst he; subst hb0; rfl
      · rw [guess_body hbd]
    rw [hT _ rfl, hB _ rfl, guess_tags ts _ hlines]
    simp only [zeroEv, List.nil_append, Ev.mk.injEq, and_true]
    omega
  rw [guessB, hG, bump]
  rcases hv with rfl | rfl
  · rw [if_pos ⟨rfl, by rw [shift_two rfl]; show k - 1 < 9; omega⟩, shift_two rfl]
    simp
  · rw [if_neg (by omega), shift_not (by omega)]
    simp
/- the answer that is read off the guess -/
def refF (v : Int) (s : List UInt8) : Ev × Int := if (encB v (guessB v s)).2 ≠ 0 ∨ (encB v (guessB v s)).1 ≠ s then (zeroEv, 3) else (guessB v s, 0)
theorem refF_dec {v : Int} (hv : v = 2 ∨ v = 3) (s : List UInt8) : refF v s = decB v s := by
  have hver : isVer v = true := by rcases hv with rfl | rfl <;> rfl
  have hv1 : ¬ v = 1 := by omega
  have hf : ∀ e, goesB v e = true → encB v e = (fieldsB v e, 0) := fun e he => by rw [encB, if_neg (by simp [hver]), if_neg (by simp [he]), if_neg hv1]
  rw [decB, if_neg (by simp [hver]), rdB, if_neg hv1]
  by_cases h : (encB v (guessB v s)).2 ≠ 0 ∨ (encB v (guessB v s)).1 ≠ s
  · rw [refF, if_pos h, if_pos]
    simp only [okOf, Bool.and_eq_false_iff, decide_eq_false_iff_not, beq_eq_false_iff_ne]
    by_cases hq : (encB v (rdFields v s)).2 = 0 ∧ (encB v (rdFields v s)).1 = s
    · exfalso
      have hg := (enc_ok hq.1).2
      have e1 := hf _ hg
      have e2 : fieldsB v (rdFields v s) = s := by have := hq.2; rw [e1] at this; exact this
      have e3 : guessB v s = rdFields v s := by
        have := guess_fields hv (is_known (goes_is hg))
        rwa [e2] at this
      rw [e3] at h
      rcases h with h | h
      · exact h hq.1
      · exact h hq.2
    · by_cases h1 : (encB v (rdFields v s)).2 = 0
      · exact .inr (fun e => hq ⟨h1, e⟩)
      · exact .inl h1
  · have h1 : (encB v (guessB v s)).2 = 0 := Classical.byContradiction fun e => h (.inl e)
    have h2 : (encB v (guessB v s)).1 = s := Classical.byContradiction fun e => h (.inr e)
    have hg := (enc_ok h1).2
    have e1 := hf _ hg
    have e2 : fieldsB v (guessB v s) = s := by have := h2; rw [e1] at this; exact this
    have e3 : rdFields v s = guessB v s := by
      have := rdFields_of (v := v) (is_known (goes_is hg))
      rwa [e2] at this
    rw [refF, if_neg h, if_neg, e3]
    rw [okOf, e3, h1, h2]; simp
/- the first version: what is read of bytes that begin with a letter -/
def dashE (c : UInt8) (b : List UInt8) : Ev := ⟨letterKind c, ⟨#[45]⟩, 0, ⟨b.toArray⟩, []⟩
def plainE (c : UInt8) (t b : List UInt8) : Ev := ⟨letterKind c, ⟨t.toArray⟩, 0, ⟨b.toArray⟩, []⟩
theorem dec_one (s : List UInt8) : decB 1 s = if (rdLetter s).2 = false then (zeroEv, 3) else ((rdLetter s).1, 0) := by
  rw [decB, if_neg (by decide), rdB, if_pos rfl]
theorem dec_short {s : List UInt8} (h : s.length ≤ 1) : decB 1 s = (zeroEv, 3) := by
  rw [dec_one, if_pos]
  match s, h with
  | [], _ => rfl
  | [c], _ =>
    have : readTx ([] : List UInt8) = none := by decide
    rw [rdLetter, this]
theorem not_is {e : Ev} (h : e.kind < 1) : isB e = false := by
  rw [isB]; simp only [Bool.and_eq_false_iff, decide_eq_false_iff_not]; left; omega
theorem dec_null (r : List UInt8) : decB 1 (0 :: r) = (zeroEv, 3) := by
  rw [dec_one, if_pos]
  have hk : letterKind 0 = 0 := by decide
  rw [rdLetter]
  rcases readTx r with _ | ⟨t, b⟩
  · rfl
  · simp only
    split
    · exact not_is (e := ⟨letterKind 0, ⟨#[45]⟩, 0, ⟨b.toArray⟩, []⟩) (by show letterKind 0 < 1; rw [hk]; decide)
    · rw [goesB, not_is (by show letterKind 0 < 1; rw [hk]; decide)]; simp
theorem dec_nothing {c : UInt8} {r : List UInt8} (h : readTx r = none) : decB 1 (c :: r) = (zeroEv, 3) := by
  rw [dec_one, if_pos]; rw [rdLetter, h]
theorem dec_dash {c : UInt8} {r b : List UInt8} (h : readTx r = some ([], b)) : decB 1 (c :: r) = if isB (dashE c b) = false then (zeroEv, 3) else (dashE c b, 0) := by
  rw [dec_one, rdLetter, h]; rfl
theorem is_dash (c : UInt8) (b : List UInt8) : isB (dashE c b) = (decide (1 ≤ letterKind c) && lineB ⟨b.toArray⟩) := by
  have hk := letterKind_bd c
  have hn : nameB ⟨#[45]⟩ = true := by decide +kernel
  have ht : tagsB [] = true := by decide
  have key : isB (dashE c b) = true ↔ (1 ≤ letterKind c ∧ lineB ⟨b.toArray⟩ = true) := by
    rw [isB]
    simp only [Bool.and_eq_true, decide_eq_true_eq]
    constructor
    · rintro ⟨h1, _, _, _, _, h6, _⟩; exact ⟨h1, h6⟩
    · rintro ⟨h1, h6⟩; exact ⟨h1, by show letterKind c ≤ 4; omega, hn, Int.le_refl _, by show (0 : Int) ≤ 1125899906842624; decide, h6, ht⟩
  rw [Bool.eq_iff_iff, key]; simp
theorem dec_plain {c : UInt8} {r t b : List UInt8} (h : readTx r = some (t, b)) (ht : t ≠ []) : decB 1 (c :: r) = if goesB 1 (plainE c t b) = false then (zeroEv, 3) else (plainE c t b, 0) := by
  rw [dec_one, rdLetter, h]
  simp only [if_neg ht]
  rfl
theorem enc_plain {c : UInt8} {r t b : List UInt8} (h : readTx r = some (t, b)) : encB 1 (plainE c t b) = if goesB 1 (plainE c t b) = false then ([], 2) else (c :: r, 0) := by
  rw [encB, if_neg (by decide)]
  split
  · rfl
  · rename_i hg
    have hg' : goesB 1 (plainE c t b) = true := by simpa using hg
    rw [if_pos rfl]
    have h1 := (is_known (goes_is hg')).k1
    have hl := letterOf_kind (c := c) h1
    rw [readTx_text h]
    show (letterOf (letterKind c) :: text t ++ b, (0 : Int)) = _
    rw [hl]; rfl
theorem bad_is {e : Ev} (h : e.task.toList = []) : isB e = false := by
  rw [isB]
  have : nameB e.task = false := by simp [nameB, h]
  simp [this]
theorem bad_enc {e : Ev} (h : isB e = false) : (encB 1 e).2 = 2 := by
  rw [encB, if_neg (by decide), if_pos (by simp [goesB, h])]
end Chron
namespace Go.Proofs.YtdjllnhahhjgmaaGreatDoor
open Go.RowKit Chron
def atVal (L : Nat) : Option (Nat × List UInt8) → Value
  | none => .tuple #[.int .i64 0, .int .i64 (-1)]
  | some (n, r) => .tuple #[.int .i64 n, .int .i64 ((L - r.length : Nat) : Int)]
theorem ret_at {l : List UInt8} {n : Nat} {r : List UInt8} {L : Nat} {x y : Int} (h : readNum l = some (n, r)) (hx : x = (n : Int)) (hy : y = ((L - r.length : Nat) : Int)) :
    Ending.returned (.tuple #[.int .i64 x, .int .i64 y]) = .returned (atVal L (readNum l)) := by rw [h, hx, hy]; rfl
theorem ret_at_none {l : List UInt8} {L : Nat} (h : readNum l = none) : Ending.returned (.tuple #[.int .i64 0, .int .i64 (-1)]) = .returned (atVal L (readNum l)) := by rw [h]; rfl
def tailB (s : ByteArray) (p : Nat) : ByteArray := ⟨(s.data.toList.drop p).toArray⟩
theorem tail_list (s : ByteArray) (p : Nat) : (tailB s p).data.toList = s.data.toList.drop p := rfl
theorem tail_size (s : ByteArray) (p : Nat) : (tailB s p).size = s.size - p := by
  have h : (tailB s p).size = (tailB s p).data.toList.length := rfl
  rw [h, tail_list, List.length_drop]; rfl
theorem tail_get (s : ByteArray) (p k : Nat) (h : k < (tailB s p).size) (h' : p + k < s.size) : (tailB s p)[k] = s[p + k] := by
  have h1 : (tailB s p)[k] = (s.data.toList.drop p)[k]'(by rw [List.length_drop]; have : s.data.toList.length = s.size := rfl; omega) := rfl
  have h2 : s[p + k] = s.data.toList[p + k]'(by have : s.data.toList.length = s.size := rfl; omega) := rfl
  rw [h1, h2, List.getElem_drop]
theorem mul_step {n k : Nat} (c : Nat) (hk : k < 9) (hn : n < 128 ^ k) : n + c % 128 * 128 ^ k < 9223372036854775808 := by
  have h8 := pow_le8 hk
  have hm : c % 128 * 128 ^ k ≤ 127 * 128 ^ 8 := Nat.mul_le_mul (by omega) h8
  omega
theorem group_step {n k x : Nat} (c : Nat) (hk : k < 9) (hn : n < 128 ^ k) (hx : x = 128 ^ k) : ∃ d y z : Nat, (c : Int).tmod 128 = (d : Int) ∧ wrap64 ((d : Int) * (x : Int)) = (y : Int) ∧ wrap64 ((n : Int) + (y : Int)) = (z : Int) ∧ Hid (z = n + c % 128 * 128 ^ k) := by
  have hms := mul_step c hk hn
  rw [← hx] at hms ⊢
  refine ⟨c % 128, c % 128 * x, n + c % 128 * x, ?_, ?_, ?_, rfl⟩
  · rw [Int.tmod_eq_emod_of_nonneg (by omega)]; omega
  · rw [← Int.natCast_mul, Chron.wrap_small (by omega) (by omega)]
  · rw [← Int.natCast_add, Chron.wrap_small (by omega) (by omega)]
theorem pow_less {k : Nat} (h : k < 8) : (128 : Nat) ^ k ≤ 562949953421312 := Nat.le_trans (Nat.pow_le_pow_right (by omega) (show k ≤ 7 by omega)) (by decide)
def tAtVal (L : Nat) : Option (List UInt8 × List UInt8) → Value
  | none => .tuple #[.string ⟨#[]⟩, .int .i64 (-1)]
  | some (t, r) => .tuple #[.string ⟨t.toArray⟩, .int .i64 ((L - r.length : Nat) : Int)]
theorem ret_tat {l : List UInt8} {t r : List UInt8} {L : Nat} {x : ByteArray} {y : Int} (h : readTx l = some (t, r)) (hx : x = ⟨t.toArray⟩) (hy : y = ((L - r.length : Nat) : Int)) :
    Ending.returned (.tuple #[.string x, .int .i64 y]) = .returned (tAtVal L (readTx l)) := by rw [h, hx, hy]; rfl
theorem ret_tat_none {l : List UInt8} {L : Nat} (h : readTx l = none) : Ending.returned (.tuple #[.string ⟨#[]⟩, .int .i64 (-1)]) = .returned (tAtVal L (readTx l)) := by rw [h]; rfl
theorem suffix_drop {l x r : List UInt8} (h : l = x ++ r) : l.drop (l.length - r.length) = r := by subst h; simp
theorem num_suffix {l : List UInt8} {p n : Nat} {r : List UInt8} (h : readNum (l.drop p) = some (n, r)) : l.drop (l.length - r.length) = r ∧ r.length ≤ l.length := by
  have h1 := readNum_num h
  have h2 : l = (l.take p ++ num n) ++ r := by rw [List.append_assoc, ← h1, List.take_append_drop]
  exact ⟨suffix_drop h2, by rw [h2]; simp; omega⟩
theorem extract_drop_take (s : ByteArray) (f n : Nat) : s.extract f (f + n) = ⟨((s.data.toList.drop f).take n).toArray⟩ := by
  apply bytes_inj
  simp [ByteArray.data_extract, Array.toList_extract, List.extract]
end Go.Proofs.YtdjllnhahhjgmaaGreatDoor
namespace Go.Proofs.YtdjllnhahhjgmaaGreatDoor
open Go.RowKit Chron
/- result and local of guess -/
structure Gs (N : Nat) (w wx : World) (e : Ev) (x : Value) : Prop where
  res : wx.heap[N]? = some (.cells #[.int .i64 0, .string ⟨#[]⟩, .int .i64 0, .string ⟨#[]⟩, .slice none 0 0] 29)
  box : wx.heap[N + 1]? = some (.cells #[.int .i64 e.kind, .string e.task, .int .i64 e.time, .string e.body, x] 29)
  own : wx.ownsRow (N + 2) 9 1 x e.tags.length (e.tags.map Value.string)
  bel : Below N w wx
theorem Gs.big {N : Nat} {w wx : World} {e : Ev} {x : Value} (h : Gs N w wx e x) : N + 2 ≤ wx.heap.size := (Array.getElem?_eq_some_iff.1 h.box).1
theorem Gs.set {N : Nat} {w wx : World} {e e' : Ev} {x : Value} {i : Nat} {u : Value} (h : Gs N w wx e x) (ht : e'.tags = e.tags)
    (hc : #[.int .i64 e.kind, .string e.task, .int .i64 e.time, .string e.body, x].setIfInBounds i u = #[.int .i64 e'.kind, .string e'.task, .int .i64 e'.time, .string e'.body, x]) : Gs N w (wx.setCell ⟨N + 1, i, none⟩ u) e' x := by
  refine ⟨(Below.heap_setCell _ _ _ _ (by show N ≠ N + 1; omega)).trans h.res, by rw [loan_set h.box, hc], ?_, h.bel.setCell (by show N ≤ N + 1; omega) _⟩
  rw [ht]
  exact ownsRow_setCell_below h.own (by show N + 1 < N + 2; omega) _
theorem Gs.push {N : Nat} {w wx wa : World} {e : Ev} {x : Value} {o : Obj} {g cap : Nat} {z : ByteArray} (h : Gs N w wx e x) (hg : (wx.alloc o).grownBy wa x.ownBlock)
    (hown : wa.ownsRow (N + 2) 9 1 (.slice (some ⟨g, 0, none⟩) (e.tags.length + 1) cap) (e.tags.length + 1) (e.tags.map Value.string ++ [.string z])) :
    wa.heap[N + 1]? = some (.cells #[.int .i64 e.kind, .string e.task, .int .i64 e.time, .string e.body, x] 29) ∧
    Gs N w (wa.setCell ⟨N + 1, 4, none⟩ (.slice (some ⟨g, 0, none⟩) (e.tags.length + 1) cap)) { e with tags := e.tags ++ [z] } (.slice (some ⟨g, 0, none⟩) (e.tags.length + 1) cap) := by
  have hbig := h.big
  have hblk : ∀ q, q < N + 2 → wa.heap[q]? = wx.heap[q]? := fun q hq => by
    rw [hg.block q (by rw [World.size_alloc]; omega) (fun e => by have := (h.own.lt q e.symm).1; omega), Below.heap_alloc _ _ _ (by omega)]
  have hb := (hblk (N + 1) (by omega)).trans h.box
  refine ⟨hb, (Below.heap_setCell _ _ _ _ (by show N ≠ N + 1; omega)).trans ((hblk N (by omega)).trans h.res), loan_set hb, ?_, ?_⟩
  · have := ownsRow_setCell_below hown (a := ⟨N + 1, 4, none⟩) (by show N + 1 < N + 2; omega) (.slice (some ⟨g, 0, none⟩) (e.tags.length + 1) cap)
    simpa using this
  · exact (Below.grown (h.bel.alloc (by omega) _) hg (by rw [World.size_alloc]; omega) (fun q hq => by have := (h.own.lt q hq).1; omega)).setCell (by show N ≤ N + 1; omega) _
theorem Gs.start (w : World) : Gs w.heap.size w ((w.alloc (.cells #[.int .i64 0, .string ⟨#[]⟩, .int .i64 0, .string ⟨#[]⟩, .slice none 0 0] 29)).alloc (.cells #[.int .i64 0, .string ⟨#[]⟩, .int .i64 0, .string ⟨#[]⟩, .slice none 0 0] 29)) zeroEv (.slice none 0 0) := by
  refine ⟨?_, ?_, World.ownsRow_nil _ _ _ _, ((Below.refl _ _).alloc (Nat.le_refl _) _).alloc (by simp) _⟩
  · rw [Below.heap_alloc _ _ _ (by simp), heap_alloc_new]
  · have := heap_alloc_new (w.alloc (.cells #[.int .i64 0, .string ⟨#[]⟩, .int .i64 0, .string ⟨#[]⟩, .slice none 0 0] 29)) (.cells #[.int .i64 0, .string ⟨#[]⟩, .int .i64 0, .string ⟨#[]⟩, .slice none 0 0] 29)
    rw [World.size_alloc] at this; exact this
/- where the guess stands: a place, or none -/
def placeV (L : Nat) : Option (List UInt8) → Value
  | none => .int .i64 (-1)
  | some r => .int .i64 ((L - r.length : Nat) : Int)
def placeM (L : Nat) (p : Value) : Nat := if intOf p < 0 then 0 else L + 1 - (intOf p).toNat
/- what was put together so far, and what is left -/
def leftE (e : Ev) : Option (List UInt8) → Ev | none => e | some q => guessG e q
def leftN : Option (List UInt8) → Nat | none => 0 | some q => q.length
structure Left (s : List UInt8) (e : Ev) (r : Option (List UInt8)) : Prop where
  goal : leftE e r = guessG zeroEv s
  tail : ∀ q, r = some q → s.drop (s.length - q.length) = q ∧ q.length ≤ s.length
  few : e.tags.length + leftN r ≤ s.length
  pos : 0 ≤ e.kind
theorem nAt_suffix {r q : List UInt8} (h : (nAt r).2 = some q) : ∃ x, r = x ++ q := by
  unfold nAt at h
  rcases hr : readNum r with _ | ⟨n, y⟩
  · rw [hr] at h; cases h
  · rw [hr] at h
    simp only [Option.some.injEq] at h
    subst h; exact ⟨_, readNum_num hr⟩
theorem tAt_suffix {r q : List UInt8} (h : (tAt r).2 = some q) : ∃ x, r = x ++ q := by
  unfold tAt at h
  rcases hr : readTx r with _ | ⟨n, y⟩
  · rw [hr] at h; cases h
  · rw [hr] at h
    simp only [Option.some.injEq] at h
    subst h; exact ⟨_, readTx_text hr⟩
theorem gstep_suffix {e : Ev} {c : UInt8} {r q : List UInt8} (h : (gstep e c r).2 = some q) : ∃ x, r = x ++ q := by
  unfold gstep at h
  split at h
  · exact nAt_suffix h
  · split at h
    · exact nAt_suffix h
    · split at h
      · exact tAt_suffix h
      · split at h
        · exact tAt_suffix h
        · split at h <;> exact tAt_suffix h
theorem gstep_tags (e : Ev) (c : UInt8) (r : List UInt8) : (gstep e c r).1.tags.length ≤ e.tags.length + 1 ∧ (0 ≤ e.kind → 0 ≤ (gstep e c r).1.kind) := by
  unfold gstep
  split
  · exact ⟨Nat.le_succ _, fun _ => Int.natCast_nonneg _⟩
  · split
    · exact ⟨Nat.le_succ _, id⟩
    · split
      · exact ⟨Nat.le_succ _, id⟩
      · split
        · exact ⟨Nat.le_succ _, id⟩
        · split
          · exact ⟨by simp, id⟩
          · exact ⟨Nat.le_succ _, id⟩
theorem left_step {s : List UInt8} {e : Ev} {c : UInt8} {r : List UInt8} (h : Left s e (some (c :: r))) : Left s (gstep e c r).1 (gstep e c r).2 := by
  obtain ⟨h1, h2, h3, h4⟩ := h
  obtain ⟨h5, h6⟩ := h2 _ rfl
  have ht := gstep_tags e c r
  simp only [leftN, List.length_cons] at h3 h6
  refine ⟨?_, fun q hq => ?_, ?_, ht.2 h4⟩
  · rcases hg : gstep e c r with ⟨e', _ | q⟩
    · exact (guessG_stop hg).symm.trans h1
    · exact (guessG_next hg).symm.trans h1
  · obtain ⟨x, hx⟩ := gstep_suffix hq
    have e1 : s = s.take (s.length - (c :: r).length) ++ (c :: x ++ q) := by
      have e2 : s.take (s.length - (c :: r).length) ++ s.drop (s.length - (c :: r).length) = s := List.take_append_drop _ _
      rw [h5, hx] at e2
      rw [hx]; simpa using e2.symm
    have hl := gstep_len hq
    refine ⟨suffix_drop (x := s.take (s.length - (c :: r).length) ++ (c :: x)) (by rw [List.append_assoc]; exact e1), by omega⟩
  · rcases hg : (gstep e c r).2 with _ | q
    · simp only [leftN]; omega
    · have := gstep_len hg
      simp only [leftN]; omega
theorem atVal_eq (L : Nat) (r : List UInt8) : atVal L (readNum r) = .tuple #[.int .i64 ((nAt r).1 : Nat), placeV L (nAt r).2] := by
  unfold nAt; rcases readNum r with _ | ⟨n, q⟩ <;> rfl
theorem tAtVal_eq (L : Nat) (r : List UInt8) : tAtVal L (readTx r) = .tuple #[.string ⟨(tAt r).1.toArray⟩, placeV L (tAt r).2] := by
  unfold tAt; rcases readTx r with _ | ⟨n, q⟩ <;> rfl
theorem place_less {L n : Nat} {r : Option (List UInt8)} (hn : n < L) (hr : ∀ q, r = some q → n < L - q.length) : placeM L (placeV L r) < placeM L (.int .i64 n) := by
  have h0 : placeM L (.int .i64 n) = L + 1 - n := by rw [placeM, intOf, if_neg (by omega), Int.toNat_natCast]
  rw [h0]
  rcases r with _ | q
  · have : placeM L (placeV L none) = 0 := by rw [placeV, placeM, intOf, if_pos (by decide)]
    omega
  · have h1 := hr q rfl
    have : placeM L (placeV L (some q)) = L + 1 - (L - q.length) := by rw [placeV, placeM, intOf, if_neg (by omega), Int.toNat_natCast]
    omega
theorem byte_eq {c : UInt8} {k : Nat} (h : c = UInt8.ofNat k) (hk : k < 256) : ((c.toNat : Int) == (k : Int)) = true := by
  subst h; simp; omega
theorem byte_ne {c : UInt8} {k : Nat} (h : c ≠ UInt8.ofNat k) : ((c.toNat : Int) == (k : Int)) = false := by
  simp only [beq_eq_false_iff_ne, ne_eq, Int.natCast_inj]
  intro e; apply h; rw [← e]; simp
end Go.Proofs.YtdjllnhahhjgmaaGreatDoor
namespace Go.Proofs.YtdjllnhahhjgmaaGreatDoor
open Go.RowKit Chron
theorem Gs.below {N : Nat} {w wx wy : World} {e : Ev} {x : Value} (h : Gs N w wx e x) (hb : Below wx.heap.size wx wy) : Gs N w wy e x := by
  have hbig := h.big
  exact ⟨(hb.block _ (by omega)).trans h.res, (hb.block _ (by omega)).trans h.box, own_below h.own hb, h.bel.trans (hb.mono (by omega))⟩
theorem Gs.whole {N : Nat} {w wx wy : World} {e0 e : Ev} {x0 x y0 y1 y2 y3 y4 : Value} (h : Gs N w wx e0 x0) (hb : Below wx.heap.size wx wy) (hown : wy.ownsRow wx.heap.size 9 1 x e.tags.length (e.tags.map Value.string))
    (he : #[y0, y1, y2, y3, y4] = #[.int .i64 e.kind, .string e.task, .int .i64 e.time, .string e.body, x]) :
    Gs N w (((((wy.setCell ⟨N + 1, 0, none⟩ y0).setCell ⟨N + 1, 1, none⟩ y1).setCell ⟨N + 1, 2, none⟩ y2).setCell ⟨N + 1, 3, none⟩ y3).setCell ⟨N + 1, 4, none⟩ y4) e x := by
  have h1 := h.below hb
  have hbig := h.big
  simp only [Array.mk.injEq, List.cons.injEq, and_true] at he
  obtain ⟨rfl, rfl, rfl, rfl, rfl⟩ := he
  refine ⟨?_, loan_set (loan_set (loan_set (loan_set (loan_set h1.box)))), own_set5 hown (by omega) hbig, below_set5 h1.bel (by omega)⟩
  rw [Below.heap_setCell _ _ _ _ (by show N ≠ N + 1; omega), Below.heap_setCell _ _ _ _ (by show N ≠ N + 1; omega), Below.heap_setCell _ _ _ _ (by show N ≠ N + 1; omega), Below.heap_setCell _ _ _ _ (by show N ≠ N + 1; omega), Below.heap_setCell _ _ _ _ (by show N ≠ N + 1; omega)]
  exact h1.res
theorem tags_at {w : World} {base : Nat} {a : Option Addr} {c : Nat} {l : List ByteArray} (h : w.ownsRow base 9 1 (.slice a l.length c) l.length (l.map Value.string)) : TagsAt w a l := by
  obtain ⟨a', c', he, ht⟩ := own_tags h
  simp only [Value.slice.injEq, true_and] at he
  obtain ⟨rfl, rfl⟩ := he
  exact ht
theorem gs_short {n : Nat} {l : List ByteArray} (h : ∀ t ∈ l, t.size ≤ n) (hn : n ≤ maxLen) : Short l := by
  intro i hi
  rw [List.getElem?_eq_getElem hi]
  exact Nat.le_trans (h _ (List.getElem_mem hi)) hn
theorem guessF_size : ∀ (f : Nat) (e : Ev) (s : List UInt8) (n : Nat), s.length ≤ n → e.task.size ≤ n → e.body.size ≤ n → (∀ t ∈ e.tags, t.size ≤ n) → (guessF f e s).task.size ≤ n ∧ (guessF f e s).body.size ≤ n ∧ (∀ t ∈ (guessF f e s).tags, t.size ≤ n) ∧ (guessF f e s).tags.length ≤ e.tags.length + f
  | 0, e, s, n, _, h1, h2, h3 => ⟨h1, h2, h3, Nat.le_refl _⟩
  | f + 1, e, [], n, _, h1, h2, h3 => ⟨h1, h2, h3, Nat.le_add_right _ _⟩
  | f + 1, e, c :: r, n, hn, h1, h2, h3 => by
    have htl : (tAt r).1.length ≤ r.length := by
      unfold tAt; rcases hr : readTx r with _ | ⟨t, q⟩
      · simp
      · have := readTx_len hr; simp only; omega
    simp only [List.length_cons] at hn
    have hg : (gstep e c r).1.task.size ≤ n ∧ (gstep e c r).1.body.size ≤ n ∧ (∀ t ∈ (gstep e c r).1.tags, t.size ≤ n) := by
      unfold gstep
      split
      · exact ⟨h1, h2, h3⟩
      · split
        · exact ⟨h1, h2, h3⟩
        · split
          · exact ⟨by show (tAt r).1.length ≤ n; omega, h2, h3⟩
          · split
            · exact ⟨h1, by show (tAt r).1.length ≤ n; omega, h3⟩
            · split
              · refine ⟨h1, h2, fun t ht => ?_⟩
                rcases List.mem_append.1 ht with ht | ht
                · exact h3 t ht
                · simp at ht; subst ht; show (tAt r).1.length ≤ n; omega
              · exact ⟨h1, h2, h3⟩
    have ht := (gstep_tags e c r).1
    rw [guessF]
    rcases hq : gstep e c r with ⟨e', _ | q⟩
    · rw [hq] at hg ht
      exact ⟨hg.1, hg.2.1, hg.2.2, by simp only at ht ⊢; omega⟩
    · have hl := gstep_len (e := e) (c := c) (r := r) (q := q) (by rw [hq])
      rw [hq] at hg ht
      have ih := guessF_size f e' q n (by omega) hg.1 hg.2.1 hg.2.2
      exact ⟨ih.1, ih.2.1, ih.2.2.1, by simp only at ht ⊢; omega⟩
theorem guessB_size (v : Int) (s : List UInt8) : (guessB v s).task.size ≤ s.length ∧ (guessB v s).body.size ≤ s.length ∧ (∀ t ∈ (guessB v s).tags, t.size ≤ s.length) ∧ (guessB v s).tags.length ≤ s.length := by
  have h := guessF_size s.length zeroEv s s.length (Nat.le_refl _) (Nat.zero_le _) (Nat.zero_le _) (by simp [zeroEv])
  have h0 : zeroEv.tags.length = 0 := rfl
  rw [h0, Nat.zero_add] at h
  unfold guessB bump
  split <;> exact h
end Go.Proofs.YtdjllnhahhjgmaaGreatDoor
namespace Go.Proofs.YtdjllnhahhjgmaaGreatDoor
open Go.RowKit Chron
theorem enc_zero : encB 1 ⟨0, ⟨#[]⟩, 0, ⟨#[]⟩, []⟩ = ([], 2) := by decide +kernel
end Go.Proofs.YtdjllnhahhjgmaaGreatDoor
namespace Chron
open Go Go.RowKit
/- how many bytes two lists begin with alike -/
def pre : List UInt8 → List UInt8 → Nat
  | x :: a, y :: b => if x = y then pre a b + 1 else 0
  | _, _ => 0
theorem pre_le : ∀ (a b : List UInt8), pre a b ≤ a.length ∧ pre a b ≤ b.length
  | [], _ => by simp [pre]
  | _ :: _, [] => by simp [pre]
  | x :: a, y :: b => by
    have := pre_le a b
    simp only [pre]
    split
    · simp; omega
    · simp
theorem pre_take : ∀ (a b : List UInt8), a.take (pre a b) = b.take (pre a b)
  | [], _ => by simp [pre]
  | _ :: _, [] => by simp [pre]
  | x :: a, y :: b => by
    have := pre_take a b
    simp only [pre]
    split
    · next h => subst h; simp [this]
    · simp
theorem pre_ge : ∀ (n : Nat) (a b : List UInt8), n ≤ a.length → n ≤ b.length → a.take n = b.take n → n ≤ pre a b
  | 0, _, _, _, _, _ => Nat.zero_le _
  | n + 1, [], _, h, _, _ => by simp at h
  | n + 1, _ :: _, [], _, h, _ => by simp at h
  | n + 1, x :: a, y :: b, h1, h2, h => by
    simp at h h1 h2
    have := pre_ge n a b h1 h2 h.2
    simp only [pre, if_pos h.1]
    omega
/- n bytes have been found alike -/
structure Akin (a b : List UInt8) (n : Nat) : Prop where
  le : n ≤ a.length ∧ n ≤ b.length
  eq : pre a b = n + pre (a.drop n) (b.drop n)
theorem alike_zero (a b : List UInt8) : Akin a b 0 := ⟨⟨Nat.zero_le _, Nat.zero_le _⟩, by simp⟩
theorem alike_more {a b : List UInt8} {n : Nat} (h : Akin a b n) (h1 : n < a.length) (h2 : n < b.length) (he : a[n] = b[n]) : Akin a b (n + 1) := by
  refine ⟨⟨h1, h2⟩, ?_⟩
  rw [h.eq, List.drop_eq_getElem_cons h1, List.drop_eq_getElem_cons h2, pre, if_pos he]
  omega
theorem alike_other {a b : List UInt8} {n : Nat} (h : Akin a b n) (h1 : n < a.length) (h2 : n < b.length) (he : ¬ a[n] = b[n]) : pre a b = n := by
  rw [h.eq, List.drop_eq_getElem_cons h1, List.drop_eq_getElem_cons h2, pre, if_neg he]; rfl
theorem alike_end {a b : List UInt8} {n : Nat} (h : Akin a b n) (he : ¬ (n < a.length ∧ n < b.length)) : pre a b = n := by
  rw [h.eq]
  by_cases h1 : n < a.length
  · rw [List.drop_of_length_le (l := b) (by omega)]
    cases a.drop n <;> simp [pre]
  · rw [List.drop_of_length_le (l := a) (by omega)]; simp [pre]
/- the front and the end that two texts have alike -/
def fr (o n : List UInt8) : Nat := pre o n
def en (o n : List UInt8) : Nat := pre (o.drop (fr o n)).reverse (n.drop (fr o n)).reverse
def mid (o n : List UInt8) : List UInt8 := (n.drop (fr o n)).take (n.length - fr o n - en o n)
def makeB (o n : List UInt8) : List UInt8 × Int :=
  if 65536 < o.length ∨ 65536 < n.length then ([], 3) else (num (fr o n) ++ num (en o n) ++ mid o n, 0)
def joinB (o : List UInt8) (f e : Nat) (m : List UInt8) : List UInt8 × Int :=
  if f + e ≤ o.length ∧ f + m.length + e ≤ 65536 then (o.take f ++ m ++ o.drop (o.length - e), 0) else ([], 3)
def applyB (o c : List UInt8) : List UInt8 × Int :=
  if 65536 < o.length ∨ 65536 < c.length then ([], 3) else
  match readNum c with
  | none => ([], 3)
  | some (f, r) => match readNum r with
    | none => ([], 3)
    | some (e, m) => joinB o f e m
theorem fr_le (o n : List UInt8) : fr o n ≤ o.length ∧ fr o n ≤ n.length := pre_le o n
theorem en_le (o n : List UInt8) : en o n ≤ o.length - fr o n ∧ en o n ≤ n.length - fr o n := by
  have := pre_le (o.drop (fr o n)).reverse (n.drop (fr o n)).reverse
  simpa [en] using this
theorem take_rev (l : List UInt8) (k : Nat) : l.reverse.take k = (l.drop (l.length - k)).reverse := by
  rw [List.take_reverse]
theorem en_tail (o n : List UInt8) : o.drop (o.length - en o n) = n.drop (n.length - en o n) := by
  have h := pre_take (o.drop (fr o n)).reverse (n.drop (fr o n)).reverse
  rw [show pre (o.drop (fr o n)).reverse (n.drop (fr o n)).reverse = en o n from rfl, take_rev, take_rev, List.reverse_inj, List.drop_drop, List.drop_drop, List.length_drop, List.length_drop] at h
  have h1 := en_le o n
  have h2 := fr_le o n
  rw [show fr o n + (o.length - fr o n - en o n) = o.length - en o n by omega, show fr o n + (n.length - fr o n - en o n) = n.length - en o n by omega] at h
  exact h
theorem mid_len (o n : List UInt8) : (mid o n).length = n.length - fr o n - en o n := by
  have h1 := en_le o n
  simp [mid]
theorem num_three {k : Nat} (h : k ≤ 65536) : (num k).length ≤ 3 := by
  rw [num, numF_fuel 3 10 k (by omega) (by omega) (by omega)]
  exact numF_len 3 k
theorem make_len {o n : List UInt8} (ho : o.length ≤ 65536) (hn : n.length ≤ 65536) : (makeB o n).1.length ≤ 6 + (mid o n).length := by
  have h1 := fr_le o n
  have h2 := en_le o n
  have h3 := num_three (k := fr o n) (by omega)
  have h4 := num_three (k := en o n) (by omega)
  rw [makeB, if_neg (by omega)]
  simp
  omega
theorem make_ok {o n : List UInt8} (ho : o.length ≤ 65536) (hn : n.length ≤ 65536) : (makeB o n).2 = 0 := by
  rw [makeB, if_neg (by omega)]
theorem parts_join (o n : List UInt8) : o.take (fr o n) ++ mid o n ++ o.drop (o.length - en o n) = n := by
  have h1 := en_le o n
  have h2 := fr_le o n
  rw [en_tail, show o.take (fr o n) = n.take (fr o n) from pre_take o n, mid]
  have e : n.drop (n.length - en o n) = (n.drop (fr o n)).drop (n.length - fr o n - en o n) := by
    rw [List.drop_drop]; congr 1; omega
  rw [e, List.append_assoc, List.take_append_drop, List.take_append_drop]
theorem apply_make {o n : List UInt8} (ho : o.length ≤ 65536) (hn : n.length ≤ 65536) (hc : (makeB o n).1.length ≤ 65536) : applyB o (makeB o n).1 = (n, 0) := by
  have h1 := en_le o n
  have h2 := fr_le o n
  have h3 := mid_len o n
  rw [applyB, if_neg (by omega), makeB, if_neg (by omega)]
  show (match readNum (num (fr o n) ++ num (en o n) ++ mid o n) with | none => _ | some (f, r) => _) = _
  rw [List.append_assoc, readNum_of (Nat.lt_of_le_of_lt h2.1 (by omega))]
  show (match readNum (num (en o n) ++ mid o n) with | none => _ | some (e, m) => joinB o (fr o n) e m) = _
  rw [readNum_of (Nat.lt_of_le_of_lt h1.1 (by omega))]
  show joinB o (fr o n) (en o n) (mid o n) = _
  rw [joinB, if_pos (by omega), parts_join]
theorem make_same {o : List UInt8} (ho : o.length ≤ 65536) : (makeB o o).1.length ≤ 6 := by
  have h1 := pre_ge o.length o o (Nat.le_refl _) (Nat.le_refl _) rfl
  have h2 := make_len ho ho
  have h3 := mid_len o o
  have : fr o o = pre o o := rfl
  omega
/- a text that begins with a bytes of another and ends with b bytes of it -/
theorem make_edited {o x : List UInt8} {a b : Nat} (hab : a + b ≤ o.length) (ho : o.length ≤ 65536) (he : (o.take a ++ x ++ o.drop (o.length - b)).length ≤ 65536) :
    (makeB o (o.take a ++ x ++ o.drop (o.length - b))).1.length ≤ 6 + x.length := by
  generalize hn : o.take a ++ x ++ o.drop (o.length - b) = n at he ⊢
  have hl : n.length = a + x.length + b := by rw [← hn]; simp; omega
  have h1 := en_le o n
  have h2 := fr_le o n
  have h3 := mid_len o n
  have h4 := make_len ho he
  have hf : a ≤ fr o n := by
    refine pre_ge a o n (by omega) (by omega) ?_
    rw [← hn, List.append_assoc, List.take_append_of_le_length (by simp; omega), List.take_take, Nat.min_self]
  have hk : ∀ k, k ≤ b → k ≤ o.length - fr o n → k ≤ n.length - fr o n → k ≤ en o n := by
    intro k hkb hko hkn
    refine pre_ge k _ _ (by simp; omega) (by simp; omega) ?_
    rw [take_rev, take_rev, List.reverse_inj, List.drop_drop, List.drop_drop, List.length_drop, List.length_drop]
    rw [show fr o n + (o.length - fr o n - k) = o.length - k by omega, show fr o n + (n.length - fr o n - k) = n.length - k by omega]
    have e : n.length - k = (o.take a ++ x).length + (b - k) := by rw [hl]; simp; omega
    rw [e, ← hn, ← List.drop_drop, List.drop_left, List.drop_drop]
    congr 1; omega
  have := hk (min b (min (o.length - fr o n) (n.length - fr o n))) (by omega) (by omega) (by omega)
  omega
end Chron
