/- Proved: whatever three lists of numbers and whatever number chroniclekeep.OneTale is called with, it returns true and its arguments read as before; the listed package-level tables start as the program's text lays them. -/
import Derived.Test.YtdjllnhahhjgmaaGreatDoorRows
import Derived.Test.YtdjllnhahhjgmaaGreatDoorCards
import Derived.Test.YtdjllnhahhjgmaaGreatDoorTie
import Derived.Test.YtdjllnhahhjgmaaGreatDoorW14
import Derived.Test.YtdjllnhahhjgmaaGreatDoorW20
import Derived.WalkKit
import Derived.ProofKit
import Derived.OpenShut
import Derived.ChangeOld
import Derived.Below
import Derived.SizedLaws
import Derived.LaidMore
import Derived.Stop.Joined
import Derived.Lay
import Derived.Stop.LaidErr
import Derived.Lib.LaidU8
import Derived.Deep.DeepWitnessRef
import Derived.SevenTiedAt
namespace Go.Proofs.YtdjllnhahhjgmaaGreatDoor
open Go.ChangeShapes Go.WideShapes Go.ChangeAt Go.WideMaps Go.WideElems Go.RowKit Chron

theorem onetale_own : ownKnob Tryz.prog.godebug = none := by kernel_rfl
theorem onetale_laidOut : laidOutB Tryz.prog = true := by kernel_rfl
theorem tPows3 : (Tryz.prog.globals[4]?).map (·.type) = some 216 := by kernel_rfl
theorem cellsPow3 : Tryz.prog.cellsOf 178 = 1 := by kernel_rfl
theorem cellsPows3 : Tryz.prog.cellsOf 216 = 20 := by kernel_rfl
theorem onetale_met (os : Os) : laidMetH Tryz.prog Rows.oneTaleRow.laid ((World.laidAll Tryz.prog os Rows.oneTaleRow.laid).forCall (fun _ _ => 0) ⟨#[], #[.slice none 0 0, .int .i64 0, .slice none 0 0, .slice none 0 0], []⟩).memory := by
  rw [MakeChecks.laidMetH_plain _ _ _ (by kernel_rfl)]
  exact laidMet_laidAll _ (by kernel_rfl) (by kernel_rfl)
theorem laid_onetale {W : World} (h : laidMetH Tryz.prog Rows.oneTaleRow.laid W) : LaidAt W := by
  rw [MakeChecks.laidMetH_plain _ _ _ (by kernel_rfl)] at h
  have hk := texts_table (l := [wordB 1, wordB 2, wordB 3, wordB 4]) giKinds tiKinds Tryz.underlying123 (Lib.laidMet.reads h (n := "chronicle/canon.kinds") (d := Rows.laid_chronicle_canon_kinds) (by simp [Rows.oneTaleRow]))
  have hkinds : Kinds W := by
    intro i hi
    have h4 : i = 0 ∨ i = 1 ∨ i = 2 ∨ i = 3 := by omega
    rcases h4 with rfl | rfl | rfl | rfl
    · exact hk.2 0 _ rfl
    · exact hk.2 1 _ rfl
    · exact hk.2 2 _ rfl
    · exact hk.2 3 _ rfl
  exact ⟨hkinds, Lib.tabIs_of_head gPows tPows3 Tryz.underlying216 Tryz.underlying178 cellsPow3 cellsPows3 h.tail.tail⟩

set_option maxRecDepth 100000 in
theorem onetale_lifted (os : Os) (started : os.Started) (H : Type) (enc : TypeId × Value → H) :
    ReturnsInHanded {} Tryz.checked os 5 .any (fun w args => (Rows.oneTaleSpec.pre enc Tryz.prog Tryz.f5 [] false w args ∧ laidMetH Tryz.prog Rows.oneTaleRow.laid w) ∧ sizedMet enc Tryz.prog Tryz.f5 (OpenSpec.ofChange Rows.oneTaleSpec) false w args)
      (Rows.oneTaleSpec.post enc Tryz.prog Tryz.f5 false true false false) := by
  refine returnsInHanded_of_change_and (C := Tryz.checked) (X := fun w _ => laidMetH Tryz.prog Rows.oneTaleRow.laid w) (fun _ _ _ hh h => h.of_heap hh) onetale_own started (by kernel_rfl) Tryz.func5
    (ChangeSpec.witness_shaped (enc := enc) (C := Tryz.checked) (os := os) (X := fun w _ => laidMetH Tryz.prog Rows.oneTaleRow.laid w) false (World.laidAll Tryz.prog os Rows.oneTaleRow.laid) #[.slice none 0 0, .int .i64 0, .slice none 0 0, .slice none 0 0] 8 (World.laidAll_os _ _ _) (World.shaped_of_ZipB (by kernel_rfl) (by kernel_rfl)) (by kernel_rfl) (by kernel_rfl) (by kernel_rfl) (onetale_met os)) ?_
  intro W base args ds gs before hval0 hW _ hsz0 hL _
  have hsz : (DataW.weightsEach Tryz.prog (Tryz.f5.params.toList ++ Rows.oneTaleSpec.plain.varTypes Tryz.prog) (ds ++ gs)).all (· ≤ reachBytes) = true := hsz0
  have hval : ∀ (j : Nat) t v, Tryz.f5.params[j]? = some t → args[j]? = some v → Value.okWide Tryz.prog W .any base t v := hval0
  have hW' := hW
  obtain ⟨p, q, hA0, hV, rfl, hfz, hnd⟩ := hW
  have hA : DataW.TrodAll enc Tryz.prog W 0 (fun _ => true) true Tryz.f5.params.toList args.toList ds p := hA0
  rw [Tryz.params5] at hA hval hsz
  obtain ⟨v0, vs0, d0, ds0, p0, q0, hargs, rfl, rfl, h0, r0⟩ := trodAll_cons hA
  obtain ⟨v1, vs1, d1, ds1, p1, q1, rfl, rfl, rfl, h1, r1⟩ := trodAll_cons r0
  obtain ⟨v2, vs2, d2, ds2, p2, q2, rfl, rfl, rfl, h2, r2⟩ := trodAll_cons r1
  obtain ⟨v3, vs3, d3, ds3, p3, q3, rfl, rfl, rfl, h3, r3⟩ := trodAll_cons r2
  obtain ⟨rfl, rfl, rfl⟩ := trodAll_nil r3
  obtain rfl : args = #[v0, v1, v2, v3] := by cases args; simp_all
  obtain ⟨rfl, rfl⟩ := trodVars_none hV
  have hall := List.all_eq_true.1 hsz
  have hw0 : ∀ n ∈ d0.weights Tryz.prog 38, n ≤ reachBytes := fun n hn => by
    have := hall n (DataW.weights_mem_each (j := 0) (t := 38) (d := d0) rfl rfl n hn)
    simpa using this
  have hw2 : ∀ n ∈ d2.weights Tryz.prog 38, n ≤ reachBytes := fun n hn => by
    have := hall n (DataW.weights_mem_each (j := 2) (t := 38) (d := d2) rfl rfl n hn)
    simpa using this
  have hw3 : ∀ n ∈ d3.weights Tryz.prog 38, n ≤ reachBytes := fun n hn => by
    have := hall n (DataW.weights_mem_each (j := 3) (t := 38) (d := d3) rfl rfl n hn)
    simpa using this
  obtain ⟨a0, n0, cap0, rfl, i0, c0, m0, k0⟩ := ints_two (hval 0 38 v0 rfl rfl) h0 hw0
  obtain ⟨a1, rfl, rfl, rfl, w1⟩ := open_int Tryz.underlying3 (hval 1 3 v1 rfl rfl) h1
  obtain ⟨a2, n2, cap2, rfl, i2, c2, m2, k2⟩ := ints_two (hval 2 38 v2 rfl rfl) h2 hw2
  obtain ⟨a3, n3, cap3, rfl, i3, c3, m3, k3⟩ := ints_two (hval 3 38 v3 rfl rfl) h3 hw3
  have lt0 : ∀ x ∈ p0, x.block < W.heap.size := by obtain ⟨n, hn⟩ := h0; exact DataW.trod_lt n _ _ _ hn
  have lt2 : ∀ x ∈ p2, x.block < W.heap.size := by obtain ⟨n, hn⟩ := h2; exact DataW.trod_lt n _ _ _ hn
  have lt3 : ∀ x ∈ p3, x.block < W.heap.size := by obtain ⟨n, hn⟩ := h3; exact DataW.trod_lt n _ _ _ hn
  clear hA0 hval0
  refine (onetale_any a0 n0 cap0 a1 a2 n2 cap2 a3 n3 cap3 W i0 k0 c0 (bounds_i64 w1).1 i2 m2 i3 m3 (laid_onetale hL)).mono fun e W' ⟨he, bel⟩ => ?_
  subst he
  exact ⟨_, rfl, _, _, _, [], _, [], hW', trodAll_mk1 (shut_bool Tryz.underlying4 _), (trodAll_cons_mk (Below.trod onetale_laidOut (by kernel_rfl) (of_decide_eq_true (by kernel_rfl)) h0 bel lt0) (trodAll_cons_mk (shut_int Tryz.underlying3 w1) (trodAll_cons_mk (Below.trod onetale_laidOut (by kernel_rfl) (of_decide_eq_true (by kernel_rfl)) h2 bel lt2) (trodAll_cons_mk (Below.trod onetale_laidOut (by kernel_rfl) (of_decide_eq_true (by kernel_rfl)) h3 bel lt3) trodAll_mk0)))), rfl, bel.frame _, fun h => by cases h⟩

theorem onetale_row : Rows.OneTaleSaid :=
  OpenClaim.holds_of_wide 5 Tryz.f5 rfl rfl rfl rfl rfl rfl rfl ⟨rfl, rfl, rfl, rfl, rfl⟩ rfl rfl rfl rfl rfl (by kernel_rfl) Tryz.func5 (by kernel_rfl)
    (of_decide_eq_true (by kernel_rfl)) (by unfold Func.isWrapper; first | (rw [if_pos (by decide +kernel)]; kernel_rfl) | (rw [if_neg (by decide +kernel)]; exact ⟨rfl, rfl⟩))
    (fun os started H enc _ => onetale_lifted os started H enc)

theorem onetale_holds : Rows.OneTaleCardSaid :=
  Claim7.holds_tied_plain_at .later [] _ _ _ _ onetale_row (fun _ h => by cases h) (by kernel_rfl) (fun _ h => by cases h) oneTale_row_tie rfl ⟨rfl, rfl⟩ (by kernel_rfl) rfl
    (fun f fn hf hfn => by
      obtain rfl : f = 5 := Option.some.inj ((show Tryz.prog.funcNamed "chronicle/chroniclekeep.OneTale" = some 5 by kernel_rfl).symm.trans hf) |>.symm
      obtain rfl : fn = Tryz.f5 := (Option.some.inj (Tryz.func5.symm.trans hfn)).symm
      exact ⟨by kernel_rfl, fun j t ht => by
        rw [Tryz.params5] at ht
        have h3 : t = 38 ∨ t = 3 := by
          rcases j with _ | _ | _ | _ | j
          · exact .inl (by simpa using ht.symm)
          · exact .inr (by simpa using ht.symm)
          · exact .inl (by simpa using ht.symm)
          · exact .inl (by simpa using ht.symm)
          · simp at ht
        rcases h3 with rfl | rfl
        · exact (show Tryz.prog.wantsStandIn 38 = false by kernel_rfl)
        · exact (show Tryz.prog.wantsStandIn 3 = false by kernel_rfl)⟩)
    (by kernel_rfl)
#print axioms onetale_holds
end Go.Proofs.YtdjllnhahhjgmaaGreatDoor
