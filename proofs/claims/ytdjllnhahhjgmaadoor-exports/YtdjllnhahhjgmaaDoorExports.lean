/- Proved: whatever list of events chroniclelaw.Exports is called with, it returns true and its argument reads as before; the listed package-level tables start as the program's text lays them. -/
import Derived.Test.YtdjllnhahhjgmaaDoorRows
import Derived.Test.YtdjllnhahhjgmaaDoorCards
import Derived.Test.YtdjllnhahhjgmaaDoorTie
import Derived.Test.YtdjllnhahhjgmaaDoorW06
import Derived.WalkKit
import Derived.ProofKit
import Derived.OpenShut
import Derived.ChangeOld
import Derived.Below
import Derived.SizedLaws
import Derived.LaidMore
import Derived.Stop.Joined
import Derived.SevenTiedAt
namespace Go.Proofs.YtdjllnhahhjgmaaDoor
open Go.ChangeShapes Go.WideShapes Go.ChangeAt Go.WideMaps Go.WideElems Go.RowKit Chron

theorem exports_own : ownKnob Tryd.prog.godebug = none := by kernel_rfl
theorem exports_laidOut : laidOutB Tryd.prog = true := by kernel_rfl
theorem gKinds : Tryd.prog.globalNamed "chronicle/canon.kinds" = some 0 := by kernel_rfl
theorem tKinds : (Tryd.prog.globals[0]?).map (·.type) = some 63 := by kernel_rfl
theorem tPows : (Tryd.prog.globals[1]?).map (·.type) = some 78 := by kernel_rfl
theorem cellsPow : Tryd.prog.cellsOf 71 = 1 := by kernel_rfl
theorem cellsPows : Tryd.prog.cellsOf 78 = 20 := by kernel_rfl
theorem cellsFour : Tryd.prog.cellsOf 63 = 4 := by kernel_rfl

/- the door's own heap meets the condition -/
theorem exports_door (os : Os) (args : Array Value) : laidMetH Tryd.prog Rows.exportsRow.laid ((World.doorLaid Tryd.prog 400 os).forCall (fun _ _ => 0) ⟨#[], args, []⟩).memory :=
  laidMetH_of_parts3 (fuel := 8) (laidMet_of_run' 8 (by kernel_rfl) (by kernel_rfl)) (by kernel_rfl) (by kernel_rfl)

theorem kinds_of_laid {W : World} {rest : List (String × DataW Unit)} (h : laidMet Tryd.prog (("chronicle/canon.kinds", Rows.laid_chronicle_canon_kinds) :: rest) W) : Kinds W := by
  obtain ⟨ps, ⟨g, t, cs, fuel, p, q, hg, ht, hv, hd, _, _⟩, _⟩ := h
  obtain rfl := Option.some.inj (gKinds.symm.trans hg)
  obtain rfl := Option.some.inj (tKinds.symm.trans ht)
  obtain ⟨xs, m1, rfl, hx1, hlen, hn4, hel⟩ := DataW.trod_array Tryd.underlying63 hd
  have h0 := hel 0 (by decide)
  have h1 := hel 1 (by decide)
  have h2 := hel 2 (by decide)
  have h3 := hel 3 (by decide)
  simp only [Prod.mk.injEq, DataW.agg.injEq, Rows.laid_chronicle_canon_kinds] at hx1
  match xs, hn4, hx1, h0, h1, h2, h3 with
  | [x0, x1, x2, x3], _, hx1, h0, h1, h2, h3 =>
    simp only [List.map_cons, List.map_nil, List.cons.injEq, and_true] at hx1
    obtain ⟨s0, e0, f0, _⟩ := DataW.trod_string Tryd.underlying9 (show DataW.trod _ Tryd.prog W 0 _ false m1 9 _ = some x0 from h0)
    obtain ⟨s1, e1, f1, _⟩ := DataW.trod_string Tryd.underlying9 (show DataW.trod _ Tryd.prog W 0 _ false m1 9 _ = some x1 from h1)
    obtain ⟨s2, e2, f2, _⟩ := DataW.trod_string Tryd.underlying9 (show DataW.trod _ Tryd.prog W 0 _ false m1 9 _ = some x2 from h2)
    obtain ⟨s3, e3, f3, _⟩ := DataW.trod_string Tryd.underlying9 (show DataW.trod _ Tryd.prog W 0 _ false m1 9 _ = some x3 from h3)
    subst f0 f1 f2 f3
    simp only [DataW.lit.injEq, Lit.string.injEq] at hx1
    rw [cellsText] at e0 e1 e2 e3
    obtain ⟨⟨g0, g1, g2, g3⟩, _⟩ := hx1
    have at1 : ∀ (i : Nat) (v : Value), List.take 1 (List.drop (i * 1) cs.toList) = [v] → W.cell? ⟨0, i, none⟩ = some v := fun i v he => by
      rw [World.var?_cell hg hv i]
      have h9 := congrArg (·[0]?) he
      simpa [List.getElem?_take, List.getElem?_drop] using h9
    intro i hi
    have h4 : i = 0 ∨ i = 1 ∨ i = 2 ∨ i = 3 := by omega
    rcases h4 with rfl | rfl | rfl | rfl
    · rw [at1 0 _ e0]; exact congrArg (fun s => some (Value.string s)) (Chron.bytes_inj g0.symm)
    · rw [at1 1 _ e1]; exact congrArg (fun s => some (Value.string s)) (Chron.bytes_inj g1.symm)
    · rw [at1 2 _ e2]; exact congrArg (fun s => some (Value.string s)) (Chron.bytes_inj g2.symm)
    · rw [at1 3 _ e3]; exact congrArg (fun s => some (Value.string s)) (Chron.bytes_inj g3.symm)
theorem laid_of {W : World} (h : laidMetH Tryd.prog Rows.exportsRow.laid W) : LaidAt W := by
  rw [MakeChecks.laidMetH_plain _ _ _ (by kernel_rfl)] at h
  have h2 : laidMet Tryd.prog (("internal/strconv.uint64pow10", Rows.laid_internal_strconv_uint64pow10) :: [("chronicle/canon.kinds", Rows.laid_chronicle_canon_kinds)]) W := h.tail.tail
  exact ⟨kinds_of_laid h2.tail, Lib.tabIs_of_head gPows tPows Tryd.underlying78 Tryd.underlying71 cellsPow cellsPows h2⟩

set_option maxRecDepth 100000 in
theorem exports_lifted (os : Os) (started : os.Started) (H : Type) (enc : TypeId × Value → H) :
    ReturnsInHanded {} Tryd.checked os 3 .any (fun w args => (Rows.exportsSpec.pre enc Tryd.prog Tryd.f3 [] false w args ∧ laidMetH Tryd.prog Rows.exportsRow.laid w) ∧ sizedMet enc Tryd.prog Tryd.f3 (OpenSpec.ofChange Rows.exportsSpec) false w args)
      (Rows.exportsSpec.post enc Tryd.prog Tryd.f3 false true false false) := by
  refine returnsInHanded_of_change_and (C := Tryd.checked) (X := fun w _ => laidMetH Tryd.prog Rows.exportsRow.laid w) (fun _ _ _ hh h => h.of_heap hh) exports_own started (by kernel_rfl) Tryd.func3
    (ChangeSpec.witness_shaped (enc := enc) (C := Tryd.checked) (os := os) (X := fun w _ => laidMetH Tryd.prog Rows.exportsRow.laid w) false (World.doorLaid Tryd.prog 400 os) #[.slice none 0 0] 8 rfl (World.shaped_of_RefB (by kernel_rfl) (by kernel_rfl)) (by kernel_rfl) (by kernel_rfl) (by kernel_rfl) (exports_door os _)) ?_
  intro W base args ds gs before hval0 hW _ hsz0 hL _
  have hsz : (DataW.weightsEach Tryd.prog (Tryd.f3.params.toList ++ Rows.exportsSpec.plain.varTypes Tryd.prog) (ds ++ gs)).all (· ≤ reachBytes) = true := hsz0
  have hval : ∀ (j : Nat) t v, Tryd.f3.params[j]? = some t → args[j]? = some v → Value.okWide Tryd.prog W .any base t v := hval0
  have hW' := hW
  obtain ⟨p, q, hA0, hV, rfl, hfz, hnd⟩ := hW
  have hA : DataW.TrodAll enc Tryd.prog W 0 (fun _ => true) true Tryd.f3.params.toList args.toList ds p := hA0
  rw [Tryd.params3] at hA hval hsz
  obtain ⟨v0, d0, rfl, rfl, h0⟩ := trodAll_one hA
  obtain ⟨rfl, rfl⟩ := trodVars_none hV
  have hall := List.all_eq_true.1 hsz
  have hw0 : ∀ n ∈ d0.weights Tryd.prog 22, n ≤ reachBytes := fun n hn => by
    have := hall n (DataW.weights_mem_each (j := 0) (t := 22) (d := d0) rfl rfl n hn)
    simpa using this
  obtain ⟨a, cap, l, rfl, hl, hn⟩ := events_open (hval 0 22 v0 rfl rfl) h0 hw0
  have lt0 : ∀ x ∈ p, x.block < W.heap.size := by obtain ⟨n, hn⟩ := h0; exact DataW.trod_lt n _ _ _ hn
  clear hA0 hval0
  refine (exports_any a cap l W hl hn (laid_of hL)).mono fun e W' ⟨he, bel⟩ => ?_
  subst he
  exact ⟨_, rfl, _, _, _, [], _, [], hW', trodAll_mk1 (shut_bool Tryd.underlying4 _), trodAll_mk1 (Below.trod exports_laidOut (by kernel_rfl) (of_decide_eq_true (by kernel_rfl)) h0 bel lt0), rfl, bel.frame _, fun h => by cases h⟩

theorem exports_row : Rows.ExportsSaid :=
  OpenClaim.holds_of_wide 3 Tryd.f3 rfl rfl rfl rfl rfl rfl rfl ⟨rfl, rfl, rfl, rfl, rfl⟩ rfl rfl rfl rfl rfl (by kernel_rfl) Tryd.func3 (by kernel_rfl)
    (of_decide_eq_true (by kernel_rfl)) (by unfold Func.isWrapper; first | (rw [if_pos (by decide +kernel)]; kernel_rfl) | (rw [if_neg (by decide +kernel)]; exact ⟨rfl, rfl⟩))
    (fun os started H enc _ => exports_lifted os started H enc)

theorem exports_holds : Rows.ExportsCardSaid :=
  Claim7.holds_tied_plain_at .later [] [.data, .data, .data, .data] true (true, "c1e19918a36ed1c7aefd7f84a219211885f365501f2d704503e39000b21b99c3") false
    exports_row (fun _ h => by cases h) (by kernel_rfl) (fun _ h => by cases h) exports_row_tie rfl ⟨rfl, rfl⟩ (by kernel_rfl) rfl
    (fun f fn hf hfn => by
      obtain rfl : f = 3 := Option.some.inj ((show Tryd.prog.funcNamed "chronicle/chroniclelaw.Exports" = some 3 by kernel_rfl).symm.trans hf) |>.symm
      obtain rfl : fn = Tryd.f3 := (Option.some.inj (Tryd.func3.symm.trans hfn)).symm
      exact ⟨by kernel_rfl, fun j t ht => by
        rw [Tryd.params3] at ht
        have h3 : t = 22 := by
          rcases j with _ | j
          · simpa using ht.symm
          · simp at ht
        subst h3
        exact (show Tryd.prog.wantsStandIn 22 = false by kernel_rfl)⟩)
    (by kernel_rfl)
#print axioms exports_holds
end Go.Proofs.YtdjllnhahhjgmaaDoor
