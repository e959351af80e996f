/- Walks and plain facts, in the order in which they lean on one another. -/
import Derived.Test.YtdjllnhahhjgmaaGreatW13
import Derived.Test.YtdjllnhahhjgmaaGreatW09
import Derived.Test.YtdjllnhahhjgmaaGreatW05
import Derived.Test.YtdjllnhahhjgmaaGreatW04
import Derived.Test.YtdjllnhahhjgmaaGreatW12
import Derived.Test.YtdjllnhahhjgmaaGreatW11
namespace Chron
open Go Go.RowKit
def fillN (hn : Nat → Int) (i : Nat) (l : List Ev) : Nat := min (1 + hn i).toNat l.length
def fillV (hn hv : Nat → Int) (i : Nat) (l : List Ev) : Int := if (l.take (fillN hn i l)).all (goesB (1 + hv i)) = true then 1 + hv i else 3
/- in which version, and how many at a time, events are put in, as numbers say -/
def fillC (hn hv : Nat → Int) : Nat → Nat → List Ev → List Chunk
  | 0, _, _ => []
  | f + 1, i, l => if l = [] then [] else (fillV hn hv i l, l.take (fillN hn i l)) :: fillC hn hv f (i + 1) (l.drop (fillN hn i l))
theorem goes_new {e : Ev} (h : isB e = true) : goesB 3 e = true := by
  have h3 : isVer 3 = true := by decide
  have h4 : fitsB 3 e = true := by simp [fitsB]
  simp only [goesB, h3, h, h4, Bool.and_self]
theorem fillV_goes {hn hv : Nat → Int} {i : Nat} {l : List Ev} (h : ∀ e ∈ l, isB e = true) : ∀ e ∈ l.take (fillN hn i l), goesB (fillV hn hv i l) e = true := by
  intro e he
  unfold fillV
  split
  · rename_i hh; exact List.all_eq_true.1 hh e he
  · exact goes_new (h e (List.mem_of_mem_take he))
theorem fillN_pos {hn : Nat → Int} {i : Nat} {l : List Ev} (h0 : 0 ≤ hn i) (hl : l ≠ []) : 1 ≤ fillN hn i l ∧ fillN hn i l ≤ l.length := by
  have := List.length_pos_iff.2 hl
  unfold fillN; omega
theorem fillC_good {hn hv : Nat → Int} (h0 : ∀ i, 0 ≤ hn i) : ∀ (f i n : Nat) (l : List Ev), (∀ e ∈ l, isB e = true) → l.length ≤ f → n + l.length ≤ 200 → GoodC n (fillC hn hv f i l) ∧ evsOf (fillC hn hv f i l) = l
  | 0, i, n, l, _, hf, _ => by
    have : l = [] := List.eq_nil_of_length_eq_zero (by omega)
    subst this; exact ⟨trivial, rfl⟩
  | f + 1, i, n, l, h, hf, hn2 => by
    unfold fillC
    split
    · rename_i e; subst e; exact ⟨trivial, rfl⟩
    · rename_i e
      obtain ⟨k1, k2⟩ := fillN_pos (i := i) (h0 i) e
      have hl : (l.take (fillN hn i l)).length = fillN hn i l := by rw [List.length_take]; omega
      obtain ⟨r1, r2⟩ := fillC_good h0 f (i + 1) (n + fillN hn i l) (l.drop (fillN hn i l)) (fun e he => h e (List.mem_of_mem_drop he)) (by rw [List.length_drop]; omega) (by rw [List.length_drop]; omega)
      refine ⟨⟨⟨fillV_goes h, ?_, by show n + (l.take (fillN hn i l)).length ≤ 200; omega⟩, by rw [hl]; exact r1⟩, ?_⟩
      · intro e2
        have := congrArg List.length e2
        simp only [List.length_nil] at this
        omega
      · show l.take (fillN hn i l) ++ evsOf _ = l
        rw [r2, List.take_append_drop]
theorem fillC_step {hn hv : Nat → Int} {f i : Nat} {l : List Ev} (hl : l ≠ []) (hf : l.length ≤ f) : fillC hn hv f i l = (fillV hn hv i l, l.take (fillN hn i l)) :: fillC hn hv (f - 1) (i + 1) (l.drop (fillN hn i l)) := by
  obtain ⟨g, rfl⟩ : ∃ g, f = g + 1 := ⟨f - 1, by have := List.length_pos_iff.2 hl; omega⟩
  rw [fillC, if_neg hl]
  rfl
theorem fillC_end {hn hv : Nat → Int} {f i : Nat} : fillC hn hv f i [] = [] := by
  cases f with
  | zero => rfl
  | succ f => rw [fillC, if_pos rfl]
theorem fileB_snoc (cs : List Chunk) (c : Chunk) : fileB noB (cs ++ [c]) = fileB noB cs ++ entryB c.1 (lastB noB (evsOf cs)) c.2 := by
  rw [fileB_append]; simp [fileB]
theorem torn_nil (l : List Ev) : Torn l [] := .inl rfl
theorem readB_file {cs : List Chunk} (hg : GoodC 0 cs) : readB (fileB noB cs) = (evsOf cs, (fileB noB cs).length, true) := by
  have := readB_go (p := []) hg (torn_nil _)
  simpa using this
theorem fileB_short {cs : List Chunk} (hg : GoodC 0 cs) : (fileB noB cs).length ≤ 83800 := by
  have := (readB_any (fileB noB cs)).2.2.2
  rw [readB_file hg] at this
  exact this
theorem anew_good : ∀ (l : List Ev) (n : Nat), (∀ e ∈ l, isB e = true) → n + l.length ≤ 200 → GoodC n (anewC l)
  | [], _, _, _ => trivial
  | e :: r, n, h, hn => by
    simp only [List.length_cons] at hn
    refine ⟨⟨fun x hx => ?_, by simp, by simp; omega⟩, anew_good r (n + 1) (fun x hx => h x (List.mem_cons_of_mem _ hx)) (by omega)⟩
    simp at hx; subst hx
    exact goes_new (h _ List.mem_cons_self)
theorem anew_pos {l : List Ev} (h : l ≠ []) : fileB noB (anewC l) ≠ [] := by
  cases l with
  | nil => exact absurd rfl h
  | cons e r =>
    intro e2
    have h2 := congrArg List.length e2
    have h3 := entry_pos 3 noB [e]
    simp only [anewC, List.map_cons, fileB, List.length_append, List.length_nil] at h2
    omega
end Chron
namespace Go.Proofs.YtdjllnhahhjgmaaGreat
open Go.RowKit Chron
theorem reps_at {no j : Nat} {x : Value} (h : j < no) : (reps no [x])[j]? = some x := by rw [reps_one]; simp [h]
theorem reps_five {no j : Nat} {mc : List Value} (hm : mc.length = 5) (h : j < no) {c : Nat} (hc : c < 5) : (reps no mc)[j * 5 + c]? = mc[c]? := by
  induction no generalizing j with
  | zero => omega
  | succ n ih =>
    have e : reps (n + 1) mc = mc ++ reps n mc := by simp [reps, List.replicate_succ]
    rw [e]
    cases j with
    | zero => rw [Nat.zero_mul, Nat.zero_add, List.getElem?_append_left (by omega)]
    | succ j =>
      rw [List.getElem?_append_right (by omega)]
      have : (j + 1) * 5 + c - mc.length = j * 5 + c := by omega
      rw [this]
      exact ih (by omega)
set_option maxRecDepth 100000 in
set_option maxHeartbeats 4000000 in
theorem whole2_any (b : Nat) (pv mv tv ev : Value) (xs ys : List Value) (w : World) (HB : Hid (Book2 b pv mv tv ev xs ys w)) (hx : xs.length ≤ 2000000000) (hy : ys.length ≤ 2000000000) :
    Calls Tryz.prog 7 #[.pointer (some ⟨b, 1, none⟩)] w fun e w' => e = .returned (.bool true) ∧ Below w.heap.size w w' := by
  obtain ⟨ta, tc, htv, htc, _, hT⟩ := row_at HB.out.tags
  subst htv
  obtain ⟨ea, ec, hev, hec, _, hE⟩ := row_at HB.out.evts
  subst hev
  have HT := hide0 hT
  have HEV := hide0 hE
  have hblt : b < w.heap.size := HB.out.lt
  clear hT hE
  go_enter Tryz.func7, Tryz.ntmps7
  go_wp2
  go_loopw [3] (fun i wx => ∃ k : Nat, k ≤ xs.length ∧ i = .int .i64 k ∧ Hid (Below w.heap.size w wx)) (fun i _ => xs.length - (intOf i).toNat)
  case atStart => exact ⟨0, Nat.zero_le _, rfl, Below.refl _ _⟩
  case round =>
    obtain ⟨k, hk, rfl, HW⟩ := hrel
    have HBk := hide0 (HB.out.below HW.out)
    obtain ⟨d0, d1, df⟩ := book_cells4 HBk.out.blk
    by_cases hlt : k < xs.length
    · obtain ⟨v, hv⟩ : ∃ v, xs[k]? = some v := ⟨xs[k], by simp [hlt]⟩
      obtain ⟨gt, rfl, c1w⟩ := HT.out k v hv
      have hglt := World.block_lt_of_cell? w _ c1w
      have c1 : wr.cell? ⟨gt, k, none⟩ = some v := (HW.out.cell (p := ⟨gt, k, none⟩) hglt).trans c1w
      obtain ⟨a, no, cap, rfl, hno, hnc, HC⟩ : ∃ a no cap, v = .slice a no cap ∧ no ≤ 7 ∧ no ≤ cap ∧ Hid (∀ j, j < no → ∃ g, a = some ⟨g, 0, none⟩ ∧ g < w.heap.size ∧ w.cell? ⟨g, j, none⟩ = some (.string (badB (k / 4)))) := by
        rcases HB.out.full k v hv with rfl | ⟨g, no, cap, ho, h2, h3⟩
        · exact ⟨none, 0, 0, rfl, Nat.zero_le _, Nat.le_refl _, fun j hj => by omega⟩
        · exact ⟨some ⟨g, 0, none⟩, no, cap, ho.val, ho.few, ho.room, fun j hj => ⟨g, rfl, ho.lt, ho.cells j _ (reps_at hj)⟩⟩
      have hki : (k : Int) < (xs.length : Int) := by omega
      have HC1 := hide0 c1w
      clear c1w hv
      go_wp2
      clear d0 d1 df c1 HBk
      go_loopw [4] (fun i wx => ∃ j : Nat, j ≤ no ∧ i = .int .i64 j ∧ Hid (Below w.heap.size w wx)) (fun i _ => no - (intOf i).toNat)
      case atStart => exact ⟨0, Nat.zero_le _, rfl, HW⟩
      case round =>
        obtain ⟨j, hj, rfl, HWj⟩ := hrel
        obtain ⟨d0, d1, df⟩ := book_cells4 (HB.out.below HWj.out).blk
        have c1 := (HWj.out.cell (p := ⟨gt, k, none⟩) hglt).trans HC1.out
        have hbs := HWj.out.size
        by_cases hjl : j < no
        · obtain ⟨g, rfl, hgw, c2w⟩ := HC.out j hjl
          have c2 := (HWj.out.cell (p := ⟨g, j, none⟩) hgw).trans c2w
          have hji : (j : Int) < (no : Int) := by omega
          have hbt : ∀ (n : Int) (w' : World), Hid (0 ≤ n ∧ n.toNat = k / 4) → Calls Tryz.prog 18 #[.int .i64 n] w' fun e w'' => e = .returned (.string (badB (k / 4))) ∧ Below w'.heap.size w' w'' := by
            intro n w' hn
            have := badTag_any n w' hn.out.1 (by show n.toNat < 26 ^ 13; rw [hn.out.2]; omega)
            rw [hn.out.2] at this
            exact this
          have hwk : Hid (0 ≤ IntKind.i64.wrap ((k : Int) / 4) ∧ (IntKind.i64.wrap ((k : Int) / 4)).toNat = k / 4) := by show _ ∧ _; rw [wrapI_small (by omega) (by omega)]; exact ⟨by omega, by omega⟩
          have hbb : ((badB (k / 4)).toList == (badB (k / 4)).toList) = true := by simp
          clear c2w
          generalize badB (k / 4) = m at c2 hbt hbb
          go_wp2_with fail
          go_region_held (fun w' => w'.cell? ⟨b, 1, none⟩ = some (.slice (some ⟨gt, 0, none⟩) xs.length tc) ∧ w'.cell? ⟨gt, k, none⟩ = some (.slice (some ⟨g, 0, none⟩) no cap) ∧ w'.cell? ⟨g, j, none⟩ = some (.string m)) (go_keep)
            (first | (go_at_call 18; refine (hbt _ _ hwk).mono ?_; rintro e w2 ⟨rfl, hb2⟩; have q0 := (hb2.cell (p := ⟨b, 1, none⟩) (Nat.lt_of_lt_of_le hblt hbs)).trans d0; have q1 := (hb2.cell (p := ⟨gt, k, none⟩) (Nat.lt_of_lt_of_le hglt hbs)).trans c1; have q2 := (hb2.cell (p := ⟨g, j, none⟩) (Nat.lt_of_lt_of_le hgw hbs)).trans c2))
          all_goals
            have HW2 := hide0 (HWj.out.drew.trans (hb2.mono hbs))
            go_wp2
            go_roundw
            case rel => exact ⟨j + 1, by omega, by go_num, HW2⟩
            case measure => simp [intOf]; omega
        · have hji : (no : Int) ≤ (j : Int) := by omega
          go_wp2
          go_roundw
          case rel => exact ⟨k + 1, by omega, by go_num, HWj⟩
          case measure => simp [intOf]; omega
    · have hki : (xs.length : Int) ≤ (k : Int) := by omega
      go_wp2
      clear d0 d1 df HBk
      go_loopw [5] (fun i wx => ∃ k : Nat, k ≤ ys.length ∧ i = .int .i64 k ∧ Hid (Below w.heap.size w wx)) (fun i _ => ys.length - (intOf i).toNat)
      case atStart => exact ⟨0, Nat.zero_le _, rfl, HW⟩
      case round =>
        obtain ⟨p, hp, rfl, HWp⟩ := hrel
        obtain ⟨d0, d1, df⟩ := book_cells4 (HB.out.below HWp.out).blk
        by_cases hlt : p < ys.length
        · obtain ⟨v, hv⟩ : ∃ v, ys[p]? = some v := ⟨ys[p], by simp [hlt]⟩
          obtain ⟨gt, rfl, c1w⟩ := HEV.out p v hv
          have hglt := World.block_lt_of_cell? w _ c1w
          have c1 : wr.cell? ⟨gt, p, none⟩ = some v := (HWp.out.cell (p := ⟨gt, p, none⟩) hglt).trans c1w
          obtain ⟨a, no, cap, rfl, hno, hnc, HC⟩ : ∃ a no cap, v = .slice a no cap ∧ no ≤ 203 ∧ no ≤ cap ∧ Hid (∀ j, j < no → ∃ g, a = some ⟨g, 0, none⟩ ∧ g < w.heap.size ∧ ∀ c, c < 5 → w.cell? ⟨g, j * 5 + c, none⟩ = (badV (p / 4))[c]?) := by
            rcases HB.out.fullE p v hv with rfl | ⟨g, no, cap, ho, h2, h3⟩
            · exact ⟨none, 0, 0, rfl, Nat.zero_le _, Nat.le_refl _, fun j hj => by omega⟩
            · refine ⟨some ⟨g, 0, none⟩, no, cap, ho.val, ho.few, ho.room, fun j hj => ⟨g, rfl, ho.lt, fun c hc => ?_⟩⟩
              have h5 := reps_five (mc := badV (p / 4)) rfl hj hc
              obtain ⟨u, hu⟩ : ∃ u, (badV (p / 4))[c]? = some u := ⟨_, List.getElem?_eq_getElem (show c < (badV (p / 4)).length from hc)⟩
              rw [hu] at h5 ⊢
              exact ho.cells _ _ h5
          have hki2 : (p : Int) < (ys.length : Int) := by omega
          have HC1 := hide0 c1w
          clear c1w hv
          go_wp2
          clear d0 d1 df c1
          go_loopw [6] (fun i wx => ∃ j : Nat, j ≤ no ∧ i = .int .i64 j ∧ Hid (Below w.heap.size w wx)) (fun i _ => no - (intOf i).toNat)
          case atStart => exact ⟨0, Nat.zero_le _, rfl, HWp⟩
          case round =>
            obtain ⟨j, hj, rfl, HWj⟩ := hrel
            obtain ⟨d0, d1, df⟩ := book_cells4 (HB.out.below HWj.out).blk
            have c1 := (HWj.out.cell (p := ⟨gt, p, none⟩) hglt).trans HC1.out
            have hbs := HWj.out.size
            by_cases hjl : j < no
            · obtain ⟨g, rfl, hgw, c2w⟩ := HC.out j hjl
              have hji : (j : Int) < (no : Int) := by omega
              obtain ⟨z, HZ, hz⟩ : ∃ z : Int, Hid (z = -1000 - ((p / 4 : Nat) : Int)) ∧ badV (p / 4) = [.int .i64 z, .string ⟨#[]⟩, .int .i64 0, .string callerB, .slice none 0 0] := ⟨_, rfl, rfl⟩
              have hcells : ∀ X, Below w.heap.size w X → X.cell? ⟨b, 2, none⟩ = some (.slice (some ⟨gt, 0, none⟩) ys.length ec) ∧ X.cell? ⟨gt, p, none⟩ = some (.slice (some ⟨g, 0, none⟩) no cap) ∧ X.cell? ⟨g, j * 5, none⟩ = some (.int .i64 z) ∧ X.cell? ⟨g, j * 5 + 1, none⟩ = some (.string ⟨#[]⟩) ∧ X.cell? ⟨g, j * 5 + 2, none⟩ = some (.int .i64 0) ∧ X.cell? ⟨g, j * 5 + 3, none⟩ = some (.string callerB) ∧ X.cell? ⟨g, j * 5 + 4, none⟩ = some (.slice none 0 0) := by
                intro X hX
                have e1 := (book_cells4 (HB.out.below hX).blk).2.1
                have ce : ∀ c u, c < 5 → (badV (p / 4))[c]? = some u → X.cell? ⟨g, j * 5 + c, none⟩ = some u := fun c u hc hu => (hX.cell (p := ⟨g, j * 5 + c, none⟩) hgw).trans ((c2w c hc).trans hu)
                refine ⟨e1, (hX.cell (p := ⟨gt, p, none⟩) hglt).trans HC1.out, ce 0 _ (by decide) (by rw [hz]; rfl), ce 1 _ (by decide) (by rw [hz]; rfl), ce 2 _ (by decide) (by rw [hz]; rfl), ce 3 _ (by decide) (by rw [hz]; rfl), ce 4 _ (by decide) (by rw [hz]; rfl)⟩
              have hBE : ∀ (n : Int) (X : World), Hid (n = ((p / 4 : Nat) : Int)) → Hid (Below w.heap.size w X) → Calls Tryz.prog 20 #[.int .i64 n] X fun e X' => e = .returned (.agg #[.int .i64 z, .string ⟨#[]⟩, .int .i64 0, .string callerB, .slice none 0 0]) ∧ Hid (Below w.heap.size w X') ∧ X'.cell? ⟨b, 2, none⟩ = some (.slice (some ⟨gt, 0, none⟩) ys.length ec) ∧ X'.cell? ⟨gt, p, none⟩ = some (.slice (some ⟨g, 0, none⟩) no cap) ∧ X'.cell? ⟨g, j * 5, none⟩ = some (.int .i64 z) ∧ X'.cell? ⟨g, j * 5 + 1, none⟩ = some (.string ⟨#[]⟩) ∧ X'.cell? ⟨g, j * 5 + 2, none⟩ = some (.int .i64 0) ∧ X'.cell? ⟨g, j * 5 + 3, none⟩ = some (.string callerB) ∧ X'.cell? ⟨g, j * 5 + 4, none⟩ = some (.slice none 0 0) := by
                intro n X hn hX
                refine (badEvent_any n (p / 4) X hn.out (by omega)).mono ?_
                rintro e X' ⟨rfl, hb⟩
                have h2 := hX.out.trans (hb.mono hX.out.size)
                exact ⟨by rw [hz], h2, hcells _ h2⟩
              have hSM : ∀ X, Hid (Below w.heap.size w X) → Calls Tryz.prog 19 #[.agg #[.int .i64 z, .string ⟨#[]⟩, .int .i64 0, .string callerB, .slice none 0 0], .agg #[.int .i64 z, .string ⟨#[]⟩, .int .i64 0, .string callerB, .slice none 0 0]] X fun e X' => e = .returned (.bool true) ∧ Hid (Below w.heap.size w X') ∧ X'.cell? ⟨b, 2, none⟩ = some (.slice (some ⟨gt, 0, none⟩) ys.length ec) ∧ X'.cell? ⟨gt, p, none⟩ = some (.slice (some ⟨g, 0, none⟩) no cap) ∧ X'.cell? ⟨g, j * 5, none⟩ = some (.int .i64 z) ∧ X'.cell? ⟨g, j * 5 + 1, none⟩ = some (.string ⟨#[]⟩) ∧ X'.cell? ⟨g, j * 5 + 2, none⟩ = some (.int .i64 0) ∧ X'.cell? ⟨g, j * 5 + 3, none⟩ = some (.string callerB) ∧ X'.cell? ⟨g, j * 5 + 4, none⟩ = some (.slice none 0 0) := by
                intro X hX
                have hS := same_law ⟨z, ⟨#[]⟩, 0, callerB, []⟩ ⟨z, ⟨#[]⟩, 0, callerB, []⟩ none none 0 0 X (fun h => by cases h) (fun h => by cases h) (Nat.zero_le _) (Nat.zero_le _)
                rw [sameEv_iff.2 rfl] at hS
                refine Calls.mono hS ?_
                rintro e X' ⟨rfl, hb⟩
                have h2 := hX.out.trans (hb.mono hX.out.size)
                exact ⟨rfl, h2, hcells _ h2⟩
              have hwk : Hid (IntKind.i64.wrap ((p : Int) / 4) = ((p / 4 : Nat) : Int)) := by show _ = _; rw [wrapI_small (by omega) (by omega)]; omega
              have HWd : Hid (Below w.heap.size w wr.drew) := HWj.out.drew
              obtain ⟨_, _, c20, c21, c22, c23, c24⟩ := hcells wr HWj.out
              clear hcells c2w hz
              go_wp2_with fail
              go_region_held (fun X => X.cell? ⟨b, 2, none⟩ = some (.slice (some ⟨gt, 0, none⟩) ys.length ec) ∧ X.cell? ⟨gt, p, none⟩ = some (.slice (some ⟨g, 0, none⟩) no cap) ∧ X.cell? ⟨g, j * 5, none⟩ = some (.int .i64 z) ∧ X.cell? ⟨g, j * 5 + 1, none⟩ = some (.string ⟨#[]⟩) ∧ X.cell? ⟨g, j * 5 + 2, none⟩ = some (.int .i64 0) ∧ X.cell? ⟨g, j * 5 + 3, none⟩ = some (.string callerB) ∧ X.cell? ⟨g, j * 5 + 4, none⟩ = some (.slice none 0 0)) (go_keep)
                (first
                  | (go_at_call 20; refine (hBE _ _ hwk (by first | assumption | exact HWd)).mono ?_; rintro e w1 ⟨rfl, HW1, q0, q1, q2, q3, q4, q5, q6⟩)
                  | (go_at_call 19; refine (hSM _ (by first | assumption | exact HWd)).mono ?_; rintro e w2 ⟨rfl, HW2, r0, r1, r2, r3, r4, r5, r6⟩))
              all_goals
                clear q0 q1 q2 q3 q4 q5 q6 r0 r1 r2 r3 r4 r5 r6 c20 c21 c22 c23 c24 d0 d1 df c1
                go_wp2
                go_roundw
                case rel => exact ⟨j + 1, by omega, by go_num, HW2⟩
                case measure => simp [intOf]; omega
            · have hji : (no : Int) ≤ (j : Int) := by omega
              go_wp2
              go_roundw
              case rel => exact ⟨p + 1, by omega, by go_num, HWj⟩
              case measure => simp [intOf]; omega
        · have hpi : (ys.length : Int) ≤ (p : Int) := by omega
          go_wp2
          go_ret
          exact ⟨rfl, HWp.out⟩
end Go.Proofs.YtdjllnhahhjgmaaGreat
namespace Go.Proofs.YtdjllnhahhjgmaaGreat
open Go.RowKit Chron
structure Pr where
  P : Nat
  p : Nat
  fv : Value
  ev : Value
  js : List Item
  lv : Value
  its : List Item
  cv : Value
  sv : Value
  pf : List UInt8
  cs : List Nat
  ss : List Nat
  fl : List UInt8
def Pr.arch (r : Pr) : Nat → Prop := Foot r.p r.fv r.ev r.js
def Pr.foot (r : Pr) (q : Nat) : Prop := q = r.P ∨ r.arch q ∨ r.lv.ownBlock = some q ∨ r.cv.ownBlock = some q ∨ r.sv.ownBlock = some q
def ints (l : List Nat) : List Value := l.map fun (n : Nat) => Value.int .i64 (n : Int)
/- at each stand: how many events there are, and how long the file is -/
def standC (C0 D : List Chunk) (k : Nat) : Nat := (evsOf (C0 ++ D.take k)).length
def standS (C0 D : List Chunk) (k : Nat) : Nat := (fileB noB (C0 ++ D.take k)).length
structure PairM (w0 w : World) (B : Nat) (r : Pr) : Prop where
  blk : w.heap[r.P]? = some (.cells #[.pointer (some ⟨r.p, 0, none⟩), r.lv, r.cv, r.sv, .string ⟨r.pf.toArray⟩] 50)
  arc : ArchO B r.p w r.fv r.ev r.fl r.js
  row : w.ownsRow B 38 5 r.lv r.its.length (fives r.its)
  tags : ∀ it ∈ r.its, ItemOk w0 it ∧ ∀ q off, 0 < it.ev.tags.length → it.at' = some ⟨q, off, none⟩ → q < w0.heap.size
  cnt : w.ownsRow B 3 1 r.cv r.cs.length (ints r.cs)
  std : w.ownsRow B 3 1 r.sv r.ss.length (ints r.ss)
  PB : B ≤ r.P
  w0B : w0.heap.size ≤ B
  nP : ¬ r.arch r.P ∧ r.lv.ownBlock ≠ some r.P ∧ r.cv.ownBlock ≠ some r.P ∧ r.sv.ownBlock ≠ some r.P
  nL : ∀ q, r.lv.ownBlock = some q → ¬ r.arch q ∧ r.cv.ownBlock ≠ some q ∧ r.sv.ownBlock ≠ some q
  nC : ∀ q, r.cv.ownBlock = some q → ¬ r.arch q ∧ r.sv.ownBlock ≠ some q
  nS : ∀ q, r.sv.ownBlock = some q → ¬ r.arch q
/- what a pair's lists and texts say -/
structure PairL (crash : Bool) (r : Pr) (C0 D : List Chunk) : Prop where
  file : r.fl = fileB noB (C0 ++ D)
  same : evs r.its = evs r.js
  told : evs r.js = evsOf (C0 ++ D)
  good : GoodC 0 (C0 ++ D)
  stood : crash = true → r.pf = r.fl ∧ r.cs = (List.range (D.length + 1)).map (standC C0 D) ∧ r.ss = (List.range (D.length + 1)).map (standS C0 D)
  idle : crash = false → r.cs.length ≤ 1 ∧ r.ss.length ≤ 1
theorem PairM.lt {w0 w : World} {B : Nat} {r : Pr} (h : PairM w0 w B r) : ∀ q, r.foot q → B ≤ q ∧ q < w.heap.size := by
  rintro q (rfl | hq | hq | hq | hq)
  · exact ⟨h.PB, (Array.getElem?_eq_some_iff.1 h.blk).1⟩
  · exact h.arc.lt q hq
  · exact h.row.lt q hq
  · exact h.cnt.lt q hq
  · exact h.std.lt q hq
theorem PairM.keep {w0 w w' : World} {B : Nat} {r : Pr} (h : PairM w0 w B r) (hb : ∀ q, r.foot q → w'.heap[q]? = w.heap[q]?) : PairM w0 w' B r :=
  ⟨(hb r.P (.inl rfl)).trans h.blk, h.arc.keep (fun q hq => hb q (.inr (.inl hq))), own_of_block h.row (fun q hq => hb q (.inr (.inr (.inl hq)))), h.tags, own_of_block h.cnt (fun q hq => hb q (.inr (.inr (.inr (.inl hq))))), own_of_block h.std (fun q hq => hb q (.inr (.inr (.inr (.inr hq))))), h.PB, h.w0B, h.nP, h.nL, h.nC, h.nS⟩
theorem PairM.below {w0 w w' : World} {B : Nat} {r : Pr} (h : PairM w0 w B r) (hb : Below w.heap.size w w') : PairM w0 w' B r := h.keep fun q hq => hb.block q (h.lt q hq).2
/- the law's list of events, as it lies -/
theorem PairM.evsAt {w0 w : World} {B : Nat} {r : Pr} (h : PairM w0 w B r) (h0 : Below w0.heap.size w0 w) : ∃ a cap, r.lv = .slice a r.its.length cap ∧ r.its.length ≤ cap ∧ EvsAt w a r.its := by
  rcases h.row.2 with ⟨hv, hn⟩ | ⟨g, cap, cur, hv, _, hg, hc, _, hs, ht⟩
  · exact ⟨none, 0, by rw [hv, hn], by omega, fun hp => by omega⟩
  · refine ⟨_, cap, hv, hc, fun _ => ⟨g, 0, rfl, fun k i hk => ⟨?_, ((h.tags i (List.mem_of_getElem? hk)).1).below h0 (Nat.le_refl _)⟩⟩⟩
    have hlen := (List.getElem?_eq_some_iff.1 hk).1
    have hcell : ∀ j u, i.five[j]? = some u → w.cell? ⟨g, 0 + k * 5 + j, none⟩ = some u := by
      intro j u hu
      have hj : j < 5 := by have := (List.getElem?_eq_some_iff.1 hu).1; simpa [Item.five] using this
      have h1 : (fives r.its)[k * 5 + j]? = some u := by
        exact (fives_at hk hj).trans hu
      rw [← ht, List.getElem?_take] at h1
      split at h1
      · rw [cell_of_row w g _ cur 38 (0, 0) hg, Nat.zero_add]
        simpa using h1
      · cases h1
    exact ⟨hcell 0 _ rfl, hcell 1 _ rfl, hcell 2 _ rfl, hcell 3 _ rfl, hcell 4 _ rfl⟩
theorem goodC_count {n : Nat} {cs : List Chunk} (h : GoodC n cs) : cs.length ≤ (evsOf cs).length ∧ (cs ≠ [] → n + (evsOf cs).length ≤ 200) := by
  induction cs generalizing n with
  | nil => simp [evsOf]
  | cons c cs ih =>
    obtain ⟨h1, h2⟩ := h
    have i := ih h2
    have hne : 0 < c.2.length := List.length_pos_iff.2 h1.some
    have hf := h1.few
    have e : (evsOf (c :: cs)).length = c.2.length + (evsOf cs).length := by simp [evsOf]
    refine ⟨by rw [e]; simp; omega, fun _ => ?_⟩
    rw [e]
    by_cases hc : cs = []
    · subst hc; simp [evsOf]; exact hf
    · have := i.2 hc; omega
theorem PairL.few {crash : Bool} {r : Pr} {C0 D : List Chunk} (h : PairL crash r C0 D) : r.cs.length ≤ 900000 ∧ r.ss.length ≤ 900000 := by
  cases crash with
  | false => have := h.idle rfl; omega
  | true =>
    obtain ⟨_, h1, h2⟩ := h.stood rfl
    have hl := goodC_count h.good
    have hD : D.length ≤ 200 := by
      by_cases hc : C0 ++ D = []
      · have := (List.append_eq_nil_iff.1 hc).2; simp [this]
      · have := hl.2 hc; have := hl.1; simp at this; omega
    rw [h1, h2]
    simp; omega
end Go.Proofs.YtdjllnhahhjgmaaGreat
namespace Go.Proofs.YtdjllnhahhjgmaaGreat
open Go.RowKit Chron
theorem five_cells {w : World} {p : Nat} {a b c d e : Value} {t : TypeId} (h : w.heap[p]? = some (.cells #[a, b, c, d, e] t)) :
    w.cell? ⟨p, 0, none⟩ = some a ∧ w.cell? ⟨p, 1, none⟩ = some b ∧ w.cell? ⟨p, 2, none⟩ = some c ∧ w.cell? ⟨p, 3, none⟩ = some d ∧ w.cell? ⟨p, 4, none⟩ = some e ∧ ∀ o, w.frozen? ⟨p, o, none⟩ = false := by
  simp [World.cell?, World.frozen?, h]
theorem goes_split (v : Int) (e : Ev) (hv : isVer v = true) : goesB v e = (isB e && fitsB v e) := by simp [goesB, hv]
set_option maxRecDepth 100000 in
set_option maxHeartbeats 2000000 in
theorem pfits_any (P : Nat) (v : Int) (xv cv sv fv : Value) (la : Option Addr) (n lc : Nat) (a : Option Addr) (cap : Nat) (ls : List Item) (w : World) (hb : w.heap[P]? = some (.cells #[xv, .slice la n lc, cv, sv, fv] 50)) (hn : n ≤ 200) (hE : Hid (EvsAt w a ls)) (hl : ls.length ≤ 100000000) :
    Calls Tryz.prog 27 #[.pointer (some ⟨P, 0, none⟩), .int .i64 v, .slice a ls.length cap] w fun e w' => e = .returned (.int .i64 (refB v n (evs ls))) ∧ Hid (Below w.heap.size w w') := by
  have hes : (evs ls).length = ls.length := by simp [evs]
  obtain ⟨c0, c1, c2, c3, c4, cz⟩ := five_cells hb
  by_cases hv : isVer v = true
  · have hv1 : ¬ v < 1 ∧ ¬ 3 < v := by simp [isVer] at hv; omega
    obtain ⟨hv1, hv3⟩ := hv1
    by_cases hm : 200 < n + ls.length
    · have HR : Hid (refB v n (evs ls) = 5) := by show _ = _; rw [refB, if_neg (by simp [hv]), if_pos (by omega)]
      have hlt : (200 : Int) < (n : Int) + (ls.length : Int) := by omega
      clear hv
      go_enter Tryz.func27, Tryz.ntmps27
      go_wp2
      go_ret
      exact ⟨by rw [HR.out]; rfl, Below.refl _ _⟩
    · have hlt : ¬ (200 : Int) < (n : Int) + (ls.length : Int) := by omega
      have HR : Hid (refB v n (evs ls) = if (evs ls).all (goesB v) = true then 0 else 2) := by show _ = _; rw [refB, if_neg (by simp [hv]), if_neg (by omega)]
      have HV := hide0 hv
      clear hv hm
      go_enter Tryz.func27, Tryz.ntmps27
      go_wp2_with fail
      clear hlt
      go_loopw [7] (fun iv wx => ∃ i : Nat, i ≤ ls.length ∧ iv = .int .i64 i ∧ Hid (∀ e ∈ (evs ls).take i, goesB v e = true) ∧ Hid (Below w.heap.size w wx)) (fun i _ => ls.length - (intOf i).toNat)
      case atStart => exact ⟨0, Nat.zero_le _, rfl, (fun e he => by simp at he), Below.refl _ _⟩
      case round =>
        obtain ⟨i, hi, rfl, HG, HB⟩ := hrel
        by_cases hlt : i < ls.length
        · obtain ⟨g, off, rfl, hc⟩ := hE.out.below HB.out (Nat.le_refl _) (by omega)
          obtain ⟨hcell, hitem⟩ := hc i ls[i] (List.getElem?_eq_getElem hlt)
          have hx : (evs ls)[i]? = some ls[i].ev := by simp [evs, hlt]
          have HX := hide0 hx
          generalize ls[i] = it at hcell hitem HX hx
          obtain ⟨⟨k, t, m, b, ts⟩, ia, ic⟩ := it
          obtain ⟨d0, d1, d2, d3, d4⟩ := hcell
          obtain ⟨htg, hsh, hfw, htk, hbd⟩ := hitem
          simp only at d0 d1 d2 d3 d4 htg hsh hfw htk hbd
          have hsz := HB.out.size
          have hii : (i : Int) < (ls.length : Int) := by omega
          have hG := good_any k t m b ia ic ts wr htg hsh (by unfold maxLen; omega) htk hbd
          have hltb : g < wr.heap.size := World.block_lt_of_cell? wr _ d0
          have HGS := hide0 (goes_split v ⟨k, t, m, b, ts⟩ HV.out)
          have hFE := fitsR_eq (e := ⟨k, t, m, b, ts⟩) HV.out
          simp only at hFE
          clear hc hx
          generalize isB ⟨k, t, m, b, ts⟩ = gd at hG HGS
          generalize fitsB v ⟨k, t, m, b, ts⟩ = ft at hFE HGS
          go_wp2_with fail
          refine hG.mono ?_
          rintro e w2 ⟨rfl, hb2⟩
          have hs2 := hb2.size
          have e0 := (hb2.cell (p := ⟨g, off + i * 5, none⟩) hltb).trans d0
          have e1 := (hb2.cell (p := ⟨g, off + i * 5 + 1, none⟩) hltb).trans d1
          have e2 := (hb2.cell (p := ⟨g, off + i * 5 + 2, none⟩) hltb).trans d2
          have e3 := (hb2.cell (p := ⟨g, off + i * 5 + 3, none⟩) hltb).trans d3
          have e4 := (hb2.cell (p := ⟨g, off + i * 5 + 4, none⟩) hltb).trans d4
          have hF := Go.Proofs.YtdjllnhahhjgmaaGreat.fits_any v k t m b ia ts.length ic w2
          rw [hFE] at hF
          have HB2 := hide0 (HB.out.trans (hb2.mono hsz))
          clear hG hb2 d0 d1 d2 d3 d4 htg hsh hFE
          go_wp2_with fail
          refine hF.mono ?_
          rintro e w3 ⟨rfl, hb3⟩
          have HB3 := hide0 (HB2.out.trans (hb3.mono (by omega)))
          clear hF hb3 e0 e1 e2 e3 e4
          by_cases hgo : goesB v ⟨k, t, m, b, ts⟩ = true
          · have HG2 : Hid (∀ e ∈ (evs ls).take (i + 1), goesB v e = true) := by
              intro e he
              rw [List.take_add_one, HX.out] at he
              rcases List.mem_append.1 he with h | h
              · exact HG.out e h
              · simp at h; subst h; exact hgo
            have hbb : gd = true ∧ ft = true := by
              have h9 := HGS.out.symm.trans hgo
              simpa using h9
            obtain ⟨rfl, rfl⟩ := hbb
            clear hgo
            go_wp2
            go_roundw
            case rel => exact ⟨i + 1, by omega, by go_num, HG2, HB3⟩
            case measure => simp [intOf]; omega
          · have HR2 : Hid (refB v n (evs ls) = 2) := by
              show _ = _
              rw [HR.out, if_neg]
              intro h
              exact hgo (List.all_eq_true.1 h _ (List.mem_of_getElem? HX.out))
            have hbb : gd = false ∨ (gd = true ∧ ft = false) := by
              have h9 : ¬ (gd && ft) = true := fun h => hgo (HGS.out.trans h)
              cases gd <;> cases ft <;> simp at h9 ⊢
            clear hgo
            rcases hbb with rfl | ⟨rfl, rfl⟩
            all_goals
              go_wp2
              go_ret
              exact ⟨by rw [HR2.out]; rfl, HB3⟩
        · have HR0 : Hid (refB v n (evs ls) = 0) := by
            show _ = _
            rw [HR.out, if_pos]
            rw [List.all_eq_true]
            have h9 := HG.out
            rw [List.take_of_length_le (by omega)] at h9
            exact h9
          go_wp2
          go_ret
          exact ⟨by rw [HR0.out]; rfl, HB⟩
  · have HR : Hid (refB v n (evs ls) = 1) := by show _ = _; rw [refB, if_pos (by simpa using hv)]
    have hv1 : v < 1 ∨ 3 < v := by simp [isVer] at hv; omega
    clear hv
    rcases hv1 with hv1 | hv1
    · go_enter Tryz.func27, Tryz.ntmps27
      go_wp2
      go_ret
      exact ⟨by rw [HR.out]; rfl, Below.refl _ _⟩
    · have hv2 : ¬ v < 1 := by omega
      go_enter Tryz.func27, Tryz.ntmps27
      go_wp2
      go_ret
      exact ⟨by rw [HR.out]; rfl, Below.refl _ _⟩
end Go.Proofs.YtdjllnhahhjgmaaGreat
namespace Go.Proofs.YtdjllnhahhjgmaaGreat
open Go.RowKit Chron
theorem five_set {w : World} {p : Nat} {a b c d e u : Value} {t : TypeId} {i : Nat} (h : w.heap[p]? = some (.cells #[a, b, c, d, e] t)) : (w.setCell ⟨p, i, none⟩ u).heap[p]? = some (.cells (#[a, b, c, d, e].setIfInBounds i u) t) := by
  simp only [World.setCell, Array.getElem?_modify, if_true, h, Option.map_some]
  rfl
theorem PairM.setFile {w0 w : World} {B : Nat} {r : Pr} (h : PairM w0 w B r) (F : List UInt8) : PairM w0 (w.setCell ⟨r.P, 4, none⟩ (.string ⟨F.toArray⟩)) B { r with pf := F } ∧ Moved w (w.setCell ⟨r.P, 4, none⟩ (.string ⟨F.toArray⟩)) r.foot r.foot := by
  have key : ∀ q, q ≠ r.P → (w.setCell ⟨r.P, 4, none⟩ (.string ⟨F.toArray⟩)).heap[q]? = w.heap[q]? := fun q hq => Below.heap_setCell _ _ _ _ hq
  refine ⟨⟨five_set h.blk, h.arc.keep (fun q hq => key q (fun e => h.nP.1 (by rw [← e]; exact hq))), own_of_block h.row (fun q hq => key q (fun e => h.nP.2.1 (by rw [← e]; exact hq))), h.tags, own_of_block h.cnt (fun q hq => key q (fun e => h.nP.2.2.1 (by rw [← e]; exact hq))), own_of_block h.std (fun q hq => key q (fun e => h.nP.2.2.2 (by rw [← e]; exact hq))), h.PB, h.w0B, h.nP, h.nL, h.nC, h.nS⟩, ⟨rfl, rfl, rfl, by simp [World.setCell], fun q _ hq => key q (fun e => hq (.inl e)), fun q hq => .inl hq⟩⟩
theorem PairM.pushC {w0 w wa : World} {B : Nat} {r : Pr} {o : Obj} {g cap n : Nat} (h : PairM w0 w B r) (hgr : (w.alloc o).grownBy wa r.cv.ownBlock) (hown : wa.ownsRow B 3 1 (.slice (some ⟨g, 0, none⟩) (r.cs.length + 1) cap) (r.cs.length + 1) (ints r.cs ++ [.int .i64 (n : Int)])) (hat : r.cv.ownBlock = some g ∨ g = (w.alloc o).heap.size) :
    PairM w0 (wa.setCell ⟨r.P, 2, none⟩ (.slice (some ⟨g, 0, none⟩) (r.cs.length + 1) cap)) B { r with cv := (.slice (some ⟨g, 0, none⟩) (r.cs.length + 1) cap), cs := r.cs ++ [n] } ∧ Moved w (wa.setCell ⟨r.P, 2, none⟩ (.slice (some ⟨g, 0, none⟩) (r.cs.length + 1) cap)) r.foot ({ r with cv := (.slice (some ⟨g, 0, none⟩) (r.cs.length + 1) cap), cs := r.cs ++ [n] } : Pr).foot := by
  have hlt := h.lt
  have hP := (hlt r.P (.inl rfl)).2
  have hs := hgr.size
  rw [World.size_alloc] at hs hat
  have hfs : (wa.setCell ⟨r.P, 2, none⟩ (.slice (some ⟨g, 0, none⟩) (r.cs.length + 1) cap)).heap.size = wa.heap.size := by simp [World.setCell]
  have hwa : ∀ q, q < w.heap.size → r.cv.ownBlock ≠ some q → wa.heap[q]? = w.heap[q]? := fun q hq hne => (hgr.block q (by rw [World.size_alloc]; omega) (fun e => hne e.symm)).trans (Below.heap_alloc _ _ _ hq)
  have key : ∀ q, q < w.heap.size → q ≠ r.P → r.cv.ownBlock ≠ some q → (wa.setCell ⟨r.P, 2, none⟩ (.slice (some ⟨g, 0, none⟩) (r.cs.length + 1) cap)).heap[q]? = w.heap[q]? := fun q hq h1 h2 => (Below.heap_setCell _ _ _ _ h1).trans (hwa q hq h2)
  have hgP : g ≠ r.P := fun e => by
    rcases hat with e2 | e2
    · exact h.nP.2.2.1 (by rw [e2, e])
    · omega
  have hgo : ∀ q, q < w.heap.size → r.cv.ownBlock ≠ some q → g ≠ q := fun q hq hne e => by
    rcases hat with e2 | e2
    · exact hne (by rw [e2, e])
    · omega
  have hblk := (hwa r.P hP h.nP.2.2.1).trans h.blk
  have hil : (ints (r.cs ++ [n])) = ints r.cs ++ [.int .i64 (n : Int)] := by simp [ints]
  have hll : (r.cs ++ [n]).length = r.cs.length + 1 := by simp
  have hnew : (wa.setCell ⟨r.P, 2, none⟩ (.slice (some ⟨g, 0, none⟩) (r.cs.length + 1) cap)).ownsRow B 3 1 (.slice (some ⟨g, 0, none⟩) (r.cs.length + 1) cap) (r.cs ++ [n]).length (ints (r.cs ++ [n])) := by
    rw [hil, hll]
    exact own_of_block hown (fun q hq => Below.heap_setCell _ _ _ _ (fun e => by simp only [Value.ownBlock, Option.some.injEq] at hq; exact hgP (by rw [hq]; exact e)))
  refine ⟨⟨five_set hblk, h.arc.keep (fun q hq => key q (hlt q (.inr (.inl hq))).2 (fun e => h.nP.1 (by rw [← e]; exact hq)) (fun e => (h.nC q e).1 hq)), own_of_block h.row (fun q hq => key q (h.row.lt q hq).2 (fun e => h.nP.2.1 (by rw [← e]; exact hq)) (h.nL q hq).2.1), h.tags, hnew, own_of_block h.std (fun q hq => key q (h.std.lt q hq).2 (fun e => h.nP.2.2.2 (by rw [← e]; exact hq)) (fun e => (h.nC q e).2 hq)), h.PB, h.w0B, ⟨h.nP.1, h.nP.2.1, fun e => hgP (by simpa [Value.ownBlock] using e), h.nP.2.2.2⟩, fun q hq => ⟨(h.nL q hq).1, fun e => hgo q (h.row.lt q hq).2 (h.nL q hq).2.1 (by simpa [Value.ownBlock] using e), (h.nL q hq).2.2⟩, fun q hq => ⟨fun ha => hgo q (hlt q (.inr (.inl ha))).2 (fun e => (h.nC q e).1 ha) (by simpa [Value.ownBlock] using hq), fun e => hgo q (h.std.lt q e).2 (fun e2 => (h.nC q e2).2 e) (by simpa [Value.ownBlock] using hq)⟩, h.nS⟩, ⟨hgr.os, hgr.tape, hgr.output, by omega, fun q hq hn => key q hq (fun e => hn (.inl e)) (fun e => hn (.inr (.inr (.inr (.inl e))))), ?_⟩⟩
  rintro q (h1 | h1 | h1 | h1 | h1)
  · exact .inl (.inl h1)
  · exact .inl (.inr (.inl h1))
  · exact .inl (.inr (.inr (.inl h1)))
  · simp only [Value.ownBlock, Option.some.injEq] at h1
    rcases hat with e | e
    · exact .inl (.inr (.inr (.inr (.inl (by rw [e, h1])))))
    · exact .inr (by omega)
  · exact .inl (.inr (.inr (.inr (.inr h1))))
theorem PairM.pushS {w0 w wa : World} {B : Nat} {r : Pr} {o : Obj} {g cap n : Nat} (h : PairM w0 w B r) (hgr : (w.alloc o).grownBy wa r.sv.ownBlock) (hown : wa.ownsRow B 3 1 (.slice (some ⟨g, 0, none⟩) (r.ss.length + 1) cap) (r.ss.length + 1) (ints r.ss ++ [.int .i64 (n : Int)])) (hat : r.sv.ownBlock = some g ∨ g = (w.alloc o).heap.size) :
    PairM w0 (wa.setCell ⟨r.P, 3, none⟩ (.slice (some ⟨g, 0, none⟩) (r.ss.length + 1) cap)) B { r with sv := (.slice (some ⟨g, 0, none⟩) (r.ss.length + 1) cap), ss := r.ss ++ [n] } ∧ Moved w (wa.setCell ⟨r.P, 3, none⟩ (.slice (some ⟨g, 0, none⟩) (r.ss.length + 1) cap)) r.foot ({ r with sv := (.slice (some ⟨g, 0, none⟩) (r.ss.length + 1) cap), ss := r.ss ++ [n] } : Pr).foot := by
  have hlt := h.lt
  have hP := (hlt r.P (.inl rfl)).2
  have hs := hgr.size
  rw [World.size_alloc] at hs hat
  have hfs : (wa.setCell ⟨r.P, 3, none⟩ (.slice (some ⟨g, 0, none⟩) (r.ss.length + 1) cap)).heap.size = wa.heap.size := by simp [World.setCell]
  have hwa : ∀ q, q < w.heap.size → r.sv.ownBlock ≠ some q → wa.heap[q]? = w.heap[q]? := fun q hq hne => (hgr.block q (by rw [World.size_alloc]; omega) (fun e => hne e.symm)).trans (Below.heap_alloc _ _ _ hq)
  have key : ∀ q, q < w.heap.size → q ≠ r.P → r.sv.ownBlock ≠ some q → (wa.setCell ⟨r.P, 3, none⟩ (.slice (some ⟨g, 0, none⟩) (r.ss.length + 1) cap)).heap[q]? = w.heap[q]? := fun q hq h1 h2 => (Below.heap_setCell _ _ _ _ h1).trans (hwa q hq h2)
  have hgP : g ≠ r.P := fun e => by
    rcases hat with e2 | e2
    · exact h.nP.2.2.2 (by rw [e2, e])
    · omega
  have hgo : ∀ q, q < w.heap.size → r.sv.ownBlock ≠ some q → g ≠ q := fun q hq hne e => by
    rcases hat with e2 | e2
    · exact hne (by rw [e2, e])
    · omega
  have hblk := (hwa r.P hP h.nP.2.2.2).trans h.blk
  have hil : (ints (r.ss ++ [n])) = ints r.ss ++ [.int .i64 (n : Int)] := by simp [ints]
  have hll : (r.ss ++ [n]).length = r.ss.length + 1 := by simp
  have hnew : (wa.setCell ⟨r.P, 3, none⟩ (.slice (some ⟨g, 0, none⟩) (r.ss.length + 1) cap)).ownsRow B 3 1 (.slice (some ⟨g, 0, none⟩) (r.ss.length + 1) cap) (r.ss ++ [n]).length (ints (r.ss ++ [n])) := by
    rw [hil, hll]
    exact own_of_block hown (fun q hq => Below.heap_setCell _ _ _ _ (fun e => by simp only [Value.ownBlock, Option.some.injEq] at hq; exact hgP (by rw [hq]; exact e)))
  refine ⟨⟨five_set hblk, h.arc.keep (fun q hq => key q (hlt q (.inr (.inl hq))).2 (fun e => h.nP.1 (by rw [← e]; exact hq)) (fun e => h.nS q e hq)), own_of_block h.row (fun q hq => key q (h.row.lt q hq).2 (fun e => h.nP.2.1 (by rw [← e]; exact hq)) (h.nL q hq).2.2), h.tags, own_of_block h.cnt (fun q hq => key q (h.cnt.lt q hq).2 (fun e => h.nP.2.2.1 (by rw [← e]; exact hq)) (h.nC q hq).2), hnew, h.PB, h.w0B, ⟨h.nP.1, h.nP.2.1, h.nP.2.2.1, fun e => hgP (by simpa [Value.ownBlock] using e)⟩, fun q hq => ⟨(h.nL q hq).1, (h.nL q hq).2.1, fun e => hgo q (h.row.lt q hq).2 (h.nL q hq).2.2 (by simpa [Value.ownBlock] using e)⟩, fun q hq => ⟨(h.nC q hq).1, fun e => hgo q (h.cnt.lt q hq).2 (h.nC q hq).2 (by simpa [Value.ownBlock] using e)⟩, fun q hq ha => hgo q (hlt q (.inr (.inl ha))).2 (fun e => h.nS q e ha) (by simpa [Value.ownBlock] using hq)⟩, ⟨hgr.os, hgr.tape, hgr.output, by omega, fun q hq hn => key q hq (fun e => hn (.inl e)) (fun e => hn (.inr (.inr (.inr (.inr e))))), ?_⟩⟩
  rintro q (h1 | h1 | h1 | h1 | h1)
  · exact .inl (.inl h1)
  · exact .inl (.inr (.inl h1))
  · exact .inl (.inr (.inr (.inl h1)))
  · exact .inl (.inr (.inr (.inr (.inl h1))))
  · simp only [Value.ownBlock, Option.some.injEq] at h1
    rcases hat with e | e
    · exact .inl (.inr (.inr (.inr (.inr (by rw [e, h1])))))
    · exact .inr (by omega)
end Go.Proofs.YtdjllnhahhjgmaaGreat
namespace Go.Proofs.YtdjllnhahhjgmaaGreat
open Go.RowKit Chron
theorem PairM.archOp {w0 w w' : World} {B : Nat} {r : Pr} {fv' ev' : Value} {fl' : List UInt8} {js' : List Item} (h : PairM w0 w B r) (hA : ArchO B r.p w' fv' ev' fl' js') (hm : Moved w w' r.arch (Foot r.p fv' ev' js')) :
    PairM w0 w' B { r with fv := fv', ev := ev', js := js', fl := fl' } ∧ Moved w w' r.foot ({ r with fv := fv', ev := ev', js := js', fl := fl' } : Pr).foot := by
  have hlt := h.lt
  have key : ∀ q, q < w.heap.size → ¬ r.arch q → w'.heap[q]? = w.heap[q]? := hm.block
  have hno : ∀ q, q < w.heap.size → ¬ r.arch q → ¬ Foot r.p fv' ev' js' q := fun q hq hn hf => by
    rcases hm.sub q hf with h1 | h1
    · exact hn h1
    · omega
  refine ⟨⟨(key r.P (hlt _ (.inl rfl)).2 h.nP.1).trans h.blk, hA, own_of_block h.row (fun q hq => key q (h.row.lt q hq).2 (h.nL q hq).1), h.tags, own_of_block h.cnt (fun q hq => key q (h.cnt.lt q hq).2 (h.nC q hq).1), own_of_block h.std (fun q hq => key q (h.std.lt q hq).2 (h.nS q hq)), h.PB, h.w0B, ⟨hno r.P (hlt _ (.inl rfl)).2 h.nP.1, h.nP.2⟩, fun q hq => ⟨hno q (h.row.lt q hq).2 (h.nL q hq).1, (h.nL q hq).2⟩, fun q hq => ⟨hno q (h.cnt.lt q hq).2 (h.nC q hq).1, (h.nC q hq).2⟩, fun q hq => hno q (h.std.lt q hq).2 (h.nS q hq)⟩, ⟨hm.os, hm.tape, hm.output, hm.size, fun q hq hn => key q hq (fun e => hn (.inr (.inl e))), ?_⟩⟩
  rintro q (h1 | h1 | h1)
  · exact .inl (.inl h1)
  · rcases hm.sub q h1 with h2 | h2
    · exact .inl (.inr (.inl h2))
    · exact .inr h2
  · exact .inl (.inr (.inr h1))
theorem PairM.pushL {w0 w wa : World} {B : Nat} {r : Pr} {g cap : Nat} {ls : List Item} (h : PairM w0 w B r) (hgr : w.grownBy wa r.lv.ownBlock) (hown : wa.ownsRow B 38 5 (.slice (some ⟨g, 0, none⟩) (r.its.length + ls.length) cap) (r.its.length + ls.length) (fives r.its ++ fives ls)) (hat : r.lv.ownBlock = some g ∨ g = w.heap.size)
    (htg : ∀ it ∈ ls, ItemOk w0 it ∧ ∀ q off, 0 < it.ev.tags.length → it.at' = some ⟨q, off, none⟩ → q < w0.heap.size) :
    PairM w0 (wa.setCell ⟨r.P, 1, none⟩ (.slice (some ⟨g, 0, none⟩) (r.its.length + ls.length) cap)) B { r with lv := .slice (some ⟨g, 0, none⟩) (r.its.length + ls.length) cap, its := r.its ++ ls } ∧ Moved w (wa.setCell ⟨r.P, 1, none⟩ (.slice (some ⟨g, 0, none⟩) (r.its.length + ls.length) cap)) r.foot ({ r with lv := .slice (some ⟨g, 0, none⟩) (r.its.length + ls.length) cap, its := r.its ++ ls } : Pr).foot := by
  have hlt := h.lt
  have hP := (hlt r.P (.inl rfl)).2
  have hs := hgr.size
  have hfs : (wa.setCell ⟨r.P, 1, none⟩ (.slice (some ⟨g, 0, none⟩) (r.its.length + ls.length) cap)).heap.size = wa.heap.size := by simp [World.setCell]
  have hwa : ∀ q, q < w.heap.size → r.lv.ownBlock ≠ some q → wa.heap[q]? = w.heap[q]? := fun q hq hne => hgr.block q hq (fun e => hne e.symm)
  have key : ∀ q, q < w.heap.size → q ≠ r.P → r.lv.ownBlock ≠ some q → (wa.setCell ⟨r.P, 1, none⟩ (.slice (some ⟨g, 0, none⟩) (r.its.length + ls.length) cap)).heap[q]? = w.heap[q]? := fun q hq h1 h2 => (Below.heap_setCell _ _ _ _ h1).trans (hwa q hq h2)
  have hgP : g ≠ r.P := fun e => by
    rcases hat with e2 | e2
    · exact h.nP.2.1 (by rw [e2, e])
    · omega
  have hgo : ∀ q, q < w.heap.size → r.lv.ownBlock ≠ some q → g ≠ q := fun q hq hne e => by
    rcases hat with e2 | e2
    · exact hne (by rw [e2, e])
    · omega
  have hblk := (hwa r.P hP h.nP.2.1).trans h.blk
  have hil : fives (r.its ++ ls) = fives r.its ++ fives ls := by simp [fives]
  have hll : (r.its ++ ls).length = r.its.length + ls.length := by simp
  have hnew : (wa.setCell ⟨r.P, 1, none⟩ (.slice (some ⟨g, 0, none⟩) (r.its.length + ls.length) cap)).ownsRow B 38 5 (.slice (some ⟨g, 0, none⟩) (r.its.length + ls.length) cap) (r.its ++ ls).length (fives (r.its ++ ls)) := by
    rw [hil, hll]
    exact own_of_block hown (fun q hq => Below.heap_setCell _ _ _ _ (fun e => by simp only [Value.ownBlock, Option.some.injEq] at hq; exact hgP (by rw [hq]; exact e)))
  refine ⟨⟨five_set hblk, h.arc.keep (fun q hq => key q (hlt q (.inr (.inl hq))).2 (fun e => h.nP.1 (by rw [← e]; exact hq)) (fun e => (h.nL q e).1 hq)), hnew, ?_, own_of_block h.cnt (fun q hq => key q (h.cnt.lt q hq).2 (fun e => h.nP.2.2.1 (by rw [← e]; exact hq)) (fun e => (h.nL q e).2.1 hq)), own_of_block h.std (fun q hq => key q (h.std.lt q hq).2 (fun e => h.nP.2.2.2 (by rw [← e]; exact hq)) (fun e => (h.nL q e).2.2 hq)), h.PB, h.w0B, ⟨h.nP.1, fun e => hgP (by simpa [Value.ownBlock] using e), h.nP.2.2⟩, fun q hq => ?_, h.nC, h.nS⟩, ⟨hgr.os, hgr.tape, hgr.output, by omega, fun q hq hn => key q hq (fun e => hn (.inl e)) (fun e => hn (.inr (.inr (.inl e)))), ?_⟩⟩
  · intro it hit
    rcases List.mem_append.1 hit with h1 | h1
    · exact h.tags it h1
    · exact htg it h1
  · have hq' : g = q := by simpa [Value.ownBlock] using hq
    refine ⟨fun ha => hgo q (hlt q (.inr (.inl ha))).2 (fun e => (h.nL q e).1 ha) hq', fun e => hgo q (h.cnt.lt q e).2 (fun e2 => (h.nL q e2).2.1 e) hq', fun e => hgo q (h.std.lt q e).2 (fun e2 => (h.nL q e2).2.2 e) hq'⟩
  · rintro q (h1 | h1 | h1 | h1)
    · exact .inl (.inl h1)
    · exact .inl (.inr (.inl h1))
    · simp only [Value.ownBlock, Option.some.injEq] at h1
      rcases hat with e | e
      · exact .inl (.inr (.inr (.inl (by rw [e, h1]))))
      · exact .inr (by omega)
    · exact .inl (.inr (.inr (.inr h1)))
/- the pair behind stood -/
def Pr.stoodR (r : Pr) (more : Bool) (cv sv : Value) : Pr := { r with pf := r.fl, cv := cv, sv := sv, cs := if more = true then r.cs ++ [r.its.length] else r.cs, ss := if more = true then r.ss ++ [r.fl.length] else r.ss }
set_option maxRecDepth 100000 in
set_option maxHeartbeats 1000000 in
theorem stood_any (w0 w : World) (B : Nat) (r : Pr) (ext : List UInt8) (more : Bool) (HM : Hid (PairM w0 w B r)) (hx : Hid (r.fl = r.pf ++ ext)) (hm : Hid (more = !ext.isEmpty)) (hfl : r.fl.length ≤ 100000000) (hc : r.cs.length ≤ 1000000) (hs : r.ss.length ≤ 1000000) :
    Calls Tryz.prog 9 #[.pointer (some ⟨r.P, 0, none⟩), .bool more] w fun e w' => e = .returned (.bool true) ∧ ∃ cv sv, Hid (PairM w0 w' B (r.stoodR more cv sv)) ∧ Hid (Moved w w' r.foot (r.stoodR more cv sv).foot) := by
  obtain ⟨c0, c1, c2, c3, c4, cz⟩ := five_cells HM.out.blk
  have hF := file_any r.p r.fv r.ev B r.fl w HM.out.arc.blk HM.out.arc.fil HM.out.arc.pf
  have hlen : r.fl.length = r.pf.length + ext.length := by rw [hx.out]; simp
  go_enter Tryz.func9, Tryz.ntmps9
  go_wp2_with fail
  refine hF.mono ?_
  rintro e w' ⟨rfl, hw'⟩
  have hw2 := hw'.symm
  subst hw2
  have hx2 : (⟨r.fl.toArray⟩ : ByteArray).extract 0 r.pf.length = ⟨r.pf.toArray⟩ := by
    rw [extract_mk_take, hx.out, List.take_left]
  have h1 : ¬ (r.fl.length : Int) < (r.pf.length : Int) := by omega
  have h1' : ¬ r.fl.length < r.pf.length := by omega
  have h1'' : r.pf.length ≤ r.fl.length := by omega
  have HX := hide0 hlen
  cases more
  · have h2 : ¬ (r.pf.length : Int) < (r.fl.length : Int) := by
      have h9 := hm.out
      have : ext = [] := by cases ext with | nil => rfl | cons a b => simp at h9
      rw [this] at hlen
      simp at hlen
      omega
    have h2' : ¬ r.pf.length < r.fl.length := by omega
    clear hlen
    go_wp2_with fail
    go_quiet (fail)
    have HMd : Hid (PairM w0 (w.drewN nq) B r) := HM.out.below ⟨rfl, rfl, rfl, Nat.le_refl _, fun _ _ => rfl⟩
    have HMF := hide0 (HMd.out.setFile r.fl)
    go_wp2
    go_ret
    refine ⟨rfl, r.cv, r.sv, HMF.out.1, ?_⟩
    exact hide0 ((Moved.of_below (w := w) (w' := w.drewN nq) (F := r.foot) ⟨rfl, rfl, rfl, Nat.le_refl _, fun _ _ => rfl⟩).trans HMF.out.2)
  · have h2 : (r.pf.length : Int) < (r.fl.length : Int) := by
      have h9 := hm.out
      have : 0 < ext.length := by cases ext with | nil => simp at h9 | cons a b => simp
      omega
    have h2' : r.pf.length < r.fl.length := by omega
    clear hlen
    obtain ⟨la, lc, hlv, hlcap⟩ : ∃ a c, r.lv = .slice a r.its.length c ∧ r.its.length ≤ c := by
      rcases HM.out.row.2 with ⟨e1, e2⟩ | ⟨g, cap, _, e1, _, _, e3, _⟩
      · exact ⟨none, 0, by rw [e1, e2], by omega⟩
      · exact ⟨_, cap, e1, e3⟩
    obtain ⟨ca, cc, hcv, hcc, _, _⟩ := row_at HM.out.cnt
    obtain ⟨sa, sc, hsv, hsc, _, _⟩ := row_at HM.out.std
    go_wp2_with fail
    go_quiet (fail)
    have HMd : Hid (PairM w0 (w.drewN nq) B r) := HM.out.below ⟨rfl, rfl, rfl, Nat.le_refl _, fun _ _ => rfl⟩
    have HMF := hide0 (HMd.out.setFile r.fl)
    have HM1 := hide0 HMF.out.1
    obtain ⟨d0, d1, d2, d3, d4, dz⟩ := five_cells HM1.out.blk
    simp only at d0 d1 d2 d3 d4
    rw [hlv] at d1
    rw [hcv] at d2
    obtain ⟨i0, hi, hz0, hz1, hz2⟩ := info_parts infoInt
    have HMV := hide0 ((Moved.of_below (w := w) (w' := w.drewN nq) (F := r.foot) ⟨rfl, rfl, rfl, Nat.le_refl _, fun _ _ => rfl⟩).trans HMF.out.2)
    clear HMF HMd hF
    obtain ⟨w1, hw1⟩ : ∃ w1, w1 = (w.drewN nq).setCell ⟨r.P, 4, none⟩ (.string ⟨r.fl.toArray⟩) := ⟨_, rfl⟩
    go_wp2_with fail
    rw [← hw1] at d0 d1 d2 d3 d4 dz HM1 HMV ⊢
    clear hw1 c0 c1 c2 c3 c4 cz
    have HMD1 := hide0 (HM1.out.below (Below.refl _ _).drew)
    have hrow := HMD1.out.cnt
    simp only at hrow
    rw [hcv] at hrow
    have e1 : r.cs.length + 1 ≤ maxLen := by unfold maxLen; omega
    have e2 : (r.cs.length + 1) * 8 ≤ 140737488355328 := by omega
    have hPB : B ≤ r.P := HMD1.out.PB
    have hPl : r.P < w1.drew.heap.size := (HMD1.out.lt r.P (.inl rfl)).2
    have e3 : ∀ o, B ≤ (w1.drew.alloc o).heap.size := fun o => by simp only [World.size_alloc]; omega
    have hA1 := five_cells ((Below.heap_alloc w1 (.cells #[.int .i64 (r.its.length : Int)] 3) r.P hPl).trans HM1.out.blk)
    obtain ⟨a0, a1, a2, a3, a4, az⟩ := hA1
    simp only at a0 a1 a2 a3 a4
    rw [hlv] at a1
    rw [hcv] at a2
    have hpa5 : ∀ (o : Obj) (wz : World), (w1.drew.alloc o).grownBy wz (Value.ownBlock (.slice ca r.cs.length cc)) → wz.heap[r.P]? = some (.cells #[.pointer (some ⟨r.p, 0, none⟩), r.lv, r.cv, r.sv, .string ⟨r.fl.toArray⟩] 50) := fun o wz hg => (hg.block r.P (by simp only [World.size_alloc]; omega) (fun e => HMD1.out.nP.2.2.1 (by show r.cv.ownBlock = some r.P; rw [hcv]; exact e.symm))).trans ((Below.heap_alloc _ _ _ (HMD1.out.lt r.P (.inl rfl)).2).trans HMD1.out.blk)
    have HN := hide0 (And.intro hc (And.intro hs hfl))
    clear hc hs hfl h1 h1' h1'' h2 h2'
    go_region_law (first
      | (have hq8 := hrow
         refine step_append_lies _ rfl _ _ 48 rfl B 3 i0 (.int .i64 0) 1 8 Tryz.underlying48 hi hz0 hz1 hz2 rfl (by decide) (.slice ca r.cs.length cc) r.cs.length (ints r.cs) rfl (hq8.alloc _) ⟨w1.heap.size, 0, none⟩ 1 1 [.int .i64 (r.its.length : Int)] rfl rfl (cell_one_new w1.drew _ _) (one_int _ _) Nat.one_pos e1 e2 (e3 _) _ rfl ?_
         clear hq8
         intro gg gcap wa hown9 hgr9 hat9 hlt9
         have hpa := hpa5 _ _ hgr9
         obtain ⟨q0, q1, q2, q3, q4, qz⟩ := five_cells hpa
         have HN9 := hide0 hown9
         clear hown9))
    all_goals
      obtain ⟨hM2, hV2⟩ := HMD1.out.pushC (n := r.its.length) (by show (w1.drew.alloc (.cells #[.int .i64 (r.its.length : Int)] 3)).grownBy wa r.cv.ownBlock; rw [hcv]; exact hgr9) HN9.out (by show r.cv.ownBlock = some gg ∨ _; rw [hcv]; exact hat9)
      have HV2 : Hid (Moved w (wa.setCell ⟨r.P, 2, none⟩ (.slice (some ⟨gg, 0, none⟩) (r.cs.length + 1) gcap)) r.foot ({ r with pf := r.fl, cv := .slice (some ⟨gg, 0, none⟩) (r.cs.length + 1) gcap, cs := r.cs ++ [r.its.length] } : Pr).foot) := (HMV.out.trans (Moved.of_below (Below.refl _ _).drew)).trans hV2
      have HM2 : Hid (PairM w0 (wa.setCell ⟨r.P, 2, none⟩ (.slice (some ⟨gg, 0, none⟩) (r.cs.length + 1) gcap)) B { r with pf := r.fl, cv := .slice (some ⟨gg, 0, none⟩) (r.cs.length + 1) gcap, cs := r.cs ++ [r.its.length] }) := hM2
      clear hgr9 hat9 HN9 hpa q0 q1 q2 q3 q4 qz hM2 hV2 a0 a1 a2 a3 a4 az d0 d1 d2 d3 d4 dz hrow e1 e2 e3 hpa5 HMD1 HM1 HMV hPl
      generalize wa.setCell ⟨r.P, 2, none⟩ (.slice (some ⟨gg, 0, none⟩) (r.cs.length + 1) gcap) = w2 at *
      obtain ⟨d0, d1, d2, d3, d4, dz⟩ := five_cells HM2.out.blk
      simp only at d0 d1 d2 d3 d4
      rw [hsv] at d3
      have hrow := HM2.out.std
      simp only at hrow
      rw [hsv] at hrow
      have e1 : r.ss.length + 1 ≤ maxLen := by have := HN.out; unfold maxLen; omega
      have e2 : (r.ss.length + 1) * 8 ≤ 140737488355328 := by have := HN.out; omega
      have hPl : r.P < w2.heap.size := (HM2.out.lt r.P (.inl rfl)).2
      have e3 : ∀ o, B ≤ (w2.alloc o).heap.size := fun o => by simp only [World.size_alloc]; omega
      have hpa5 : ∀ (o : Obj) (wz : World), (w2.alloc o).grownBy wz (Value.ownBlock (.slice sa r.ss.length sc)) → wz.heap[r.P]? = some (.cells #[.pointer (some ⟨r.p, 0, none⟩), r.lv, .slice (some ⟨gg, 0, none⟩) (r.cs.length + 1) gcap, r.sv, .string ⟨r.fl.toArray⟩] 50) := fun o wz hg => (hg.block r.P (by simp only [World.size_alloc]; omega) (fun e => HM2.out.nP.2.2.2 (by show r.sv.ownBlock = some r.P; rw [hsv]; exact e.symm))).trans ((Below.heap_alloc _ _ _ (HM2.out.lt r.P (.inl rfl)).2).trans HM2.out.blk)
      go_wp2_with (first
        | (at_builtin; go_must (refine wpList_append_lies _ rfl _ _ 48 rfl B 3 i0 (.int .i64 0) 1 8 Tryz.underlying48 hi hz0 hz1 hz2 rfl (by decide) (.slice sa r.ss.length sc) r.ss.length (ints r.ss) rfl (hrow.alloc _) ⟨w2.heap.size, 0, none⟩ 1 1 [.int .i64 (r.fl.length : Int)] rfl rfl (cell_one_new w2 _ _) (one_int _ _) Nat.one_pos e1 e2 (e3 _) _ rfl ?_)
           intro gh hcap wb hown9 hgr9 hat9 hlt9
           have hpa := hpa5 _ _ hgr9
           obtain ⟨q0, q1, q2, q3, q4, qz⟩ := five_cells hpa
           have HN9 := hide0 hown9
           clear hown9))
      obtain ⟨hM3, hV3⟩ := HM2.out.pushS (n := r.fl.length) (by show (w2.alloc (.cells #[.int .i64 (r.fl.length : Int)] 3)).grownBy wb r.sv.ownBlock; rw [hsv]; exact hgr9) HN9.out (by show r.sv.ownBlock = some gh ∨ _; rw [hsv]; exact hat9)
      have HFIN := hide0 (And.intro hM3 (HV2.out.trans hV3))
      clear hgr9 hat9 HN9 hpa q0 q1 q2 q3 q4 qz hM3 hV3 d0 d1 d2 d3 d4 dz hrow e1 e2 e3 hpa5 HM2 HV2
      go_ret
      exact ⟨rfl, _, _, hide0 HFIN.out.1, hide0 HFIN.out.2⟩
end Go.Proofs.YtdjllnhahhjgmaaGreat
namespace Go.Proofs.YtdjllnhahhjgmaaGreat
open Go.RowKit Chron
structure Lent (b G n : Nat) (tv cv lv : Value) (ls : List (Nat × Nat)) (its : List Item) (w : World) : Prop where
  loan : LoanAt b tv cv (.slice (some ⟨G, 0, none⟩) (n + 8) (n + 8)) (.int .i64 n) lv ls.length (lentV ls) ls.length (lentN ls) w
  ok : LentOk ls w
  evs : EvsAt w (some ⟨G, 0, none⟩) its
  bads : ∀ k, n ≤ k → k < n + 8 → CellsAt w G (k * 5) badI
  rows : LentRows ls w
  row : RowG G (n + 8) w
  far : ∀ q, ReadsOf (some ⟨G, 0, none⟩) its q → b < q
  gx : G ≠ b ∧ tv.ownBlock ≠ some G ∧ cv.ownBlock ≠ some G
  mx : ∀ (i M c : Nat), ls[i]? = some (M, c) → c * 16 ≤ 140737488351232 ∧ M ≠ b ∧ tv.ownBlock ≠ some M ∧ cv.ownBlock ≠ some M
  fx : ∀ q, lentF G ls q → b < q ∧ q < w.heap.size
theorem AllAt.lent {b G n : Nat} {a : Option Addr} {cap : Nat} {l : List Item} {w0 wx : World} {tv cv : Value} {ls : List (Nat × Nat)} {its : List Item} (h : AllAt b G n a cap l w0 wx tv cv ls its) (hn : l.length = n) (hi : its.length = n + 8) (hls : ls.length = n) (hl : EvsAt w0 a l) :
    Lent b G n tv cv (.slice a n cap) ls (its.take n) wx ∧ (its.take n).length = n ∧ Go.Proofs.YtdjllnhahhjgmaaGreat.evs (its.take n) = Go.Proofs.YtdjllnhahhjgmaaGreat.evs l := by
  obtain ⟨q1, q2, q3, q4, q5⟩ := h.done hn hi hls hl
  have hrow : RowG G (n + 8) wx := by
    obtain ⟨cur, h1, h2, _⟩ := h.row
    exact ⟨cur, h1, h2⟩
  refine ⟨⟨h.loan, q4, q1, q5, ?_, hrow, ?_, ⟨by have := h.gb; omega, h.gt, h.gc⟩, ?_, ?_⟩, q2, q3⟩
  · intro i M c hM
    obtain ⟨e, _, h2, _, h4, _⟩ := h.lists i M c hM
    exact ⟨_, h4, by rw [List.size_toArray, lent_len _ (Nat.le_refl _), h2]⟩
  · rintro q (⟨_, off, e⟩ | ⟨it, hit, _, off, e⟩)
    · cases e; exact h.gb
    · obtain ⟨k, hk⟩ := List.getElem?_of_mem hit
      have hkn : k < n := by have := (List.getElem?_eq_some_iff.1 hk).1; omega
      rw [List.getElem?_take, if_pos hkn] at hk
      obtain ⟨⟨M, c⟩, hM⟩ : ∃ x, ls[k]? = some x := ⟨_, List.getElem?_eq_getElem (by omega)⟩
      obtain ⟨e2, _, _, h3, _, _, h6, _⟩ := h.lists k M c hM
      rw [hk] at h3
      cases h3
      cases e
      exact h6
  · intro i M c hM
    obtain ⟨e, _, h2, _, h4, _, h6, h7, h8⟩ := h.lists i M c hM
    exact ⟨(q4 i M c hM).1, by omega, h7, h8⟩
  · rintro q (rfl | ⟨i, c, hM⟩)
    · exact ⟨h.gb, by obtain ⟨cur, h1, _⟩ := hrow; exact (Array.getElem?_eq_some_iff.1 h1).1⟩
    · obtain ⟨e, _, h2, _, h4, _, h6, h7, h8⟩ := h.lists i q c hM
      exact ⟨h6, (Array.getElem?_eq_some_iff.1 h4).1⟩
theorem Lent.same {b G n : Nat} {tv cv lv : Value} {ls : List (Nat × Nat)} {its : List Item} {w w' : World} (h : Lent b G n tv cv lv ls its w) (hs : w.heap.size ≤ w'.heap.size) (hb : ∀ q, b ≤ q → q < w.heap.size → w'.heap[q]? = w.heap[q]?) : Lent b G n tv cv lv ls its w' := by
  have hG : w'.heap[G]? = w.heap[G]? := hb G (by have := (h.fx G (.inl rfl)).1; omega) (h.fx G (.inl rfl)).2
  have hM : ∀ (i M c : Nat), ls[i]? = some (M, c) → w'.heap[M]? = w.heap[M]? := fun i M c hi => hb M (by have := (h.fx M (.inr ⟨i, c, hi⟩)).1; omega) (h.fx M (.inr ⟨i, c, hi⟩)).2
  refine ⟨h.loan.same ?_, fun i M c hi => ⟨(h.ok i M c hi).1, fun q h1 h2 => (World.cell?_of_block (hM i M c hi)).trans ((h.ok i M c hi).2 q h1 h2)⟩, h.evs.same (fun q hq hlt => hb q (by have := h.far q hq; omega) hlt), ?_, ?_, ?_, h.far, h.gx, h.mx, fun q hq => ⟨(h.fx q hq).1, by have := (h.fx q hq).2; omega⟩⟩
  · rintro q (rfl | hq | hq)
    · exact hb q (Nat.le_refl _) h.loan.lt
    · have := h.loan.tags.lt q hq; exact hb q (by omega) this.2
    · have := h.loan.counts.lt q hq; exact hb q (by omega) this.2
  · intro k h1 h2
    have hc := h.bads k h1 h2
    exact ⟨(World.cell?_of_block hG).trans hc.c0, (World.cell?_of_block hG).trans hc.c1, (World.cell?_of_block hG).trans hc.c2, (World.cell?_of_block hG).trans hc.c3, (World.cell?_of_block hG).trans hc.c4⟩
  · intro i M c hi
    obtain ⟨cur, h1, h2⟩ := h.rows i M c hi
    exact ⟨cur, (hM i M c hi).trans h1, h2⟩
  · obtain ⟨cur, h1, h2⟩ := h.row
    exact ⟨cur, hG.trans h1, h2⟩
theorem Lent.spoils {b G n : Nat} {tv cv lv : Value} {ls : List (Nat × Nat)} {its : List Item} {w : World} (h : Lent b G n tv cv lv ls its w) : Spoils b G n tv cv lv ls w w := ⟨h.loan, h.rows, h.row, Moved.refl _ _⟩
end Go.Proofs.YtdjllnhahhjgmaaGreat
