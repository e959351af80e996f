/- Walks and plain facts, in the order in which they lean on one another. -/
import Derived.Test.YtdjllnhahhjgmaaDoorW04
namespace Go.Proofs.YtdjllnhahhjgmaaDoor
open Go.RowKit Chron
theorem held_mono {P : Program} {md : Region.Mode} {ops : Array Oper} {Q : Exit → Act → World → Prop} {S T : World → Prop} (h : ∀ w, T w → S w) : ∀ (fuel : Nat) (listed : Array Bool) (a : Act) (w : World), wpAnyH P md ops Q T fuel listed a w → wpAnyH P md ops Q S fuel listed a w
  | 0, _, _, _, H => H
  | fuel + 1, _, _, _, H => ⟨H.1, fun i hi => wpOp_mono (fun a' w' h' => ⟨h w' h'.1, held_mono h fuel _ a' w' h'.2⟩) (H.2 i hi)⟩
theorem word_cell (X : World) {i : Nat} {k : Int} (hk : (i : Int) + 1 = k) (hi : i < 4) : (X.alloc (.cells #[.string ⟨#[98, 101, 103, 117, 110]⟩, .string ⟨#[100, 111, 110, 101]⟩, .string ⟨#[102, 97, 105, 108, 101, 100]⟩, .string ⟨#[110, 111, 116, 101, 100]⟩] 9)).cell? ⟨X.heap.size, i, none⟩ = some (.string ⟨(wordB k).toArray⟩) := by
  subst hk
  have hh := heap_alloc_new X (.cells #[.string ⟨#[98, 101, 103, 117, 110]⟩, .string ⟨#[100, 111, 110, 101]⟩, .string ⟨#[102, 97, 105, 108, 101, 100]⟩, .string ⟨#[110, 111, 116, 101, 100]⟩] 9)
  have h4 : i = 0 ∨ i = 1 ∨ i = 2 ∨ i = 3 := by omega
  rcases h4 with rfl | rfl | rfl | rfl <;> (simp only [World.cell?, hh]; rfl)
set_option maxRecDepth 100000 in
set_option maxHeartbeats 2000000 in
theorem exportRef_any (a : Option Addr) (cap : Nat) (l : List Item) (w : World) (hl : Hid (EvsAt w a l)) (hn : l.length * 72 ≤ 140737488351232) :
    Calls Tryd.prog 6 #[.slice a l.length cap] w fun e w' => e = .returned (.tuple #[.string ⟨(expB (evs l)).1.toArray⟩, .int .i64 (expB (evs l)).2]) ∧ Below w.heap.size w w' := by
  by_cases hmany : 200 < l.length
  · have HE : Hid (expB (evs l) = ([], 5)) := by show _ = _; rw [expB, if_pos (by simpa [evs] using hmany)]
    go_enter Tryd.func6, Tryd.ntmps6
    go_wp2
    go_ret2
    exact ⟨by rw [HE.out]; rfl, Below.refl _ _⟩
  · go_enter Tryd.func6, Tryd.ntmps6
    go_wp2
    go_loopw [4, 5] (fun o i wx => ∃ (k : Nat) (out : ByteArray), k ≤ l.length ∧ i = .int .i64 k ∧ o = .string out ∧ Hid (out.data.toList = 91 :: jn ((told l).take k)) ∧ Hid (∀ x ∈ (evs l).take k, isB x = true) ∧ Hid (Below w.heap.size w wx)) (fun _ i _ => l.length - (intOf i).toNat)
    case atStart => exact ⟨0, _, Nat.zero_le _, rfl, rfl, rfl, by intro x hx; simp at hx, Below.refl _ _⟩
    case round =>
      obtain ⟨k, out, hk, rfl, rfl, HO, HA, HW⟩ := hrel
      by_cases hlt : k < l.length
      · obtain ⟨b1, o1, rfl, hc1⟩ := hl.out.below HW.out (Nat.le_refl _) (by omega)
        obtain ⟨⟨⟨kd, tk, tm, bd, ts⟩, ta, tc⟩, hx⟩ : ∃ x, l[k]? = some x := ⟨_, List.getElem?_eq_getElem hlt⟩
        obtain ⟨⟨c0, c1, c2, c3, c4⟩, hok⟩ := hc1 k _ hx
        simp only at c0 c1 c2 c3 c4
        have HOK := hide0 hok
        have HX := hide0 hx
        have hG := good_any kd tk tm bd ta tc ts wr HOK.out.tags HOK.out.short (by have := HOK.out.few; unfold maxLen; simp only at this; omega) HOK.out.task HOK.out.body
        have hsz := HW.out.size
        generalize hq : isB ⟨kd, tk, tm, bd, ts⟩ = q at hG
        have HQ : Hid _ := hq
        have hev : (evs l)[k]? = some ⟨kd, tk, tm, bd, ts⟩ := by rw [evs, List.getElem?_map, HX.out]; rfl
        clear hc1 hok hx hq
        cases q
        · have HE : Hid (expB (evs l) = ([], 2)) := by
            show _ = _
            rw [expB, if_neg (by simpa [evs] using hmany), if_neg]
            rw [List.all_eq_true]
            intro h
            have := h _ (List.mem_of_getElem? hev)
            rw [HQ.out] at this
            cases this
          clear hev
          go_wp2_with fail
          refine hG.mono ?_
          rintro e w1 ⟨rfl, hb1⟩
          go_wp2
          go_ret2
          exact ⟨by rw [HE.out]; rfl, HW.out.trans (hb1.mono hsz)⟩
        · have HA2 : Hid (∀ x ∈ (evs l).take (k + 1), isB x = true) := by
            intro x hx
            have hk' := (List.getElem?_eq_some_iff.1 hev).1
            rw [List.take_succ_eq_append_getElem hk', List.mem_append] at hx
            rcases hx with hx | hx
            · exact HA.out x hx
            · simp only [List.mem_singleton] at hx
              rw [List.getElem?_eq_getElem hk'] at hev
              rw [hx, Option.some.inj hev]; exact HQ.out
          have HAT : Hid ((told l)[k]? = some (tellB ⟨kd, tk, tm, bd, ts⟩)) := by rw [told, Hid, List.getElem?_map, hev]; rfl
          clear hev
          obtain ⟨h1, h4, htk, _, ht0, ht1, hbd, hfew, hlines⟩ := is_known HQ.out
          simp only at h1 h4 htk ht0 ht1 hbd hfew hlines
          have HLN := hide0 hlines
          clear hlines
          have hlo : out.size ≤ 300000 := by
            have g1 := jn_len (l := (told l).take k) (m := 1000) (fun y hy => by
              simp only [told, ← List.map_take, List.mem_map] at hy
              obtain ⟨e, he, rfl⟩ := hy
              exact tell_len (HA.out e he))
            rw [List.length_take, told_len] at g1
            have g2 : min k l.length * 1001 ≤ 200 * 1001 := Nat.mul_le_mul_right _ (by omega)
            have g3 := congrArg List.length HO.out
            simp only [List.length_cons] at g3
            simp at g3
            omega
          by_cases h0 : 0 < k
          · obtain ⟨P, hP, HP⟩ := catted out ⟨#[44]⟩ _ [44] HO rfl (by have g := congrArg List.length HO.out; simp at g ⊢; omega)
            have HFIN : Hid (P.data.toList ++ tellB ⟨kd, tk, tm, bd, ts⟩ = 91 :: jn ((told l).take (k + 1))) := by show _ = _; rw [HP.out, jn_take HAT.out h0]; simp
            have hki : (k : Int) < (l.length : Int) := by omega
            go_wp2_with fail
            refine hG.mono ?_
            rintro e w1 ⟨rfl, hb1⟩
            have HW1 := hide0 (HW.out.trans (hb1.mono hsz))
            obtain ⟨b2, o2, hbo, hc2⟩ := hl.out.below HW1.out (Nat.le_refl _) (by omega)
            simp only [Option.some.injEq, Addr.mk.injEq, and_true] at hbo
            obtain ⟨rfl, rfl⟩ := hbo
            obtain ⟨⟨e0, e1, e2, e3, e4⟩, hok⟩ := hc2 k _ HX.out
            simp only at e0 e1 e2 e3 e4
            have HOK1 := hide0 hok
            clear hc2 hok hb1 hG c0 c1 c2 c3 c4
            go_wp2_with fail
            go_loopw [7, 8] (fun tv kv wx => ∃ (j : Nat) (tg : ByteArray), j ≤ ts.length ∧ kv = .int .i64 j ∧ tv = .string tg ∧ wx = w1 ∧ Hid (tg.data.toList = jn ((tagsT ts).take j))) (fun _ kv _ => ts.length - (intOf kv).toNat)
            case atStart => exact ⟨0, _, Nat.zero_le _, rfl, rfl, rfl, rfl⟩
            case round =>
              obtain ⟨j, tg, hj, rfl, rfl, hwx, HT⟩ := hrel
              have hwy := hwx.symm
              subst hwy
              have hlt2 : tg.size ≤ 600 := by
                have g1 := jn_len (l := (tagsT ts).take j) (m := 122) (fun y hy => tagsT_short HLN.out y (List.mem_of_mem_take hy))
                rw [List.length_take, tagsT_len] at g1
                have g2 : min j ts.length * 123 ≤ 4 * 123 := Nat.mul_le_mul_right _ (by omega)
                have g3 := congrArg List.length HT.out
                simp at g3
                omega
              have HTL : Hid ((jn ((tagsT ts).take j)).length ≤ 600) := by show _ ≤ _; rw [← HT.out]; simpa using hlt2
              by_cases hjl : j < ts.length
              · obtain ⟨b3, o3, rfl, hc3⟩ := HOK1.out.tags (by simp only; omega)
                have e5 := hc3 j hjl
                obtain ⟨x, hx⟩ : ∃ x, ts[j]?.getD ByteArray.empty = x := ⟨_, rfl⟩
                simp only at e5
                rw [hx] at e5
                have hx60 : x.size ≤ 60 := by
                  rw [← hx, List.getElem?_eq_getElem hjl]
                  exact HLN.out _ (List.getElem_mem hjl)
                have hAT := tagsT_at hjl
                rw [hx] at hAT
                have HATj := hide0 hAT
                have hq := qB_len x.data.toList
                have hq2 : (qB x.data.toList).length ≤ 122 := by simp at hq; omega
                have hji : (j : Int) < (ts.length : Int) := by omega
                clear hc3 hx hAT hq
                by_cases h0j : 0 < j
                · obtain ⟨T1, hT1, HT1⟩ := catted tg ⟨#[44]⟩ _ [44] HT rfl (by have := HTL.out; simp only [List.length_cons, List.length_nil]; omega)
                  obtain ⟨T2, hT2, HT2⟩ := catted T1 ⟨(qB x.data.toList).toArray⟩ _ _ HT1 rfl (by have := HTL.out; simp only [List.length_append, List.length_cons, List.length_nil]; omega)
                  have HF : Hid (T2.data.toList = jn ((tagsT ts).take (j + 1))) := by show _ = _; rw [HT2.out, jn_take HATj.out h0j]; simp
                  clear HT1 HT2
                  go_wp2_with fail
                  refine (quoted_any x _ (by omega)).mono ?_
                  rintro e w2 ⟨rfl, hw2⟩
                  have hw3 := hw2.symm
                  subst hw3
                  go_wp2
                  go_roundw
                  case rel => exact ⟨j + 1, T2, by omega, by go_num, rfl, by simp, HF⟩
                  case measure => simp [intOf]; omega
                · obtain ⟨T2, hT2, HT2⟩ := catted tg ⟨(qB x.data.toList).toArray⟩ _ (qB x.data.toList) HT rfl (by have := HTL.out; omega)
                  have HF : Hid (T2.data.toList = jn ((tagsT ts).take (j + 1))) := by
                    have hj0 : j = 0 := by omega
                    show _ = _
                    rw [HT2.out]
                    have := HATj.out
                    subst hj0
                    rw [jn_take_zero this]; rfl
                  clear HT2
                  go_wp2_with fail
                  refine (quoted_any x _ (by omega)).mono ?_
                  rintro e w2 ⟨rfl, hw2⟩
                  have hw3 := hw2.symm
                  subst hw3
                  go_wp2
                  go_roundw
                  case rel => exact ⟨j + 1, T2, by omega, by go_num, rfl, by simp, HF⟩
                  case measure => simp [intOf]; omega
              · have HTA : Hid (tg.data.toList = jn (tagsT ts)) := by
                  have := HT.out
                  rwa [List.take_of_length_le (by rw [tagsT_len]; omega)] at this
                have hji : ¬ (j : Int) < (ts.length : Int) := by omega
                have hsP : P.data.toList.length ≤ 300001 := by
                  have g := HP.out; have g2 := congrArg List.length g; have g3 := congrArg List.length HO.out; simp at g2 g3 ⊢; omega
                have HP : Hid (P.data.toList = P.data.toList) := rfl
                have hq0 : ∀ s : ByteArray, s.size ≤ 60 → (qB s.data.toList).length ≤ 122 := fun s hs => by have := qB_len s.data.toList; simp at this; omega
                have hq1 := hq0 bd hbd
                have hq3 := hq0 tk htk
                have hwl := word_len kd
                have htl := HTL.out
                rw [← HT.out] at htl
                have hq5 := itoa_len ht0 ht1
                obtain ⟨i, hi, hi4, hi4i, HI⟩ : ∃ i : Nat, IntKind.i64.wrap (kd - 1) = i ∧ i < 4 ∧ (i : Int) < 4 ∧ Hid ((i : Int) + 1 = kd) := ⟨(kd - 1).toNat, by rw [wrapI_small (by omega) (by omega)]; omega, by omega, by omega, by show _ = _; omega⟩
                obtain ⟨wd, HWD⟩ : ∃ wd : ByteArray, Hid (wd = ⟨(wordB kd).toArray⟩) := ⟨_, rfl⟩
                have HWL : Hid (wd.data.toList = wordB kd) := by show _ = _; rw [HWD.out]
                have hwl2 : wd.data.toList.length ≤ 6 := by rw [HWL.out]; exact hwl
                obtain ⟨A1, hA1, HA1⟩ := catted P ⟨#[123, 34, 98, 111, 100, 121, 34, 58]⟩ _ [123, 34, 98, 111, 100, 121, 34, 58] HP rfl (by simp only [List.length_cons, List.length_nil]; omega)
                obtain ⟨A2, hA2, HA2'⟩ := catted A1 ⟨(qB bd.data.toList).toArray⟩ _ (qB bd.data.toList) HA1 rfl (by simp only [List.length_append, List.length_cons, List.length_nil]; omega)
                obtain ⟨A3, hA3, HA3⟩ := catted A2 ⟨#[44, 34, 107, 105, 110, 100, 34, 58, 34]⟩ _ [44, 34, 107, 105, 110, 100, 34, 58, 34] HA2' rfl (by simp only [List.length_append, List.length_cons, List.length_nil]; omega)
                obtain ⟨A4, hA4, HA4⟩ := catted A3 wd _ _ HA3 rfl (by simp only [List.length_append, List.length_cons, List.length_nil]; omega)
                obtain ⟨A5, hA5, HA5⟩ := catted A4 ⟨#[34, 44, 34, 116, 97, 103, 115, 34, 58, 91]⟩ _ [34, 44, 34, 116, 97, 103, 115, 34, 58, 91] HA4 rfl (by simp only [List.length_append, List.length_cons, List.length_nil]; omega)
                obtain ⟨A6, hA6, HA6⟩ := catted A5 tg _ _ HA5 rfl (by simp only [List.length_append, List.length_cons, List.length_nil]; omega)
                obtain ⟨A7, hA7, HA7⟩ := catted A6 ⟨#[93, 44, 34, 116, 97, 115, 107, 34, 58]⟩ _ [93, 44, 34, 116, 97, 115, 107, 34, 58] HA6 rfl (by simp only [List.length_append, List.length_cons, List.length_nil]; omega)
                obtain ⟨A8, hA8, HA8⟩ := catted A7 ⟨(qB tk.data.toList).toArray⟩ _ (qB tk.data.toList) HA7 rfl (by simp only [List.length_append, List.length_cons, List.length_nil]; omega)
                obtain ⟨A9, hA9, HA9⟩ := catted A8 ⟨#[44, 34, 116, 105, 109, 101, 34, 58]⟩ _ [44, 34, 116, 105, 109, 101, 34, 58] HA8 rfl (by simp only [List.length_append, List.length_cons, List.length_nil]; omega)
                obtain ⟨A10, hA10, HA10⟩ := catted A9 ⟨(Lib.itoa tm).toArray⟩ _ (Lib.itoa tm) HA9 rfl (by simp only [List.length_append, List.length_cons, List.length_nil]; omega)
                obtain ⟨A11, hA11, HA11⟩ := catted A10 ⟨#[125]⟩ _ [125] HA10 rfl (by simp only [List.length_append, List.length_cons, List.length_nil]; omega)
                have HF : Hid (A11.data.toList = 91 :: jn ((told l).take (k + 1))) := by
                  show _ = _
                  rw [← HFIN.out, HA11.out, HWL.out, HTA.out]
                  simp only [tellB, word_q, listB, lit1, lit2, lit3, lit4, lit5, List.append_assoc, List.cons_append, List.nil_append]
                have hcells : ∀ X, Below w.heap.size w X → X.cell? ⟨b1, o1 + k * 5, none⟩ = some (.int .i64 kd) ∧ X.cell? ⟨b1, o1 + k * 5 + 1, none⟩ = some (.string tk) ∧ X.cell? ⟨b1, o1 + k * 5 + 2, none⟩ = some (.int .i64 tm) ∧ X.cell? ⟨b1, o1 + k * 5 + 3, none⟩ = some (.string bd) := by
                  intro X hX
                  obtain ⟨b2, o2, hbo, hc2⟩ := hl.out.below hX (Nat.le_refl _) (by omega)
                  simp only [Option.some.injEq, Addr.mk.injEq, and_true] at hbo
                  obtain ⟨rfl, rfl⟩ := hbo
                  obtain ⟨⟨f0, f1, f2, f3, f4⟩, _⟩ := hc2 k _ HX.out
                  exact ⟨f0, f1, f2, f3⟩
                have hW : ∀ X, Hid (Below w.heap.size w X) → Calls Tryd.prog 14 #[] X fun e X' => ∃ g, e = .returned (.slice (some ⟨g, 0, none⟩) 4 4) ∧ Hid (Below w.heap.size w X') ∧ X'.cell? ⟨b1, o1 + k * 5, none⟩ = some (.int .i64 kd) ∧ X'.cell? ⟨b1, o1 + k * 5 + 1, none⟩ = some (.string tk) ∧ X'.cell? ⟨b1, o1 + k * 5 + 2, none⟩ = some (.int .i64 tm) ∧ X'.cell? ⟨b1, o1 + k * 5 + 3, none⟩ = some (.string bd) ∧ X'.cell? ⟨g, i, none⟩ = some (.string wd) ∧ g < X'.heap.size := by
                  intro X hX
                  refine (words_any X).mono ?_
                  rintro e X' ⟨rfl, rfl⟩
                  have hb := hX.out.alloc hX.out.size (.cells #[.string ⟨#[98, 101, 103, 117, 110]⟩, .string ⟨#[100, 111, 110, 101]⟩, .string ⟨#[102, 97, 105, 108, 101, 100]⟩, .string ⟨#[110, 111, 116, 101, 100]⟩] 9)
                  obtain ⟨f0, f1, f2, f3⟩ := hcells _ hb
                  refine ⟨X.heap.size, rfl, hb, f0, f1, f2, f3, ?_, by simp⟩
                  rw [HWD.out]
                  exact word_cell X HI.out hi4
                have hD : ∀ X, Hid (Below w.heap.size w X) → Calls Tryd.prog 15 #[.int .i64 tm] X fun e X' => e = .returned (.string ⟨(Lib.itoa tm).toArray⟩) ∧ Hid (Below w.heap.size w X') ∧ X'.cell? ⟨b1, o1 + k * 5, none⟩ = some (.int .i64 kd) ∧ X'.cell? ⟨b1, o1 + k * 5 + 1, none⟩ = some (.string tk) ∧ X'.cell? ⟨b1, o1 + k * 5 + 2, none⟩ = some (.int .i64 tm) ∧ X'.cell? ⟨b1, o1 + k * 5 + 3, none⟩ = some (.string bd) ∧ (∀ q o, q < X.heap.size → X'.cell? ⟨q, o, none⟩ = X.cell? ⟨q, o, none⟩) := by
                  intro X hX
                  refine (decimal_any tm X ht0 ht1).mono ?_
                  rintro e X' ⟨rfl, hb⟩
                  have hb2 := hX.out.trans (hb.mono hX.out.size)
                  obtain ⟨f0, f1, f2, f3⟩ := hcells _ hb2
                  exact ⟨rfl, hb2, f0, f1, f2, f3, fun q o hq => hb.cell (p := ⟨q, o, none⟩) hq⟩
                have HW1d : Hid (Below w.heap.size w w1.drew) := HW1.out.drew
                have hbd6 : bd.size ≤ 65536 := by omega
                have htk6 : tk.size ≤ 65536 := by omega
                clear hcells HP HA1 HA2' HA3 HA4 HA5 HA6 HA7 HA8 HA9 HA10 HA11 hq0 hq1 hq3 hq5 hwl hwl2 htl hsP HT HTL HTA hlt2 hlo HO hjl
                go_wp2_with fail
                clear e4
                refine wp_region_held_drew (S := (fun w' => w'.cell? ⟨b1, o1 + k * 5, none⟩ = some (.int .i64 kd) ∧ w'.cell? ⟨b1, o1 + k * 5 + 1, none⟩ = some (.string tk) ∧ w'.cell? ⟨b1, o1 + k * 5 + 2, none⟩ = some (.int .i64 tm) ∧ w'.cell? ⟨b1, o1 + k * 5 + 3, none⟩ = some (.string bd))) (by kernel_rfl) ⟨e0, e1, e2, e3⟩ (fun hHeld => ?_)
                refine wpAnyH_take (i := 0) (v := ?_) rfl (by kernel_rfl) (by kernel_rfl) (by kernel_rfl) (fun _ _ _ h => h) (Or.inl ⟨by rfl, ?_⟩) (by assumption) ?_
                rotate_left
                · (intro w hSw; (try dsimp only at hSw); go_simp; try with_reducible rfl)
                try simp only [Act.put, List.getElem_toArray, List.getElem_cons_zero, List.setIfInBounds_toArray, List.set_cons_zero, List.set_cons_succ]
                refine wpAnyH_take (i := 1) (v := ?_) rfl (by kernel_rfl) (by kernel_rfl) (by kernel_rfl) (fun _ _ _ h => h) (Or.inl ⟨by rfl, ?_⟩) (by assumption) ?_
                rotate_left
                · (intro w hSw; (try dsimp only at hSw); go_simp; try with_reducible rfl)
                try simp only [Act.put, List.getElem_toArray, List.getElem_cons_zero, List.getElem_cons_succ, List.setIfInBounds_toArray, List.set_cons_zero, List.set_cons_succ]
                refine wpAnyH_take (i := 2) (v := ?_) rfl (by kernel_rfl) (by kernel_rfl) (by kernel_rfl) (fun _ _ _ h => h) (Or.inl ⟨by rfl, ?_⟩) (by assumption) ?_
                rotate_left
                · (intro w hSw; (try dsimp only at hSw); go_simp; try with_reducible rfl)
                try simp only [Act.put, List.getElem_toArray, List.getElem_cons_zero, List.getElem_cons_succ, List.setIfInBounds_toArray, List.set_cons_zero, List.set_cons_succ]
                refine wpAnyH_take (i := 3) (v := ?_) rfl (by kernel_rfl) (by kernel_rfl) (by kernel_rfl) (fun _ _ _ h => h) (Or.inl ⟨by rfl, ?_⟩) (by assumption) ?_
                rotate_left
                · (intro w hSw; (try dsimp only at hSw); go_simp; try with_reducible rfl)
                try simp only [Act.put, List.getElem_toArray, List.getElem_cons_zero, List.getElem_cons_succ, List.setIfInBounds_toArray, List.set_cons_zero, List.set_cons_succ]
                refine wpAnyH_take (i := 4) (v := ?_) rfl (by kernel_rfl) (by kernel_rfl) (by kernel_rfl) (fun _ _ _ h => h) (Or.inl ⟨by rfl, ?_⟩) (by assumption) ?_
                rotate_left
                · (intro w hSw; (try dsimp only at hSw); go_simp; try with_reducible rfl)
                try simp only [Act.put, List.getElem_toArray, List.getElem_cons_zero, List.getElem_cons_succ, List.setIfInBounds_toArray, List.set_cons_zero, List.set_cons_succ]
                refine wpAnyH_take (i := 5) (v := ?_) rfl (by kernel_rfl) (by kernel_rfl) (by kernel_rfl) (fun _ _ _ h => h) (Or.inl ⟨by rfl, ?_⟩) (by assumption) ?_
                rotate_left
                · (intro w hSw; (try dsimp only at hSw); go_simp; try with_reducible rfl)
                try simp only [Act.put, List.getElem_toArray, List.getElem_cons_zero, List.getElem_cons_succ, List.setIfInBounds_toArray, List.set_cons_zero, List.set_cons_succ]
                refine wpAnyH_take (i := 6) (v := ?_) rfl (by kernel_rfl) (by kernel_rfl) (by kernel_rfl) (fun _ _ _ h => h) (Or.inl ⟨by rfl, ?_⟩) (by assumption) ?_
                rotate_left
                · (intro w hSw; (try dsimp only at hSw); go_simp; try with_reducible rfl)
                try simp only [Act.put, List.getElem_toArray, List.getElem_cons_zero, List.getElem_cons_succ, List.setIfInBounds_toArray, List.set_cons_zero, List.set_cons_succ]
                refine wpAnyH_take (i := 11) (v := ?_) rfl (by kernel_rfl) (by kernel_rfl) (by kernel_rfl) (fun _ _ _ h => h) (Or.inl ⟨by rfl, ?_⟩) (by assumption) ?_
                rotate_left
                · (intro w hSw; (try dsimp only at hSw); go_simp; try with_reducible rfl)
                try simp only [Act.put, List.getElem_toArray, List.getElem_cons_zero, List.getElem_cons_succ, List.setIfInBounds_toArray, List.set_cons_zero, List.set_cons_succ]
                refine wpAnyH_take (i := 12) (v := ?_) rfl (by kernel_rfl) (by kernel_rfl) (by kernel_rfl) (fun _ _ _ h => h) (Or.inl ⟨by rfl, ?_⟩) (by assumption) ?_
                rotate_left
                · (intro w hSw; (try dsimp only at hSw); go_simp; try with_reducible rfl)
                try simp only [Act.put, List.getElem_toArray, List.getElem_cons_zero, List.getElem_cons_succ, List.setIfInBounds_toArray, List.set_cons_zero, List.set_cons_succ]
                refine wpAnyH_take (i := 13) (v := ?_) rfl (by kernel_rfl) (by kernel_rfl) (by kernel_rfl) (fun _ _ _ h => h) (Or.inl ⟨by rfl, ?_⟩) (by assumption) ?_
                rotate_left
                · (intro w hSw; (try dsimp only at hSw); go_simp; try with_reducible rfl)
                try simp only [Act.put, List.getElem_toArray, List.getElem_cons_zero, List.getElem_cons_succ, List.setIfInBounds_toArray, List.set_cons_zero, List.set_cons_succ]
                refine wpAnyH_take (i := 14) (v := ?_) rfl (by kernel_rfl) (by kernel_rfl) (by kernel_rfl) (fun _ _ _ h => h) (Or.inl ⟨by rfl, ?_⟩) (by assumption) ?_
                rotate_left
                · (intro w hSw; (try dsimp only at hSw); go_simp; try with_reducible rfl)
                try simp only [Act.put, List.getElem_toArray, List.getElem_cons_zero, List.getElem_cons_succ, List.setIfInBounds_toArray, List.set_cons_zero, List.set_cons_succ]
                refine wpAnyH_take (i := 15) (v := ?_) rfl (by kernel_rfl) (by kernel_rfl) (by kernel_rfl) (fun _ _ _ h => h) (Or.inl ⟨by rfl, ?_⟩) (by assumption) ?_
                rotate_left
                · (intro w hSw; (try dsimp only at hSw); go_simp; try with_reducible rfl)
                try simp only [Act.put, List.getElem_toArray, List.getElem_cons_zero, List.getElem_cons_succ, List.setIfInBounds_toArray, List.set_cons_zero, List.set_cons_succ]
                refine wpAnyH_take (i := 16) (v := ?_) rfl (by kernel_rfl) (by kernel_rfl) (by kernel_rfl) (fun _ _ _ h => h) (Or.inl ⟨by rfl, ?_⟩) (by assumption) ?_
                rotate_left
                · (intro w hSw; (try dsimp only at hSw); go_simp; try with_reducible rfl)
                try simp only [Act.put, List.getElem_toArray, List.getElem_cons_zero, List.getElem_cons_succ, List.setIfInBounds_toArray, List.set_cons_zero, List.set_cons_succ]
                refine wpAnyH_take (i := 21) (v := ?_) rfl (by kernel_rfl) (by kernel_rfl) (by kernel_rfl) (fun _ _ _ h => h) (Or.inl ⟨by rfl, ?_⟩) (by assumption) ?_
                rotate_left
                · (intro w hSw; (try dsimp only at hSw); go_simp; try with_reducible rfl)
                try simp only [Act.put, List.getElem_toArray, List.getElem_cons_zero, List.getElem_cons_succ, List.setIfInBounds_toArray, List.set_cons_zero, List.set_cons_succ]
                refine wpAnyH_take (i := 24) (v := ?_) rfl (by kernel_rfl) (by kernel_rfl) (by kernel_rfl) (fun _ _ _ h => h) (Or.inl ⟨by rfl, ?_⟩) (by assumption) ?_
                rotate_left
                · (intro w hSw; (try dsimp only at hSw); go_simp; try with_reducible rfl)
                try simp only [Act.put, List.getElem_toArray, List.getElem_cons_zero, List.getElem_cons_succ, List.setIfInBounds_toArray, List.set_cons_zero, List.set_cons_succ]
                refine wpAnyH_take (i := 25) (v := ?_) rfl (by kernel_rfl) (by kernel_rfl) (by kernel_rfl) (fun _ _ _ h => h) (Or.inl ⟨by rfl, ?_⟩) (by assumption) ?_
                rotate_left
                · (intro w hSw; (try dsimp only at hSw); go_simp; try with_reducible rfl)
                try simp only [Act.put, List.getElem_toArray, List.getElem_cons_zero, List.getElem_cons_succ, List.setIfInBounds_toArray, List.set_cons_zero, List.set_cons_succ]
                refine wpAnyH_take (i := 26) (v := ?_) rfl (by kernel_rfl) (by kernel_rfl) (by kernel_rfl) (fun _ _ _ h => h) (Or.inl ⟨by rfl, ?_⟩) (by assumption) ?_
                rotate_left
                · (intro w hSw; (try dsimp only at hSw); go_simp; try with_reducible rfl)
                try simp only [Act.put, List.getElem_toArray, List.getElem_cons_zero, List.getElem_cons_succ, List.setIfInBounds_toArray, List.set_cons_zero, List.set_cons_succ]
                refine wpAnyH_take (i := 27) (v := ?_) rfl (by kernel_rfl) (by kernel_rfl) (by kernel_rfl) (fun _ _ _ h => h) (Or.inl ⟨by rfl, ?_⟩) (by assumption) ?_
                rotate_left
                · (intro w hSw; (try dsimp only at hSw); go_simp; try with_reducible rfl)
                try simp only [Act.put, List.getElem_toArray, List.getElem_cons_zero, List.getElem_cons_succ, List.setIfInBounds_toArray, List.set_cons_zero, List.set_cons_succ]
                refine wpAnyH_take (i := 28) (v := ?_) rfl (by kernel_rfl) (by kernel_rfl) (by kernel_rfl) (fun _ _ _ h => h) (Or.inl ⟨by rfl, ?_⟩) (by assumption) ?_
                rotate_left
                · (intro w hSw; (try dsimp only at hSw); go_simp; try with_reducible rfl)
                try simp only [Act.put, List.getElem_toArray, List.getElem_cons_zero, List.getElem_cons_succ, List.setIfInBounds_toArray, List.set_cons_zero, List.set_cons_succ]
                refine wpAnyH_take (i := 32) (v := ?_) rfl (by kernel_rfl) (by kernel_rfl) (by kernel_rfl) (fun _ _ _ h => h) (Or.inl ⟨by rfl, ?_⟩) (by assumption) ?_
                rotate_left
                · (intro w hSw; (try dsimp only at hSw); go_simp; try with_reducible rfl)
                try simp only [Act.put, List.getElem_toArray, List.getElem_cons_zero, List.getElem_cons_succ, List.setIfInBounds_toArray, List.set_cons_zero, List.set_cons_succ]
                refine wpAnyH_take (i := 33) (v := ?_) rfl (by kernel_rfl) (by kernel_rfl) (by kernel_rfl) (fun _ _ _ h => h) (Or.inl ⟨by rfl, ?_⟩) (by assumption) ?_
                rotate_left
                · (intro w hSw; (try dsimp only at hSw); go_simp; try with_reducible rfl)
                try simp only [Act.put, List.getElem_toArray, List.getElem_cons_zero, List.getElem_cons_succ, List.setIfInBounds_toArray, List.set_cons_zero, List.set_cons_succ]
                refine wpAnyH_take (i := 34) (v := ?_) rfl (by kernel_rfl) (by kernel_rfl) (by kernel_rfl) (fun _ _ _ h => h) (Or.inl ⟨by rfl, ?_⟩) (by assumption) ?_
                rotate_left
                · (intro w hSw; (try dsimp only at hSw); go_simp; try with_reducible rfl)
                try simp only [Act.put, List.getElem_toArray, List.getElem_cons_zero, List.getElem_cons_succ, List.setIfInBounds_toArray, List.set_cons_zero, List.set_cons_succ]
                refine wpAnyH_take (i := 35) (v := ?_) rfl (by kernel_rfl) (by kernel_rfl) (by kernel_rfl) (fun _ _ _ h => h) (Or.inl ⟨by rfl, ?_⟩) (by assumption) ?_
                rotate_left
                · (intro w hSw; (try dsimp only at hSw); go_simp; try with_reducible rfl)
                try simp only [Act.put, List.getElem_toArray, List.getElem_cons_zero, List.getElem_cons_succ, List.setIfInBounds_toArray, List.set_cons_zero, List.set_cons_succ]
                refine wpAnyH_take (i := 36) (v := ?_) rfl (by kernel_rfl) (by kernel_rfl) (by kernel_rfl) (fun _ _ _ h => h) (Or.inl ⟨by rfl, ?_⟩) (by assumption) ?_
                rotate_left
                · (intro w hSw; (try dsimp only at hSw); go_simp; try with_reducible rfl)
                try simp only [Act.put, List.getElem_toArray, List.getElem_cons_zero, List.getElem_cons_succ, List.setIfInBounds_toArray, List.set_cons_zero, List.set_cons_succ]
                refine wpAnyH_ready (rs := [7]) (by kernel_rfl) (by simp) ?_
                refine AllReadyH.cons rfl (fun K hK => ?_) AllReadyH.nil
                go_simp
                go_wp2_with (go_at_call 13; refine (quoted_any _ _ (by assumption)).mono ?_; rintro e w9 ⟨rfl, hw9⟩; have hw8 := hw9.symm; subst hw8; clear hw9)
                refine hK.out _ _ ⟨e0, e1, e2, e3⟩ (fun hHeld => ?_)
                clear hK K
                refine wpAnyH_take (i := 8) (v := ?_) rfl (by kernel_rfl) (by kernel_rfl) (by kernel_rfl) (fun _ _ _ h => h) (Or.inl ⟨by rfl, ?_⟩) (by assumption) ?_
                rotate_left
                · (intro w hSw; (try dsimp only at hSw); go_simp; try with_reducible rfl)
                try simp only [Act.put, List.getElem_toArray, List.getElem_cons_zero, List.getElem_cons_succ, List.setIfInBounds_toArray, List.set_cons_zero, List.set_cons_succ]
                refine wpAnyH_take (i := 9) (v := ?_) rfl (by kernel_rfl) (by kernel_rfl) (by kernel_rfl) (fun _ _ _ h => h) (Or.inl ⟨by rfl, ?_⟩) (by assumption) ?_
                rotate_left
                · (intro w hSw; (try dsimp only at hSw); go_simp; try with_reducible rfl)
                try simp only [Act.put, List.getElem_toArray, List.getElem_cons_zero, List.getElem_cons_succ, List.setIfInBounds_toArray, List.set_cons_zero, List.set_cons_succ]
                refine wpAnyH_ready (rs := [10]) (by kernel_rfl) (by simp) ?_
                refine AllReadyH.cons rfl (fun K hK => ?_) AllReadyH.nil
                go_simp
                go_wp2_with (go_at_call 14; refine (hW _ HW1d).mono ?_; rintro e w3 ⟨g, rfl, HW3, q0, q1, q2, q3, qw, hg⟩)
                refine hK.out _ _ ⟨q0, q1, q2, q3⟩ (fun hHeld => ?_)
                clear hK K
                refine held_mono (T := (fun w' => w'.cell? ⟨b1, o1 + k * 5, none⟩ = some (.int .i64 kd) ∧ w'.cell? ⟨b1, o1 + k * 5 + 1, none⟩ = some (.string tk) ∧ w'.cell? ⟨b1, o1 + k * 5 + 2, none⟩ = some (.int .i64 tm) ∧ w'.cell? ⟨b1, o1 + k * 5 + 3, none⟩ = some (.string bd) ∧ w'.cell? ⟨g, i, none⟩ = some (.string wd))) (fun _ h => ⟨h.1, h.2.1, h.2.2.1, h.2.2.2.1⟩) _ _ _ _ ?_
                have hHeld2 : (fun w' => w'.cell? ⟨b1, o1 + k * 5, none⟩ = some (.int .i64 kd) ∧ w'.cell? ⟨b1, o1 + k * 5 + 1, none⟩ = some (.string tk) ∧ w'.cell? ⟨b1, o1 + k * 5 + 2, none⟩ = some (.int .i64 tm) ∧ w'.cell? ⟨b1, o1 + k * 5 + 3, none⟩ = some (.string bd) ∧ w'.cell? ⟨g, i, none⟩ = some (.string wd)) w3 := ⟨q0, q1, q2, q3, qw⟩
                refine wpAnyH_take (i := 17) (v := ?_) rfl (by kernel_rfl) (by kernel_rfl) (by kernel_rfl) (fun _ _ _ h => h) (Or.inl ⟨by rfl, ?_⟩) (by assumption) ?_
                rotate_left
                · (intro w hSw; (try dsimp only at hSw); go_simp; try with_reducible rfl)
                try simp only [Act.put, List.getElem_toArray, List.getElem_cons_zero, List.getElem_cons_succ, List.setIfInBounds_toArray, List.set_cons_zero, List.set_cons_succ]
                refine wpAnyH_take (i := 18) (v := ?_) rfl (by kernel_rfl) (by kernel_rfl) (by kernel_rfl) (fun _ _ _ h => h) (Or.inl ⟨by rfl, ?_⟩) (by assumption) ?_
                rotate_left
                · (intro w hSw; (try dsimp only at hSw); go_simp; try with_reducible rfl)
                try simp only [Act.put, List.getElem_toArray, List.getElem_cons_zero, List.getElem_cons_succ, List.setIfInBounds_toArray, List.set_cons_zero, List.set_cons_succ]
                refine wpAnyH_take (i := 19) (v := ?_) rfl (by kernel_rfl) (by kernel_rfl) (by kernel_rfl) (fun _ _ _ h => h) (Or.inl ⟨by rfl, ?_⟩) (by assumption) ?_
                rotate_left
                · (intro w hSw; (try dsimp only at hSw); go_simp; try with_reducible rfl)
                try simp only [Act.put, List.getElem_toArray, List.getElem_cons_zero, List.getElem_cons_succ, List.setIfInBounds_toArray, List.set_cons_zero, List.set_cons_succ]
                refine wpAnyH_take (i := 20) (v := ?_) rfl (by kernel_rfl) (by kernel_rfl) (by kernel_rfl) (fun _ _ _ h => h) (Or.inl ⟨by rfl, ?_⟩) (by assumption) ?_
                rotate_left
                · (intro w hSw; (try dsimp only at hSw); go_simp; try with_reducible rfl)
                try simp only [Act.put, List.getElem_toArray, List.getElem_cons_zero, List.getElem_cons_succ, List.setIfInBounds_toArray, List.set_cons_zero, List.set_cons_succ]
                refine wpAnyH_take (i := 22) (v := ?_) rfl (by kernel_rfl) (by kernel_rfl) (by kernel_rfl) (fun _ _ _ h => h) (Or.inl ⟨by rfl, ?_⟩) (by assumption) ?_
                rotate_left
                · (intro w hSw; (try dsimp only at hSw); go_simp; try with_reducible rfl)
                try simp only [Act.put, List.getElem_toArray, List.getElem_cons_zero, List.getElem_cons_succ, List.setIfInBounds_toArray, List.set_cons_zero, List.set_cons_succ]
                refine wpAnyH_take (i := 23) (v := ?_) rfl (by kernel_rfl) (by kernel_rfl) (by kernel_rfl) (fun _ _ _ h => h) (Or.inl ⟨by rfl, ?_⟩) (by assumption) ?_
                rotate_left
                · (intro w hSw; (try dsimp only at hSw); go_simp; try with_reducible rfl)
                try simp only [Act.put, List.getElem_toArray, List.getElem_cons_zero, List.getElem_cons_succ, List.setIfInBounds_toArray, List.set_cons_zero, List.set_cons_succ]
                refine wpAnyH_ready (rs := [29]) (by kernel_rfl) (by simp) ?_
                refine AllReadyH.cons rfl (fun K hK => ?_) AllReadyH.nil
                go_simp
                go_wp2_with (go_at_call 13; refine (quoted_any _ _ (by assumption)).mono ?_; rintro e w9 ⟨rfl, hw9⟩; have hw8 := hw9.symm; subst hw8; clear hw9)
                refine hK.out _ _ ⟨q0, q1, q2, q3, qw⟩ (fun hHeld => ?_)
                clear hK K
                refine wpAnyH_take (i := 30) (v := ?_) rfl (by kernel_rfl) (by kernel_rfl) (by kernel_rfl) (fun _ _ _ h => h) (Or.inl ⟨by rfl, ?_⟩) (by assumption) ?_
                rotate_left
                · (intro w hSw; (try dsimp only at hSw); go_simp; try with_reducible rfl)
                try simp only [Act.put, List.getElem_toArray, List.getElem_cons_zero, List.getElem_cons_succ, List.setIfInBounds_toArray, List.set_cons_zero, List.set_cons_succ]
                refine wpAnyH_take (i := 31) (v := ?_) rfl (by kernel_rfl) (by kernel_rfl) (by kernel_rfl) (fun _ _ _ h => h) (Or.inl ⟨by rfl, ?_⟩) (by assumption) ?_
                rotate_left
                · (intro w hSw; (try dsimp only at hSw); go_simp; try with_reducible rfl)
                try simp only [Act.put, List.getElem_toArray, List.getElem_cons_zero, List.getElem_cons_succ, List.setIfInBounds_toArray, List.set_cons_zero, List.set_cons_succ]
                refine wpAnyH_ready (rs := [37]) (by kernel_rfl) (by simp) ?_
                refine AllReadyH.cons rfl (fun K hK => ?_) AllReadyH.nil
                go_simp
                go_wp2_with (go_at_call 15; refine (hD _ HW3).mono ?_; rintro e w4 ⟨rfl, HW4, r0, r1, r2, r3, hcd⟩)
                refine hK.out _ _ ⟨r0, r1, r2, r3, (hcd g i hg).trans qw⟩ (fun hHeld => ?_)
                clear hK K
                refine wpAnyH_take (i := 38) (v := ?_) rfl (by kernel_rfl) (by kernel_rfl) (by kernel_rfl) (fun _ _ _ h => h) (Or.inl ⟨by rfl, ?_⟩) (by assumption) ?_
                rotate_left
                · (intro w hSw; (try dsimp only at hSw); go_simp; try with_reducible rfl)
                try simp only [Act.put, List.getElem_toArray, List.getElem_cons_zero, List.getElem_cons_succ, List.setIfInBounds_toArray, List.set_cons_zero, List.set_cons_succ]
                refine wpAnyH_take (i := 39) (v := ?_) rfl (by kernel_rfl) (by kernel_rfl) (by kernel_rfl) (fun _ _ _ h => h) (Or.inl ⟨by rfl, ?_⟩) (by assumption) ?_
                rotate_left
                · (intro w hSw; (try dsimp only at hSw); go_simp; try with_reducible rfl)
                try simp only [Act.put, List.getElem_toArray, List.getElem_cons_zero, List.getElem_cons_succ, List.setIfInBounds_toArray, List.set_cons_zero, List.set_cons_succ]
                refine wpAnyH_take (i := 40) (v := ?_) rfl (by kernel_rfl) (by kernel_rfl) (by kernel_rfl) (fun _ _ _ h => h) (Or.inl ⟨by rfl, ?_⟩) (by assumption) ?_
                rotate_left
                · (intro w hSw; (try dsimp only at hSw); go_simp; try with_reducible rfl)
                try simp only [Act.put, List.getElem_toArray, List.getElem_cons_zero, List.getElem_cons_succ, List.setIfInBounds_toArray, List.set_cons_zero, List.set_cons_succ]
                refine wpAnyH_done (by kernel_rfl) ?_ _
                go_wp2
                go_roundw
                case rel => exact ⟨k + 1, A11, by omega, by go_num, rfl, HF, HA2, HW4⟩
                case measure => simp [intOf]; omega
          · have HFIN : Hid (out.data.toList ++ tellB ⟨kd, tk, tm, bd, ts⟩ = 91 :: jn ((told l).take (k + 1))) := by
              have hk0 : k = 0 := by omega
              show _ = _
              rw [HO.out]
              have := HAT.out
              subst hk0
              rw [jn_take_zero this]; rfl
            have hki : (k : Int) < (l.length : Int) := by omega
            go_wp2_with fail
            refine hG.mono ?_
            rintro e w1 ⟨rfl, hb1⟩
            have HW1 := hide0 (HW.out.trans (hb1.mono hsz))
            obtain ⟨b2, o2, hbo, hc2⟩ := hl.out.below HW1.out (Nat.le_refl _) (by omega)
            simp only [Option.some.injEq, Addr.mk.injEq, and_true] at hbo
            obtain ⟨rfl, rfl⟩ := hbo
            obtain ⟨⟨e0, e1, e2, e3, e4⟩, hok⟩ := hc2 k _ HX.out
            simp only at e0 e1 e2 e3 e4
            have HOK1 := hide0 hok
            clear hc2 hok hb1 hG c0 c1 c2 c3 c4
            go_wp2_with fail
            go_loopw [7, 8] (fun tv kv wx => ∃ (j : Nat) (tg : ByteArray), j ≤ ts.length ∧ kv = .int .i64 j ∧ tv = .string tg ∧ wx = w1 ∧ Hid (tg.data.toList = jn ((tagsT ts).take j))) (fun _ kv _ => ts.length - (intOf kv).toNat)
            case atStart => exact ⟨0, _, Nat.zero_le _, rfl, rfl, rfl, rfl⟩
            case round =>
              obtain ⟨j, tg, hj, rfl, rfl, hwx, HT⟩ := hrel
              have hwy := hwx.symm
              subst hwy
              have hlt2 : tg.size ≤ 600 := by
                have g1 := jn_len (l := (tagsT ts).take j) (m := 122) (fun y hy => tagsT_short HLN.out y (List.mem_of_mem_take hy))
                rw [List.length_take, tagsT_len] at g1
                have g2 : min j ts.length * 123 ≤ 4 * 123 := Nat.mul_le_mul_right _ (by omega)
                have g3 := congrArg List.length HT.out
                simp at g3
                omega
              have HTL : Hid ((jn ((tagsT ts).take j)).length ≤ 600) := by show _ ≤ _; rw [← HT.out]; simpa using hlt2
              by_cases hjl : j < ts.length
              · obtain ⟨b3, o3, rfl, hc3⟩ := HOK1.out.tags (by simp only; omega)
                have e5 := hc3 j hjl
                obtain ⟨x, hx⟩ : ∃ x, ts[j]?.getD ByteArray.empty = x := ⟨_, rfl⟩
                simp only at e5
                rw [hx] at e5
                have hx60 : x.size ≤ 60 := by
                  rw [← hx, List.getElem?_eq_getElem hjl]
                  exact HLN.out _ (List.getElem_mem hjl)
                have hAT := tagsT_at hjl
                rw [hx] at hAT
                have HATj := hide0 hAT
                have hq := qB_len x.data.toList
                have hq2 : (qB x.data.toList).length ≤ 122 := by simp at hq; omega
                have hji : (j : Int) < (ts.length : Int) := by omega
                clear hc3 hx hAT hq
                by_cases h0j : 0 < j
                · obtain ⟨T1, hT1, HT1⟩ := catted tg ⟨#[44]⟩ _ [44] HT rfl (by have := HTL.out; simp only [List.length_cons, List.length_nil]; omega)
                  obtain ⟨T2, hT2, HT2⟩ := catted T1 ⟨(qB x.data.toList).toArray⟩ _ _ HT1 rfl (by have := HTL.out; simp only [List.length_append, List.length_cons, List.length_nil]; omega)
                  have HF : Hid (T2.data.toList = jn ((tagsT ts).take (j + 1))) := by show _ = _; rw [HT2.out, jn_take HATj.out h0j]; simp
                  clear HT1 HT2
                  go_wp2_with fail
                  refine (quoted_any x _ (by omega)).mono ?_
                  rintro e w2 ⟨rfl, hw2⟩
                  have hw3 := hw2.symm
                  subst hw3
                  go_wp2
                  go_roundw
                  case rel => exact ⟨j + 1, T2, by omega, by go_num, rfl, by simp, HF⟩
                  case measure => simp [intOf]; omega
                · obtain ⟨T2, hT2, HT2⟩ := catted tg ⟨(qB x.data.toList).toArray⟩ _ (qB x.data.toList) HT rfl (by have := HTL.out; omega)
                  have HF : Hid (T2.data.toList = jn ((tagsT ts).take (j + 1))) := by
                    have hj0 : j = 0 := by omega
                    show _ = _
                    rw [HT2.out]
                    have := HATj.out
                    subst hj0
                    rw [jn_take_zero this]; rfl
                  clear HT2
                  go_wp2_with fail
                  refine (quoted_any x _ (by omega)).mono ?_
                  rintro e w2 ⟨rfl, hw2⟩
                  have hw3 := hw2.symm
                  subst hw3
                  go_wp2
                  go_roundw
                  case rel => exact ⟨j + 1, T2, by omega, by go_num, rfl, by simp, HF⟩
                  case measure => simp [intOf]; omega
              · have HTA : Hid (tg.data.toList = jn (tagsT ts)) := by
                  have := HT.out
                  rwa [List.take_of_length_le (by rw [tagsT_len]; omega)] at this
                have hji : ¬ (j : Int) < (ts.length : Int) := by omega
                have hsP : out.data.toList.length ≤ 300001 := by
                  simp; omega
                have HP : Hid (out.data.toList = out.data.toList) := rfl
                have hq0 : ∀ s : ByteArray, s.size ≤ 60 → (qB s.data.toList).length ≤ 122 := fun s hs => by have := qB_len s.data.toList; simp at this; omega
                have hq1 := hq0 bd hbd
                have hq3 := hq0 tk htk
                have hwl := word_len kd
                have htl := HTL.out
                rw [← HT.out] at htl
                have hq5 := itoa_len ht0 ht1
                obtain ⟨i, hi, hi4, hi4i, HI⟩ : ∃ i : Nat, IntKind.i64.wrap (kd - 1) = i ∧ i < 4 ∧ (i : Int) < 4 ∧ Hid ((i : Int) + 1 = kd) := ⟨(kd - 1).toNat, by rw [wrapI_small (by omega) (by omega)]; omega, by omega, by omega, by show _ = _; omega⟩
                obtain ⟨wd, HWD⟩ : ∃ wd : ByteArray, Hid (wd = ⟨(wordB kd).toArray⟩) := ⟨_, rfl⟩
                have HWL : Hid (wd.data.toList = wordB kd) := by show _ = _; rw [HWD.out]
                have hwl2 : wd.data.toList.length ≤ 6 := by rw [HWL.out]; exact hwl
                obtain ⟨A1, hA1, HA1⟩ := catted out ⟨#[123, 34, 98, 111, 100, 121, 34, 58]⟩ _ [123, 34, 98, 111, 100, 121, 34, 58] HP rfl (by simp only [List.length_cons, List.length_nil]; omega)
                obtain ⟨A2, hA2, HA2'⟩ := catted A1 ⟨(qB bd.data.toList).toArray⟩ _ (qB bd.data.toList) HA1 rfl (by simp only [List.length_append, List.length_cons, List.length_nil]; omega)
                obtain ⟨A3, hA3, HA3⟩ := catted A2 ⟨#[44, 34, 107, 105, 110, 100, 34, 58, 34]⟩ _ [44, 34, 107, 105, 110, 100, 34, 58, 34] HA2' rfl (by simp only [List.length_append, List.length_cons, List.length_nil]; omega)
                obtain ⟨A4, hA4, HA4⟩ := catted A3 wd _ _ HA3 rfl (by simp only [List.length_append, List.length_cons, List.length_nil]; omega)
                obtain ⟨A5, hA5, HA5⟩ := catted A4 ⟨#[34, 44, 34, 116, 97, 103, 115, 34, 58, 91]⟩ _ [34, 44, 34, 116, 97, 103, 115, 34, 58, 91] HA4 rfl (by simp only [List.length_append, List.length_cons, List.length_nil]; omega)
                obtain ⟨A6, hA6, HA6⟩ := catted A5 tg _ _ HA5 rfl (by simp only [List.length_append, List.length_cons, List.length_nil]; omega)
                obtain ⟨A7, hA7, HA7⟩ := catted A6 ⟨#[93, 44, 34, 116, 97, 115, 107, 34, 58]⟩ _ [93, 44, 34, 116, 97, 115, 107, 34, 58] HA6 rfl (by simp only [List.length_append, List.length_cons, List.length_nil]; omega)
                obtain ⟨A8, hA8, HA8⟩ := catted A7 ⟨(qB tk.data.toList).toArray⟩ _ (qB tk.data.toList) HA7 rfl (by simp only [List.length_append, List.length_cons, List.length_nil]; omega)
                obtain ⟨A9, hA9, HA9⟩ := catted A8 ⟨#[44, 34, 116, 105, 109, 101, 34, 58]⟩ _ [44, 34, 116, 105, 109, 101, 34, 58] HA8 rfl (by simp only [List.length_append, List.length_cons, List.length_nil]; omega)
                obtain ⟨A10, hA10, HA10⟩ := catted A9 ⟨(Lib.itoa tm).toArray⟩ _ (Lib.itoa tm) HA9 rfl (by simp only [List.length_append, List.length_cons, List.length_nil]; omega)
                obtain ⟨A11, hA11, HA11⟩ := catted A10 ⟨#[125]⟩ _ [125] HA10 rfl (by simp only [List.length_append, List.length_cons, List.length_nil]; omega)
                have HF : Hid (A11.data.toList = 91 :: jn ((told l).take (k + 1))) := by
                  show _ = _
                  rw [← HFIN.out, HA11.out, HWL.out, HTA.out]
                  simp only [tellB, word_q, listB, lit1, lit2, lit3, lit4, lit5, List.append_assoc, List.cons_append, List.nil_append]
                have hcells : ∀ X, Below w.heap.size w X → X.cell? ⟨b1, o1 + k * 5, none⟩ = some (.int .i64 kd) ∧ X.cell? ⟨b1, o1 + k * 5 + 1, none⟩ = some (.string tk) ∧ X.cell? ⟨b1, o1 + k * 5 + 2, none⟩ = some (.int .i64 tm) ∧ X.cell? ⟨b1, o1 + k * 5 + 3, none⟩ = some (.string bd) := by
                  intro X hX
                  obtain ⟨b2, o2, hbo, hc2⟩ := hl.out.below hX (Nat.le_refl _) (by omega)
                  simp only [Option.some.injEq, Addr.mk.injEq, and_true] at hbo
                  obtain ⟨rfl, rfl⟩ := hbo
                  obtain ⟨⟨f0, f1, f2, f3, f4⟩, _⟩ := hc2 k _ HX.out
                  exact ⟨f0, f1, f2, f3⟩
                have hW : ∀ X, Hid (Below w.heap.size w X) → Calls Tryd.prog 14 #[] X fun e X' => ∃ g, e = .returned (.slice (some ⟨g, 0, none⟩) 4 4) ∧ Hid (Below w.heap.size w X') ∧ X'.cell? ⟨b1, o1 + k * 5, none⟩ = some (.int .i64 kd) ∧ X'.cell? ⟨b1, o1 + k * 5 + 1, none⟩ = some (.string tk) ∧ X'.cell? ⟨b1, o1 + k * 5 + 2, none⟩ = some (.int .i64 tm) ∧ X'.cell? ⟨b1, o1 + k * 5 + 3, none⟩ = some (.string bd) ∧ X'.cell? ⟨g, i, none⟩ = some (.string wd) ∧ g < X'.heap.size := by
                  intro X hX
                  refine (words_any X).mono ?_
                  rintro e X' ⟨rfl, rfl⟩
                  have hb := hX.out.alloc hX.out.size (.cells #[.string ⟨#[98, 101, 103, 117, 110]⟩, .string ⟨#[100, 111, 110, 101]⟩, .string ⟨#[102, 97, 105, 108, 101, 100]⟩, .string ⟨#[110, 111, 116, 101, 100]⟩] 9)
                  obtain ⟨f0, f1, f2, f3⟩ := hcells _ hb
                  refine ⟨X.heap.size, rfl, hb, f0, f1, f2, f3, ?_, by simp⟩
                  rw [HWD.out]
                  exact word_cell X HI.out hi4
                have hD : ∀ X, Hid (Below w.heap.size w X) → Calls Tryd.prog 15 #[.int .i64 tm] X fun e X' => e = .returned (.string ⟨(Lib.itoa tm).toArray⟩) ∧ Hid (Below w.heap.size w X') ∧ X'.cell? ⟨b1, o1 + k * 5, none⟩ = some (.int .i64 kd) ∧ X'.cell? ⟨b1, o1 + k * 5 + 1, none⟩ = some (.string tk) ∧ X'.cell? ⟨b1, o1 + k * 5 + 2, none⟩ = some (.int .i64 tm) ∧ X'.cell? ⟨b1, o1 + k * 5 + 3, none⟩ = some (.string bd) ∧ (∀ q o, q < X.heap.size → X'.cell? ⟨q, o, none⟩ = X.cell? ⟨q, o, none⟩) := by
                  intro X hX
                  refine (decimal_any tm X ht0 ht1).mono ?_
                  rintro e X' ⟨rfl, hb⟩
                  have hb2 := hX.out.trans (hb.mono hX.out.size)
                  obtain ⟨f0, f1, f2, f3⟩ := hcells _ hb2
                  exact ⟨rfl, hb2, f0, f1, f2, f3, fun q o hq => hb.cell (p := ⟨q, o, none⟩) hq⟩
                have HW1d : Hid (Below w.heap.size w w1.drew) := HW1.out.drew
                have hbd6 : bd.size ≤ 65536 := by omega
                have htk6 : tk.size ≤ 65536 := by omega
                clear hcells HP HA1 HA2' HA3 HA4 HA5 HA6 HA7 HA8 HA9 HA10 HA11 hq0 hq1 hq3 hq5 hwl hwl2 htl hsP HT HTL HTA hlt2 hlo HO hjl
                go_wp2_with fail
                clear e4
                refine wp_region_held_drew (S := (fun w' => w'.cell? ⟨b1, o1 + k * 5, none⟩ = some (.int .i64 kd) ∧ w'.cell? ⟨b1, o1 + k * 5 + 1, none⟩ = some (.string tk) ∧ w'.cell? ⟨b1, o1 + k * 5 + 2, none⟩ = some (.int .i64 tm) ∧ w'.cell? ⟨b1, o1 + k * 5 + 3, none⟩ = some (.string bd))) (by kernel_rfl) ⟨e0, e1, e2, e3⟩ (fun hHeld => ?_)
                refine wpAnyH_take (i := 0) (v := ?_) rfl (by kernel_rfl) (by kernel_rfl) (by kernel_rfl) (fun _ _ _ h => h) (Or.inl ⟨by rfl, ?_⟩) (by assumption) ?_
                rotate_left
                · (intro w hSw; (try dsimp only at hSw); go_simp; try with_reducible rfl)
                try simp only [Act.put, List.getElem_toArray, List.getElem_cons_zero, List.setIfInBounds_toArray, List.set_cons_zero, List.set_cons_succ]
                refine wpAnyH_take (i := 1) (v := ?_) rfl (by kernel_rfl) (by kernel_rfl) (by kernel_rfl) (fun _ _ _ h => h) (Or.inl ⟨by rfl, ?_⟩) (by assumption) ?_
                rotate_left
                · (intro w hSw; (try dsimp only at hSw); go_simp; try with_reducible rfl)
                try simp only [Act.put, List.getElem_toArray, List.getElem_cons_zero, List.getElem_cons_succ, List.setIfInBounds_toArray, List.set_cons_zero, List.set_cons_succ]
                refine wpAnyH_take (i := 2) (v := ?_) rfl (by kernel_rfl) (by kernel_rfl) (by kernel_rfl) (fun _ _ _ h => h) (Or.inl ⟨by rfl, ?_⟩) (by assumption) ?_
                rotate_left
                · (intro w hSw; (try dsimp only at hSw); go_simp; try with_reducible rfl)
                try simp only [Act.put, List.getElem_toArray, List.getElem_cons_zero, List.getElem_cons_succ, List.setIfInBounds_toArray, List.set_cons_zero, List.set_cons_succ]
                refine wpAnyH_take (i := 3) (v := ?_) rfl (by kernel_rfl) (by kernel_rfl) (by kernel_rfl) (fun _ _ _ h => h) (Or.inl ⟨by rfl, ?_⟩) (by assumption) ?_
                rotate_left
                · (intro w hSw; (try dsimp only at hSw); go_simp; try with_reducible rfl)
                try simp only [Act.put, List.getElem_toArray, List.getElem_cons_zero, List.getElem_cons_succ, List.setIfInBounds_toArray, List.set_cons_zero, List.set_cons_succ]
                refine wpAnyH_take (i := 4) (v := ?_) rfl (by kernel_rfl) (by kernel_rfl) (by kernel_rfl) (fun _ _ _ h => h) (Or.inl ⟨by rfl, ?_⟩) (by assumption) ?_
                rotate_left
                · (intro w hSw; (try dsimp only at hSw); go_simp; try with_reducible rfl)
                try simp only [Act.put, List.getElem_toArray, List.getElem_cons_zero, List.getElem_cons_succ, List.setIfInBounds_toArray, List.set_cons_zero, List.set_cons_succ]
                refine wpAnyH_take (i := 5) (v := ?_) rfl (by kernel_rfl) (by kernel_rfl) (by kernel_rfl) (fun _ _ _ h => h) (Or.inl ⟨by rfl, ?_⟩) (by assumption) ?_
                rotate_left
                · (intro w hSw; (try dsimp only at hSw); go_simp; try with_reducible rfl)
                try simp only [Act.put, List.getElem_toArray, List.getElem_cons_zero, List.getElem_cons_succ, List.setIfInBounds_toArray, List.set_cons_zero, List.set_cons_succ]
                refine wpAnyH_take (i := 6) (v := ?_) rfl (by kernel_rfl) (by kernel_rfl) (by kernel_rfl) (fun _ _ _ h => h) (Or.inl ⟨by rfl, ?_⟩) (by assumption) ?_
                rotate_left
                · (intro w hSw; (try dsimp only at hSw); go_simp; try with_reducible rfl)
                try simp only [Act.put, List.getElem_toArray, List.getElem_cons_zero, List.getElem_cons_succ, List.setIfInBounds_toArray, List.set_cons_zero, List.set_cons_succ]
                refine wpAnyH_take (i := 11) (v := ?_) rfl (by kernel_rfl) (by kernel_rfl) (by kernel_rfl) (fun _ _ _ h => h) (Or.inl ⟨by rfl, ?_⟩) (by assumption) ?_
                rotate_left
                · (intro w hSw; (try dsimp only at hSw); go_simp; try with_reducible rfl)
                try simp only [Act.put, List.getElem_toArray, List.getElem_cons_zero, List.getElem_cons_succ, List.setIfInBounds_toArray, List.set_cons_zero, List.set_cons_succ]
                refine wpAnyH_take (i := 12) (v := ?_) rfl (by kernel_rfl) (by kernel_rfl) (by kernel_rfl) (fun _ _ _ h => h) (Or.inl ⟨by rfl, ?_⟩) (by assumption) ?_
                rotate_left
                · (intro w hSw; (try dsimp only at hSw); go_simp; try with_reducible rfl)
                try simp only [Act.put, List.getElem_toArray, List.getElem_cons_zero, List.getElem_cons_succ, List.setIfInBounds_toArray, List.set_cons_zero, List.set_cons_succ]
                refine wpAnyH_take (i := 13) (v := ?_) rfl (by kernel_rfl) (by kernel_rfl) (by kernel_rfl) (fun _ _ _ h => h) (Or.inl ⟨by rfl, ?_⟩) (by assumption) ?_
                rotate_left
                · (intro w hSw; (try dsimp only at hSw); go_simp; try with_reducible rfl)
                try simp only [Act.put, List.getElem_toArray, List.getElem_cons_zero, List.getElem_cons_succ, List.setIfInBounds_toArray, List.set_cons_zero, List.set_cons_succ]
                refine wpAnyH_take (i := 14) (v := ?_) rfl (by kernel_rfl) (by kernel_rfl) (by kernel_rfl) (fun _ _ _ h => h) (Or.inl ⟨by rfl, ?_⟩) (by assumption) ?_
                rotate_left
                · (intro w hSw; (try dsimp only at hSw); go_simp; try with_reducible rfl)
                try simp only [Act.put, List.getElem_toArray, List.getElem_cons_zero, List.getElem_cons_succ, List.setIfInBounds_toArray, List.set_cons_zero, List.set_cons_succ]
                refine wpAnyH_take (i := 15) (v := ?_) rfl (by kernel_rfl) (by kernel_rfl) (by kernel_rfl) (fun _ _ _ h => h) (Or.inl ⟨by rfl, ?_⟩) (by assumption) ?_
                rotate_left
                · (intro w hSw; (try dsimp only at hSw); go_simp; try with_reducible rfl)
                try simp only [Act.put, List.getElem_toArray, List.getElem_cons_zero, List.getElem_cons_succ, List.setIfInBounds_toArray, List.set_cons_zero, List.set_cons_succ]
                refine wpAnyH_take (i := 16) (v := ?_) rfl (by kernel_rfl) (by kernel_rfl) (by kernel_rfl) (fun _ _ _ h => h) (Or.inl ⟨by rfl, ?_⟩) (by assumption) ?_
                rotate_left
                · (intro w hSw; (try dsimp only at hSw); go_simp; try with_reducible rfl)
                try simp only [Act.put, List.getElem_toArray, List.getElem_cons_zero, List.getElem_cons_succ, List.setIfInBounds_toArray, List.set_cons_zero, List.set_cons_succ]
                refine wpAnyH_take (i := 21) (v := ?_) rfl (by kernel_rfl) (by kernel_rfl) (by kernel_rfl) (fun _ _ _ h => h) (Or.inl ⟨by rfl, ?_⟩) (by assumption) ?_
                rotate_left
                · (intro w hSw; (try dsimp only at hSw); go_simp; try with_reducible rfl)
                try simp only [Act.put, List.getElem_toArray, List.getElem_cons_zero, List.getElem_cons_succ, List.setIfInBounds_toArray, List.set_cons_zero, List.set_cons_succ]
                refine wpAnyH_take (i := 24) (v := ?_) rfl (by kernel_rfl) (by kernel_rfl) (by kernel_rfl) (fun _ _ _ h => h) (Or.inl ⟨by rfl, ?_⟩) (by assumption) ?_
                rotate_left
                · (intro w hSw; (try dsimp only at hSw); go_simp; try with_reducible rfl)
                try simp only [Act.put, List.getElem_toArray, List.getElem_cons_zero, List.getElem_cons_succ, List.setIfInBounds_toArray, List.set_cons_zero, List.set_cons_succ]
                refine wpAnyH_take (i := 25) (v := ?_) rfl (by kernel_rfl) (by kernel_rfl) (by kernel_rfl) (fun _ _ _ h => h) (Or.inl ⟨by rfl, ?_⟩) (by assumption) ?_
                rotate_left
                · (intro w hSw; (try dsimp only at hSw); go_simp; try with_reducible rfl)
                try simp only [Act.put, List.getElem_toArray, List.getElem_cons_zero, List.getElem_cons_succ, List.setIfInBounds_toArray, List.set_cons_zero, List.set_cons_succ]
                refine wpAnyH_take (i := 26) (v := ?_) rfl (by kernel_rfl) (by kernel_rfl) (by kernel_rfl) (fun _ _ _ h => h) (Or.inl ⟨by rfl, ?_⟩) (by assumption) ?_
                rotate_left
                · (intro w hSw; (try dsimp only at hSw); go_simp; try with_reducible rfl)
                try simp only [Act.put, List.getElem_toArray, List.getElem_cons_zero, List.getElem_cons_succ, List.setIfInBounds_toArray, List.set_cons_zero, List.set_cons_succ]
                refine wpAnyH_take (i := 27) (v := ?_) rfl (by kernel_rfl) (by kernel_rfl) (by kernel_rfl) (fun _ _ _ h => h) (Or.inl ⟨by rfl, ?_⟩) (by assumption) ?_
                rotate_left
                · (intro w hSw; (try dsimp only at hSw); go_simp; try with_reducible rfl)
                try simp only [Act.put, List.getElem_toArray, List.getElem_cons_zero, List.getElem_cons_succ, List.setIfInBounds_toArray, List.set_cons_zero, List.set_cons_succ]
                refine wpAnyH_take (i := 28) (v := ?_) rfl (by kernel_rfl) (by kernel_rfl) (by kernel_rfl) (fun _ _ _ h => h) (Or.inl ⟨by rfl, ?_⟩) (by assumption) ?_
                rotate_left
                · (intro w hSw; (try dsimp only at hSw); go_simp; try with_reducible rfl)
                try simp only [Act.put, List.getElem_toArray, List.getElem_cons_zero, List.getElem_cons_succ, List.setIfInBounds_toArray, List.set_cons_zero, List.set_cons_succ]
                refine wpAnyH_take (i := 32) (v := ?_) rfl (by kernel_rfl) (by kernel_rfl) (by kernel_rfl) (fun _ _ _ h => h) (Or.inl ⟨by rfl, ?_⟩) (by assumption) ?_
                rotate_left
                · (intro w hSw; (try dsimp only at hSw); go_simp; try with_reducible rfl)
                try simp only [Act.put, List.getElem_toArray, List.getElem_cons_zero, List.getElem_cons_succ, List.setIfInBounds_toArray, List.set_cons_zero, List.set_cons_succ]
                refine wpAnyH_take (i := 33) (v := ?_) rfl (by kernel_rfl) (by kernel_rfl) (by kernel_rfl) (fun _ _ _ h => h) (Or.inl ⟨by rfl, ?_⟩) (by assumption) ?_
                rotate_left
                · (intro w hSw; (try dsimp only at hSw); go_simp; try with_reducible rfl)
                try simp only [Act.put, List.getElem_toArray, List.getElem_cons_zero, List.getElem_cons_succ, List.setIfInBounds_toArray, List.set_cons_zero, List.set_cons_succ]
                refine wpAnyH_take (i := 34) (v := ?_) rfl (by kernel_rfl) (by kernel_rfl) (by kernel_rfl) (fun _ _ _ h => h) (Or.inl ⟨by rfl, ?_⟩) (by assumption) ?_
                rotate_left
                · (intro w hSw; (try dsimp only at hSw); go_simp; try with_reducible rfl)
                try simp only [Act.put, List.getElem_toArray, List.getElem_cons_zero, List.getElem_cons_succ, List.setIfInBounds_toArray, List.set_cons_zero, List.set_cons_succ]
                refine wpAnyH_take (i := 35) (v := ?_) rfl (by kernel_rfl) (by kernel_rfl) (by kernel_rfl) (fun _ _ _ h => h) (Or.inl ⟨by rfl, ?_⟩) (by assumption) ?_
                rotate_left
                · (intro w hSw; (try dsimp only at hSw); go_simp; try with_reducible rfl)
                try simp only [Act.put, List.getElem_toArray, List.getElem_cons_zero, List.getElem_cons_succ, List.setIfInBounds_toArray, List.set_cons_zero, List.set_cons_succ]
                refine wpAnyH_take (i := 36) (v := ?_) rfl (by kernel_rfl) (by kernel_rfl) (by kernel_rfl) (fun _ _ _ h => h) (Or.inl ⟨by rfl, ?_⟩) (by assumption) ?_
                rotate_left
                · (intro w hSw; (try dsimp only at hSw); go_simp; try with_reducible rfl)
                try simp only [Act.put, List.getElem_toArray, List.getElem_cons_zero, List.getElem_cons_succ, List.setIfInBounds_toArray, List.set_cons_zero, List.set_cons_succ]
                refine wpAnyH_ready (rs := [7]) (by kernel_rfl) (by simp) ?_
                refine AllReadyH.cons rfl (fun K hK => ?_) AllReadyH.nil
                go_simp
                go_wp2_with (go_at_call 13; refine (quoted_any _ _ (by assumption)).mono ?_; rintro e w9 ⟨rfl, hw9⟩; have hw8 := hw9.symm; subst hw8; clear hw9)
                refine hK.out _ _ ⟨e0, e1, e2, e3⟩ (fun hHeld => ?_)
                clear hK K
                refine wpAnyH_take (i := 8) (v := ?_) rfl (by kernel_rfl) (by kernel_rfl) (by kernel_rfl) (fun _ _ _ h => h) (Or.inl ⟨by rfl, ?_⟩) (by assumption) ?_
                rotate_left
                · (intro w hSw; (try dsimp only at hSw); go_simp; try with_reducible rfl)
                try simp only [Act.put, List.getElem_toArray, List.getElem_cons_zero, List.getElem_cons_succ, List.setIfInBounds_toArray, List.set_cons_zero, List.set_cons_succ]
                refine wpAnyH_take (i := 9) (v := ?_) rfl (by kernel_rfl) (by kernel_rfl) (by kernel_rfl) (fun _ _ _ h => h) (Or.inl ⟨by rfl, ?_⟩) (by assumption) ?_
                rotate_left
                · (intro w hSw; (try dsimp only at hSw); go_simp; try with_reducible rfl)
                try simp only [Act.put, List.getElem_toArray, List.getElem_cons_zero, List.getElem_cons_succ, List.setIfInBounds_toArray, List.set_cons_zero, List.set_cons_succ]
                refine wpAnyH_ready (rs := [10]) (by kernel_rfl) (by simp) ?_
                refine AllReadyH.cons rfl (fun K hK => ?_) AllReadyH.nil
                go_simp
                go_wp2_with (go_at_call 14; refine (hW _ HW1d).mono ?_; rintro e w3 ⟨g, rfl, HW3, q0, q1, q2, q3, qw, hg⟩)
                refine hK.out _ _ ⟨q0, q1, q2, q3⟩ (fun hHeld => ?_)
                clear hK K
                refine held_mono (T := (fun w' => w'.cell? ⟨b1, o1 + k * 5, none⟩ = some (.int .i64 kd) ∧ w'.cell? ⟨b1, o1 + k * 5 + 1, none⟩ = some (.string tk) ∧ w'.cell? ⟨b1, o1 + k * 5 + 2, none⟩ = some (.int .i64 tm) ∧ w'.cell? ⟨b1, o1 + k * 5 + 3, none⟩ = some (.string bd) ∧ w'.cell? ⟨g, i, none⟩ = some (.string wd))) (fun _ h => ⟨h.1, h.2.1, h.2.2.1, h.2.2.2.1⟩) _ _ _ _ ?_
                have hHeld2 : (fun w' => w'.cell? ⟨b1, o1 + k * 5, none⟩ = some (.int .i64 kd) ∧ w'.cell? ⟨b1, o1 + k * 5 + 1, none⟩ = some (.string tk) ∧ w'.cell? ⟨b1, o1 + k * 5 + 2, none⟩ = some (.int .i64 tm) ∧ w'.cell? ⟨b1, o1 + k * 5 + 3, none⟩ = some (.string bd) ∧ w'.cell? ⟨g, i, none⟩ = some (.string wd)) w3 := ⟨q0, q1, q2, q3, qw⟩
                refine wpAnyH_take (i := 17) (v := ?_) rfl (by kernel_rfl) (by kernel_rfl) (by kernel_rfl) (fun _ _ _ h => h) (Or.inl ⟨by rfl, ?_⟩) (by assumption) ?_
                rotate_left
                · (intro w hSw; (try dsimp only at hSw); go_simp; try with_reducible rfl)
                try simp only [Act.put, List.getElem_toArray, List.getElem_cons_zero, List.getElem_cons_succ, List.setIfInBounds_toArray, List.set_cons_zero, List.set_cons_succ]
                refine wpAnyH_take (i := 18) (v := ?_) rfl (by kernel_rfl) (by kernel_rfl) (by kernel_rfl) (fun _ _ _ h => h) (Or.inl ⟨by rfl, ?_⟩) (by assumption) ?_
                rotate_left
                · (intro w hSw; (try dsimp only at hSw); go_simp; try with_reducible rfl)
                try simp only [Act.put, List.getElem_toArray, List.getElem_cons_zero, List.getElem_cons_succ, List.setIfInBounds_toArray, List.set_cons_zero, List.set_cons_succ]
                refine wpAnyH_take (i := 19) (v := ?_) rfl (by kernel_rfl) (by kernel_rfl) (by kernel_rfl) (fun _ _ _ h => h) (Or.inl ⟨by rfl, ?_⟩) (by assumption) ?_
                rotate_left
                · (intro w hSw; (try dsimp only at hSw); go_simp; try with_reducible rfl)
                try simp only [Act.put, List.getElem_toArray, List.getElem_cons_zero, List.getElem_cons_succ, List.setIfInBounds_toArray, List.set_cons_zero, List.set_cons_succ]
                refine wpAnyH_take (i := 20) (v := ?_) rfl (by kernel_rfl) (by kernel_rfl) (by kernel_rfl) (fun _ _ _ h => h) (Or.inl ⟨by rfl, ?_⟩) (by assumption) ?_
                rotate_left
                · (intro w hSw; (try dsimp only at hSw); go_simp; try with_reducible rfl)
                try simp only [Act.put, List.getElem_toArray, List.getElem_cons_zero, List.getElem_cons_succ, List.setIfInBounds_toArray, List.set_cons_zero, List.set_cons_succ]
                refine wpAnyH_take (i := 22) (v := ?_) rfl (by kernel_rfl) (by kernel_rfl) (by kernel_rfl) (fun _ _ _ h => h) (Or.inl ⟨by rfl, ?_⟩) (by assumption) ?_
                rotate_left
                · (intro w hSw; (try dsimp only at hSw); go_simp; try with_reducible rfl)
                try simp only [Act.put, List.getElem_toArray, List.getElem_cons_zero, List.getElem_cons_succ, List.setIfInBounds_toArray, List.set_cons_zero, List.set_cons_succ]
                refine wpAnyH_take (i := 23) (v := ?_) rfl (by kernel_rfl) (by kernel_rfl) (by kernel_rfl) (fun _ _ _ h => h) (Or.inl ⟨by rfl, ?_⟩) (by assumption) ?_
                rotate_left
                · (intro w hSw; (try dsimp only at hSw); go_simp; try with_reducible rfl)
                try simp only [Act.put, List.getElem_toArray, List.getElem_cons_zero, List.getElem_cons_succ, List.setIfInBounds_toArray, List.set_cons_zero, List.set_cons_succ]
                refine wpAnyH_ready (rs := [29]) (by kernel_rfl) (by simp) ?_
                refine AllReadyH.cons rfl (fun K hK => ?_) AllReadyH.nil
                go_simp
                go_wp2_with (go_at_call 13; refine (quoted_any _ _ (by assumption)).mono ?_; rintro e w9 ⟨rfl, hw9⟩; have hw8 := hw9.symm; subst hw8; clear hw9)
                refine hK.out _ _ ⟨q0, q1, q2, q3, qw⟩ (fun hHeld => ?_)
                clear hK K
                refine wpAnyH_take (i := 30) (v := ?_) rfl (by kernel_rfl) (by kernel_rfl) (by kernel_rfl) (fun _ _ _ h => h) (Or.inl ⟨by rfl, ?_⟩) (by assumption) ?_
                rotate_left
                · (intro w hSw; (try dsimp only at hSw); go_simp; try with_reducible rfl)
                try simp only [Act.put, List.getElem_toArray, List.getElem_cons_zero, List.getElem_cons_succ, List.setIfInBounds_toArray, List.set_cons_zero, List.set_cons_succ]
                refine wpAnyH_take (i := 31) (v := ?_) rfl (by kernel_rfl) (by kernel_rfl) (by kernel_rfl) (fun _ _ _ h => h) (Or.inl ⟨by rfl, ?_⟩) (by assumption) ?_
                rotate_left
                · (intro w hSw; (try dsimp only at hSw); go_simp; try with_reducible rfl)
                try simp only [Act.put, List.getElem_toArray, List.getElem_cons_zero, List.getElem_cons_succ, List.setIfInBounds_toArray, List.set_cons_zero, List.set_cons_succ]
                refine wpAnyH_ready (rs := [37]) (by kernel_rfl) (by simp) ?_
                refine AllReadyH.cons rfl (fun K hK => ?_) AllReadyH.nil
                go_simp
                go_wp2_with (go_at_call 15; refine (hD _ HW3).mono ?_; rintro e w4 ⟨rfl, HW4, r0, r1, r2, r3, hcd⟩)
                refine hK.out _ _ ⟨r0, r1, r2, r3, (hcd g i hg).trans qw⟩ (fun hHeld => ?_)
                clear hK K
                refine wpAnyH_take (i := 38) (v := ?_) rfl (by kernel_rfl) (by kernel_rfl) (by kernel_rfl) (fun _ _ _ h => h) (Or.inl ⟨by rfl, ?_⟩) (by assumption) ?_
                rotate_left
                · (intro w hSw; (try dsimp only at hSw); go_simp; try with_reducible rfl)
                try simp only [Act.put, List.getElem_toArray, List.getElem_cons_zero, List.getElem_cons_succ, List.setIfInBounds_toArray, List.set_cons_zero, List.set_cons_succ]
                refine wpAnyH_take (i := 39) (v := ?_) rfl (by kernel_rfl) (by kernel_rfl) (by kernel_rfl) (fun _ _ _ h => h) (Or.inl ⟨by rfl, ?_⟩) (by assumption) ?_
                rotate_left
                · (intro w hSw; (try dsimp only at hSw); go_simp; try with_reducible rfl)
                try simp only [Act.put, List.getElem_toArray, List.getElem_cons_zero, List.getElem_cons_succ, List.setIfInBounds_toArray, List.set_cons_zero, List.set_cons_succ]
                refine wpAnyH_take (i := 40) (v := ?_) rfl (by kernel_rfl) (by kernel_rfl) (by kernel_rfl) (fun _ _ _ h => h) (Or.inl ⟨by rfl, ?_⟩) (by assumption) ?_
                rotate_left
                · (intro w hSw; (try dsimp only at hSw); go_simp; try with_reducible rfl)
                try simp only [Act.put, List.getElem_toArray, List.getElem_cons_zero, List.getElem_cons_succ, List.setIfInBounds_toArray, List.set_cons_zero, List.set_cons_succ]
                refine wpAnyH_done (by kernel_rfl) ?_ _
                go_wp2
                go_roundw
                case rel => exact ⟨k + 1, A11, by omega, by go_num, rfl, HF, HA2, HW4⟩
                case measure => simp [intOf]; omega
      · have HE : Hid (expB (evs l) = (91 :: jn ((told l).take k) ++ [93], 0)) := by
          show _ = _
          rw [List.take_of_length_le (by rw [told_len]; omega)]
          refine expB_told (by omega) ?_
          intro x hx
          refine HA.out x ?_
          rwa [List.take_of_length_le (by simp [evs]; omega)]
        have hlo : out.size ≤ 300000 := by
          have h1 := told_cut (l := l) (fun x hx => HA.out x (by rwa [List.take_of_length_le (by simp [evs]; omega)])) (by omega) k
          have h2 := congrArg List.length HO.out
          simp only [List.length_cons] at h1 h2
          simp at h2
          omega
        go_wp2
        go_ret2
        refine ⟨?_, HW.out⟩
        rw [HE.out]
        refine congrArg (fun s => Ending.returned (.tuple #[.string s, .int .i64 0])) (bytes_inj ?_)
        simp [HO.out]
end Go.Proofs.YtdjllnhahhjgmaaDoor
