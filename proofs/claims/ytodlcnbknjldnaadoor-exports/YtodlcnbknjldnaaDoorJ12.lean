/- Walk of chroniclelaw's loan.all. -/
import Derived.Test.YtodlcnbknjldnaaDoorJ11
namespace Go.Proofs.YtodlcnbknjldnaaDoor
open Go.RowKit Chron
theorem infoEvent : (Tryd.prog.info? 39).map (fun i => (i.zero, i.size, i.bytes)) = some (some (.agg #[.int .i64 0, .string ⟨#[]⟩, .int .i64 0, .string ⟨#[]⟩, .slice none 0 0]), 5, 72) := by kernel_rfl
theorem own_five {w : World} {base : Nat} {g n : Nat} {xs : List Value} (h : w.ownsRow base 39 5 (.slice (some ⟨g, 0, none⟩) n n) n xs) : EvRow w g n [] := by
  rcases h.2 with ⟨h0, _⟩ | ⟨g', cap, cur, hv, hb, hg, h1, h2, h3, h4⟩
  · cases h0
  · simp only [Value.slice.injEq, Option.some.injEq, Addr.mk.injEq] at hv
    obtain ⟨⟨rfl, _⟩, _, rfl⟩ := hv
    exact ⟨cur, hg, h3, fun k i hk => by simp at hk⟩
theorem all_start {b G : Nat} {a : Option Addr} {cap : Nat} {l : List Item} {w0 w w1 : World} (_hw0 : w0.heap.size ≤ b) (HB0 : Below b w0 w) (HL : LoanAt b (.slice none 0 0) (.slice none 0 0) (.slice none 0 0) (.int .i64 0) (.slice none 0 0) 0 [] 0 [] w)
    (hG : ((w.setCell ⟨b, 4, none⟩ (.slice a l.length cap)).setCell ⟨b, 3, none⟩ (.int .i64 l.length)).heap.size = G)
    (hown : w1.ownsRow (b + 1) 39 5 (.slice (some ⟨G, 0, none⟩) (l.length + 8) (l.length + 8)) (l.length + 8) (madeCells (Value.agg #[.int .i64 0, .string ⟨#[]⟩, .int .i64 0, .string ⟨#[]⟩, .slice none 0 0]).cells ((l.length + 8) * 5)).toList)
    (hgr : ((w.setCell ⟨b, 4, none⟩ (.slice a l.length cap)).setCell ⟨b, 3, none⟩ (.int .i64 l.length)).grownBy w1 none) :
    w1.heap[b]? = some (.cells #[.slice none 0 0, .slice none 0 0, .slice none 0 0, .int .i64 l.length, .slice a l.length cap] 30) ∧
    AllAt b G l.length a cap l w0 (w1.setCell ⟨b, 2, none⟩ (.slice (some ⟨G, 0, none⟩) (l.length + 8) (l.length + 8))) (.slice none 0 0) (.slice none 0 0) [] [] := by
  have hblt := HL.lt
  rw [size_set, size_set] at hG
  have h1 := loan_set (i := 4) (u := .slice a l.length cap) HL.blk
  have h2 := loan_set (i := 3) (u := .int .i64 l.length) h1
  have h3 : w1.heap[b]? = some (.cells #[.slice none 0 0, .slice none 0 0, .slice none 0 0, .int .i64 l.length, .slice a l.length cap] 30) := by
    rw [hgr.block b (by rw [size_set, size_set]; exact hblt) (by simp)]; exact h2
  have hbel : Below b w0 w1 := Below.grown ((HB0.setCell (p := ⟨b, 4, none⟩) (Nat.le_refl _) _).setCell (p := ⟨b, 3, none⟩) (Nat.le_refl _) _) hgr (by rw [size_set, size_set]; omega) (fun q hq => by cases hq)
  refine ⟨h3, ⟨loan_set h3, World.ownsRow_nil _ _ _ _, World.ownsRow_nil _ _ _ _, fun q hq => by cases hq⟩, hbel.setCell (p := ⟨b, 2, none⟩) (Nat.le_refl _) _, (own_five hown).same (Below.heap_setCell _ _ _ _ (by show G ≠ b; omega)), fun k M c hk => by simp at hk, fun k h1 h2 => by simp at h2, by omega, by simp [Value.ownBlock], by simp [Value.ownBlock]⟩
set_option maxRecDepth 100000 in
set_option maxHeartbeats 2000000 in
theorem all_any (b : Nat) (a : Option Addr) (cap : Nat) (l : List Item) (w0 w : World) (hw0 : w0.heap.size ≤ b) (HB0 : Hid (Below b w0 w))
    (HL : Hid (LoanAt b (.slice none 0 0) (.slice none 0 0) (.slice none 0 0) (.int .i64 0) (.slice none 0 0) 0 [] 0 [] w)) (hl : Hid (EvsAt w0 a l)) (hn : l.length * 72 ≤ 140737488351232) :
    Calls Tryd.prog 5 #[.pointer (some ⟨b, 0, none⟩), .slice a l.length cap] w fun e w' =>
      ∃ G tv cv ls its, e = .returned (.slice (some ⟨G, 0, none⟩) l.length (l.length + 8)) ∧ its.length = l.length + 8 ∧ ls.length = l.length ∧ AllAt b G l.length a cap l w0 w' tv cv ls its := by
  obtain ⟨i0, hi, hz0, hz1, hz2⟩ := info_parts infoEvent
  have hb2 : i0.bytes * (l.length + 8) ≤ 281474976710656 := by rw [hz2]; omega
  have hb3 : l.length + 8 ≤ maxLen := by unfold maxLen; omega
  have hblt := HL.out.lt
  obtain ⟨d0, d1, d2, d3, d4, df⟩ := res_cells HL.out.blk
  go_enter Tryd.func5, Tryd.ntmps5
  go_wp2_with (first
    | (at_make; go_must (refine wpList_make_full _ rfl _ _ 22 rfl (b + 1) 39 i0 (.agg #[.int .i64 0, .string ⟨#[]⟩, .int .i64 0, .string ⟨#[]⟩, .slice none 0 0]) 5 Tryd.underlying22 hi hz0 hz1 .i64 .i64 _ _ (l.length + 8) rfl rfl (by simp) (by simp) hb2 hb3 (by rw [size_set, size_set]; exact hblt) ?_); intro w1 hown1 hgr1
       obtain ⟨G, hG⟩ : ∃ G, ((w.setCell ⟨b, 4, none⟩ (.slice a l.length cap)).setCell ⟨b, 3, none⟩ (.int .i64 l.length)).heap.size = G := ⟨_, rfl⟩
       rw [hG] at hown1
       try rw [hG]
       obtain ⟨hbx, hal⟩ := all_start hw0 HB0.out HL.out hG hown1 hgr1
       obtain ⟨e0, e1, e2, e3, e4, ef⟩ := res_cells hbx
       have HAL := hide0 hal
       clear hown1 hgr1 hbx hal d0 d1 d2 d3 d4 df hG))
  go_loopw [5] (fun i wx => ∃ (k : Nat) (tv cv : Value) (ls : List (Nat × Nat)) (its : List Item), k ≤ l.length + 8 ∧ i = .int .i64 k ∧ its.length = k ∧ ls.length = min k l.length ∧ Hid (AllAt b G l.length a cap l w0 wx tv cv ls its)) (fun i _ => l.length + 8 - (intOf i).toNat)
  case atStart => exact ⟨0, _, _, [], [], by omega, rfl, rfl, by simp, HAL⟩
  case round =>
    obtain ⟨k, tv, cv, ls, its, hk, rfl, hki, hls, HA⟩ := hrel
    obtain ⟨f0, f1, f2, f3, f4, ff⟩ := res_cells HA.out.loan.blk
    by_cases hlt : k < l.length + 8
    · have hkI : (k : Int) < (l.length : Int) + 8 := by omega
      have hgb : G ≠ b := by have := HA.out.gb; omega
      have hBE : Calls Tryd.prog 10 #[.int .i64 0] wr.drew fun e X => e = .returned (.agg #[.int .i64 (-1000), .string ⟨#[]⟩, .int .i64 0, .string badB, .slice none 0 0]) ∧ Hid (AllAt b G l.length a cap l w0 X tv cv ls its) := by
        refine (badEvent_zero wr.drew).mono ?_
        rintro e X ⟨rfl, hb⟩
        exact ⟨rfl, HA.out.below ((Below.refl _ _).drew.trans hb)⟩
      go_wp2_with fail
      go_region_held (fun X => X.cell? ⟨b, 2, none⟩ = some (.slice (some ⟨G, 0, none⟩) (l.length + 8) (l.length + 8))) (go_keep)
        (first
          | (go_at_call 10; refine hBE.mono ?_; rintro e w2 ⟨rfl, HA1⟩
             have g2 := (res_cells HA1.out.loan.blk).2.2.1
             obtain ⟨y0, t0, z0⟩ := HA1.out.row.there (p := k * 5) (by omega)
             obtain ⟨y1, t1, z1⟩ := HA1.out.row.there (p := k * 5 + 1) (by omega)
             obtain ⟨y2, t2, z2⟩ := HA1.out.row.there (p := k * 5 + 2) (by omega)
             obtain ⟨y3, t3, z3⟩ := HA1.out.row.there (p := k * 5 + 3) (by omega)
             obtain ⟨y4, t4, z4⟩ := HA1.out.row.there (p := k * 5 + 4) (by omega)))
      have HA2' : Hid (AllAt b G l.length a cap l w0 (((((w2.setCell ⟨G, k * 5, none⟩ (.int .i64 (-1000))).setCell ⟨G, k * 5 + 1, none⟩ (.string ⟨#[]⟩)).setCell ⟨G, k * 5 + 2, none⟩ (.int .i64 0)).setCell ⟨G, k * 5 + 3, none⟩ (.string badB)).setCell ⟨G, k * 5 + 4, none⟩ (.slice none 0 0)) tv cv ls (its.take k ++ [badI])) := HA1.out.store (p := k) hlt (by omega) (by omega) badI (fun _ => rfl)
      generalize (((((w2.setCell ⟨G, k * 5, none⟩ (.int .i64 (-1000))).setCell ⟨G, k * 5 + 1, none⟩ (.string ⟨#[]⟩)).setCell ⟨G, k * 5 + 2, none⟩ (.int .i64 0)).setCell ⟨G, k * 5 + 3, none⟩ (.string badB)).setCell ⟨G, k * 5 + 4, none⟩ (.slice none 0 0)) = X at HA2' ⊢
      have HA2 := HA2'
      clear HA2' hBE HA1 t0 t1 t2 t3 t4 z0 z1 z2 z3 z4 g2 f0 f1 f2 f3 f4 ff HA
      have hl2 : (its.take k ++ [badI]).length = k + 1 := by rw [List.length_append, List.length_take]; simp; omega
      by_cases hkn : k < l.length
      · have hknI : (k : Int) < (l.length : Int) := by omega
        have hlsk : ls.length = k := by omega
        obtain ⟨b1, o1, rfl, hc1⟩ := hl.out (by omega)
        obtain ⟨⟨⟨kd, tk, tm, bd, ts⟩, ta, tc⟩, hx⟩ : ∃ x, l[k]? = some x := ⟨_, List.getElem?_eq_getElem hkn⟩
        have HC0 := hide0 (hc1 k _ hx)
        have HX := hide0 hx
        clear hc1 hx
        obtain ⟨c0, c1, c2, c3, c4⟩ := HC0.out.1.below HA2.out.bel hw0
        simp only at c0 c1 c2 c3 c4
        have HA2d : Hid (AllAt b G l.length (some ⟨b1, o1, none⟩) cap l w0 X.drew tv cv ls ((its.take k ++ [badI]).take k)) := (HA2.out.below (Below.refl _ _).drew).cut (by omega) (by omega)
        have hlen3 : ((its.take k ++ [badI]).take k).length = ls.length := by rw [List.length_take]; omega
        have hONE : Calls Tryd.prog 11 #[.pointer (some ⟨b, 0, none⟩), .agg #[.int .i64 kd, .string tk, .int .i64 tm, .string bd, .slice ta ts.length tc]] X.drew fun e Y =>
            ∃ M tv' cv', e = .returned (.agg #[.int .i64 kd, .string tk, .int .i64 tm, .string bd, .slice (some ⟨M, 0, none⟩) ts.length (ts.length + 8)]) ∧ Y.cell? ⟨b, 2, none⟩ = some (.slice (some ⟨G, 0, none⟩) (l.length + 8) (l.length + 8)) ∧ CellsAt Y b1 (o1 + k * 5) ⟨⟨kd, tk, tm, bd, ts⟩, ta, tc⟩ ∧ Hid (EvRow Y G (l.length + 8) ((its.take k ++ [badI]).take k)) ∧
              Hid (AllAt b G l.length (some ⟨b1, o1, none⟩) cap l w0 (((((Y.setCell ⟨G, k * 5, none⟩ (.int .i64 kd)).setCell ⟨G, k * 5 + 1, none⟩ (.string tk)).setCell ⟨G, k * 5 + 2, none⟩ (.int .i64 tm)).setCell ⟨G, k * 5 + 3, none⟩ (.string bd)).setCell ⟨G, k * 5 + 4, none⟩ (.slice (some ⟨M, 0, none⟩) ts.length (ts.length + 8))) tv' cv' (ls ++ [(M, ts.length)]) ((its.take k ++ [badI]).take k ++ [⟨⟨kd, tk, tm, bd, ts⟩, some ⟨M, 0, none⟩, ts.length + 8⟩])) := by
          refine (one_any b tv cv _ _ _ ls.length (lentV ls) (lentN ls) kd tk tm bd ta tc ts X.drew HA2d.out.loan (HC0.out.2.tags.below HA2d.out.bel hw0) HC0.out.2.few (by omega)).mono ?_
          rintro e Y ⟨M, tv', cv', rfl, hM, hrow, hloan, htv, hcv, hfar⟩
          obtain ⟨hR, hF⟩ := HA2d.out.one (e := ⟨⟨kd, tk, tm, bd, ts⟩, ta, tc⟩) (by rw [hlsk]; exact HX.out) hM hrow hloan htv hcv hfar hlen3 (by omega)
          rw [hlsk] at hF
          have hbelY : Below b w0 Y := by
            have hb2 := HA2d.out.loan.lt
            refine HA2d.out.bel.trans (hfar.below (by omega) (fun q hq => ?_))
            simp only [List.mem_cons, List.mem_nil_iff, or_false, Option.some.injEq] at hq
            rcases hq with hq | hq | hq
            · omega
            · have := (HA2d.out.loan.tags.lt q hq.symm).1; omega
            · have := (HA2d.out.loan.counts.lt q hq.symm).1; omega
          exact ⟨M, tv', cv', rfl, (res_cells hloan.blk).2.2.1, HC0.out.1.below hbelY hw0, hR, hF⟩
        obtain ⟨f0, f1, f2, f3, f4, ff⟩ := res_cells HA2.out.loan.blk
        have hg1 : G ≠ b1 := by
          have h1 : b1 < w0.heap.size := World.block_lt_of_cell? w0 _ HC0.out.1.c0
          have h2 := HA2.out.gb
          omega
        clear HA2d
        go_wp2_with fail
        go_region_held (fun Z => Z.cell? ⟨b, 2, none⟩ = some (.slice (some ⟨G, 0, none⟩) (l.length + 8) (l.length + 8)) ∧ Z.cell? ⟨b1, o1 + k * 5, none⟩ = some (.int .i64 kd) ∧ Z.cell? ⟨b1, o1 + k * 5 + 1, none⟩ = some (.string tk) ∧ Z.cell? ⟨b1, o1 + k * 5 + 2, none⟩ = some (.int .i64 tm) ∧ Z.cell? ⟨b1, o1 + k * 5 + 3, none⟩ = some (.string bd) ∧ Z.cell? ⟨b1, o1 + k * 5 + 4, none⟩ = some (.slice ta ts.length tc)) (go_keep)
          (first
            | (go_at_call 11; refine hONE.mono ?_; rintro e w4 ⟨M, tv', cv', rfl, g2, ⟨p0, p1, p2, p3, p4⟩, HR, HF⟩
               simp only at p0 p1 p2 p3 p4
               obtain ⟨y0, t0, z0⟩ := HR.out.there (p := k * 5) (by omega)
               obtain ⟨y1, t1, z1⟩ := HR.out.there (p := k * 5 + 1) (by omega)
               obtain ⟨y2, t2, z2⟩ := HR.out.there (p := k * 5 + 2) (by omega)
               obtain ⟨y3, t3, z3⟩ := HR.out.there (p := k * 5 + 3) (by omega)
               obtain ⟨y4, t4, z4⟩ := HR.out.there (p := k * 5 + 4) (by omega)))
        all_goals
          go_wp2
          go_roundw
          case rel => exact ⟨k + 1, tv', cv', ls ++ [(M, ts.length)], _, by omega, by go_num, by rw [List.length_append, hlen3]; simp; omega, by rw [List.length_append]; simp; omega, HF⟩
          case measure => simp [intOf]; omega
      · have hknI : (l.length : Int) ≤ (k : Int) := by omega
        go_wp2
        go_roundw
        case rel => exact ⟨k + 1, tv, cv, ls, _, by omega, by go_num, hl2, by omega, HA2⟩
        case measure => simp [intOf]; omega
    · have hkI : (l.length : Int) + 8 ≤ (k : Int) := by omega
      go_wp2
      go_ret
      exact ⟨G, tv, cv, ls, its, rfl, by omega, by omega, HA.out⟩
end Go.Proofs.YtodlcnbknjldnaaDoor
