/- Walk of chronicleref.Decode: other versions than the first. -/
import Derived.Test.YtdjllnhahhjgmaaF3
namespace Go.Proofs.Ytdjllnhahhjgmaa
open Go.RowKit Chron
theorem Gs.below {N : Nat} {w wx wy : World} {e : Ev} {x : Value} (h : Gs N w wx e x) (hb : Below wx.heap.size wx wy) : Gs N w wy e x := by
  have hbig := h.big
  exact ⟨(hb.block _ (by omega)).trans h.res, (hb.block _ (by omega)).trans h.box, own_below h.own hb, h.bel.trans (hb.mono (by omega))⟩
theorem Gs.whole {N : Nat} {w wx wy : World} {e0 e : Ev} {x0 x y0 y1 y2 y3 y4 : Value} (h : Gs N w wx e0 x0) (hb : Below wx.heap.size wx wy) (hown : wy.ownsRow wx.heap.size 9 1 x e.tags.length (e.tags.map Value.string))
    (he : #[y0, y1, y2, y3, y4] = #[.int .i64 e.kind, .string e.task, .int .i64 e.time, .string e.body, x]) :
    Gs N w (((((wy.setCell ⟨N + 1, 0, none⟩ y0).setCell ⟨N + 1, 1, none⟩ y1).setCell ⟨N + 1, 2, none⟩ y2).setCell ⟨N + 1, 3, none⟩ y3).setCell ⟨N + 1, 4, none⟩ y4) e x := by
  have h1 := h.below hb
  have hbig := h.big
  simp only [Array.mk.injEq, List.cons.injEq, and_true] at he
  obtain ⟨rfl, rfl, rfl, rfl, rfl⟩ := he
  refine ⟨?_, loan_set (loan_set (loan_set (loan_set (loan_set h1.box)))), own_set5 hown (by omega) hbig, below_set5 h1.bel (by omega)⟩
  rw [Below.heap_setCell _ _ _ _ (by show N ≠ N + 1; omega), Below.heap_setCell _ _ _ _ (by show N ≠ N + 1; omega), Below.heap_setCell _ _ _ _ (by show N ≠ N + 1; omega), Below.heap_setCell _ _ _ _ (by show N ≠ N + 1; omega), Below.heap_setCell _ _ _ _ (by show N ≠ N + 1; omega)]
  exact h1.res
theorem tags_at {w : World} {base : Nat} {a : Option Addr} {c : Nat} {l : List ByteArray} (h : w.ownsRow base 9 1 (.slice a l.length c) l.length (l.map Value.string)) : TagsAt w a l := by
  obtain ⟨a', c', he, ht⟩ := own_tags h
  simp only [Value.slice.injEq, true_and] at he
  obtain ⟨rfl, rfl⟩ := he
  exact ht
theorem gs_short {n : Nat} {l : List ByteArray} (h : ∀ t ∈ l, t.size ≤ n) (hn : n ≤ maxLen) : Short l := by
  intro i hi
  rw [List.getElem?_eq_getElem hi]
  exact Nat.le_trans (h _ (List.getElem_mem hi)) hn
theorem guessF_size : ∀ (f : Nat) (e : Ev) (s : List UInt8) (n : Nat), s.length ≤ n → e.task.size ≤ n → e.body.size ≤ n → (∀ t ∈ e.tags, t.size ≤ n) → (guessF f e s).task.size ≤ n ∧ (guessF f e s).body.size ≤ n ∧ (∀ t ∈ (guessF f e s).tags, t.size ≤ n) ∧ (guessF f e s).tags.length ≤ e.tags.length + f
  | 0, e, s, n, _, h1, h2, h3 => ⟨h1, h2, h3, Nat.le_refl _⟩
  | f + 1, e, [], n, _, h1, h2, h3 => ⟨h1, h2, h3, Nat.le_add_right _ _⟩
  | f + 1, e, c :: r, n, hn, h1, h2, h3 => by
    have htl : (tAt r).1.length ≤ r.length := by
      unfold tAt; rcases hr : readTx r with _ | ⟨t, q⟩
      · simp
      · have := readTx_len hr; simp only; omega
    simp only [List.length_cons] at hn
    have hg : (gstep e c r).1.task.size ≤ n ∧ (gstep e c r).1.body.size ≤ n ∧ (∀ t ∈ (gstep e c r).1.tags, t.size ≤ n) := by
      unfold gstep
      split
      · exact ⟨h1, h2, h3⟩
      · split
        · exact ⟨h1, h2, h3⟩
        · split
          · exact ⟨by show (tAt r).1.length ≤ n; omega, h2, h3⟩
          · split
            · exact ⟨h1, by show (tAt r).1.length ≤ n; omega, h3⟩
            · split
              · refine ⟨h1, h2, fun t ht => ?_⟩
                rcases List.mem_append.1 ht with ht | ht
                · exact h3 t ht
                · simp at ht; subst ht; show (tAt r).1.length ≤ n; omega
              · exact ⟨h1, h2, h3⟩
    have ht := (gstep_tags e c r).1
    rw [guessF]
    rcases hq : gstep e c r with ⟨e', _ | q⟩
    · rw [hq] at hg ht
      exact ⟨hg.1, hg.2.1, hg.2.2, by simp only at ht ⊢; omega⟩
    · have hl := gstep_len (e := e) (c := c) (r := r) (q := q) (by rw [hq])
      rw [hq] at hg ht
      have ih := guessF_size f e' q n (by omega) hg.1 hg.2.1 hg.2.2
      exact ⟨ih.1, ih.2.1, ih.2.2.1, by simp only at ht ⊢; omega⟩
theorem guessB_size (v : Int) (s : List UInt8) : (guessB v s).task.size ≤ s.length ∧ (guessB v s).body.size ≤ s.length ∧ (∀ t ∈ (guessB v s).tags, t.size ≤ s.length) ∧ (guessB v s).tags.length ≤ s.length := by
  have h := guessF_size s.length zeroEv s s.length (Nat.le_refl _) (Nat.zero_le _) (Nat.zero_le _) (by simp [zeroEv])
  have h0 : zeroEv.tags.length = 0 := rfl
  rw [h0, Nat.zero_add] at h
  unfold guessB bump
  split <;> exact h
set_option maxRecDepth 100000 in
set_option maxHeartbeats 1000000 in
theorem decodeRef_fields (v : Int) (s : ByteArray) (w : World) (hs : s.size ≤ 4398046511104) (hv : v = 2 ∨ v = 3) :
    Calls Try.prog 15 #[.int .i64 v, .string s] w fun e w' =>
      ∃ x, e = .returned (.tuple #[evVal (decB v s.data.toList).1 x, .int .i64 (decB v s.data.toList).2]) ∧ w'.ownsRow w.heap.size 9 1 x (decB v s.data.toList).1.tags.length ((decB v s.data.toList).1.tags.map Value.string) ∧ Below w.heap.size w w' := by
  have HS0 := hide0 (Gs.start w)
  have hbig := (Gs.start w).big
  obtain ⟨g1, g2, g3, g4⟩ := guessB_size v s.data.toList
  have hsl : s.data.toList.length = s.size := rfl
  rw [hsl] at g1 g2 g3 g4
  have HD := hide0 (refF_dec hv s.data.toList)
  have hG := guess_any v s ((w.alloc (.cells #[.int .i64 0, .string ⟨#[]⟩, .int .i64 0, .string ⟨#[]⟩, .slice none 0 0] 24)).alloc (.cells #[.int .i64 0, .string ⟨#[]⟩, .int .i64 0, .string ⟨#[]⟩, .slice none 0 0] 24)) hs
  rw [refF] at HD
  generalize guessB v s.data.toList = E at hG g1 g2 g3 g4 HD
  obtain ⟨k, t, m, b, ts⟩ := E
  simp only at g1 g2 g3 g4
  have HSH := hide0 (gs_short g3 (show s.size ≤ maxLen by unfold maxLen; omega))
  have hv1 : ¬ v < 1 := by omega
  have hv3 : ¬ 3 < v := by omega
  have hvb : (v == 1) = false := by simp; omega
  have htm : t.size ≤ maxLen := by unfold maxLen; omega
  have hbm : b.size ≤ maxLen := by unfold maxLen; omega
  have hlm : ts.length ≤ maxLen := by unfold maxLen; omega
  clear g3 hv hbig
  go_enter Try.func15, Try.ntmps15
  go_wp2_with fail
  refine hG.mono ?_
  rintro e w1 ⟨x, rfl, ho1, hb1⟩
  have HB1 := hide0 (HS0.out.below hb1)
  have HWH := fun y0 y1 y2 y3 y4 he => hide0 (HS0.out.whole (e := ⟨k, t, m, b, ts⟩) (x := x) (y0 := y0) (y1 := y1) (y2 := y2) (y3 := y3) (y4 := y4) hb1 ho1 he)
  have HW1 := HWH _ _ _ _ _ rfl
  obtain ⟨xa, xc, rfl, hta⟩ := own_tags ho1
  clear HWH ho1 hb1 hta hG
  obtain ⟨b0, b1, b2, b3, b4, bf⟩ := res_cells HB1.out.box
  simp only [evVal] at *
  go_wp2_with fail
  obtain ⟨R, hR⟩ : ∃ R, encB v ⟨k, t, m, b, ts⟩ = R := ⟨_, rfl⟩
  rw [hR] at HD
  have HR := hide0 hR
  have HDG : Hid (R.2 = 0 → R.1 = s.data.toList → decB v s.data.toList = (⟨k, t, m, b, ts⟩, 0)) := fun h1 h2 => by rw [← HD.out, if_neg]; intro h; exact h.elim (fun h => h h1) (fun h => h h2)
  have HDB : Hid ((R.2 ≠ 0 ∨ R.1 ≠ s.data.toList) → decB v s.data.toList = (zeroEv, 3)) := fun h => by rw [← HD.out, if_pos h]
  clear HD hR HB1 b0 b1 b2 b3 b4 bf
  have hc8 := encodeRef_any v k t m b xa xc ts _ (tags_at HW1.out.own) HSH hlm htm hbm
  rw [HR.out] at hc8
  refine hc8.mono ?_
  clear hc8
  rintro e w8 ⟨rfl, hb8⟩
  have H8 := hide0 (HW1.out.below hb8)
  clear hb8 HW1
  obtain ⟨b0, b1, b2, b3, b4, bf⟩ := res_cells H8.out.box
  obtain ⟨r0, r1, r2, r3, r4, rf⟩ := res_cells H8.out.res
  have n1 : ¬ w.heap.size = w.heap.size + 1 := by omega
  have n2 : ¬ w.heap.size + 1 = w.heap.size := by omega
  by_cases hf : R.2 = 0
  · have hfb : (R.2 != 0) = false := by simp [hf]
    by_cases he : R.1 = s.data.toList
    · have hsb : (R.1 == s.toList) = true := by rw [ByteArray.toList_eq, he]; simp
      have HD' := hide0 (HDG.out hf he)
      clear hf he HDG HDB HR
      go_wp2
      refine bodyPost_ret (v := .tuple #[evVal ⟨k, t, m, b, ts⟩ (.slice xa ts.length xc), .int .i64 0]) (by simp [results, Try.results15, go_sem, evVal, r0, r1, r2, r3, r4]) rfl ⟨.slice xa ts.length xc, ?_, ?_, ?_⟩
      · rw [HD'.out]
      · rw [HD'.out]; exact own_set5 H8.out.own (by omega) (by omega)
      · exact below_set5 H8.out.bel (Nat.le_refl _)
    · have hsb : (R.1 == s.toList) = false := by rw [ByteArray.toList_eq]; simpa using he
      have HD' := hide0 (HDB.out (.inr he))
      clear hf he HDG HDB HR
      go_wp2
      refine bodyPost_ret (v := .tuple #[evVal zeroEv (.slice none 0 0), .int .i64 3]) (by simp [results, Try.results15, go_sem, evVal, zeroEv, r0, r1, r2, r3, r4]) rfl ⟨.slice none 0 0, ?_, ?_, ?_⟩
      · rw [HD'.out]
      · rw [HD'.out]; exact World.ownsRow_nil _ _ _ _
      · exact below_set5 H8.out.bel (Nat.le_refl _)
  · have hfb : (R.2 != 0) = true := by simp [hf]
    have HD' := hide0 (HDB.out (.inl hf))
    clear hf HDG HDB HR
    go_wp2
    refine bodyPost_ret (v := .tuple #[evVal zeroEv (.slice none 0 0), .int .i64 3]) (by simp [results, Try.results15, go_sem, evVal, zeroEv, r0, r1, r2, r3, r4]) rfl ⟨.slice none 0 0, ?_, ?_, ?_⟩
    · rw [HD'.out]
    · rw [HD'.out]; exact World.ownsRow_nil _ _ _ _
    · exact below_set5 H8.out.bel (Nat.le_refl _)
end Go.Proofs.Ytdjllnhahhjgmaa
