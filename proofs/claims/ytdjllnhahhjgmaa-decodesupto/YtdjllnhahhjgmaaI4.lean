/- Walk of Book.keepTags. -/
import Derived.Test.YtdjllnhahhjgmaaI3
import Derived.Test.YtdjllnhahhjgmaaD5
namespace Go.Proofs.Ytdjllnhahhjgmaa
open Go.RowKit Chron
theorem book_cells {w : World} {b : Nat} {x0 x1 : Value} {t : TypeId} (h : w.heap[b]? = some (.cells #[x0, x1] t)) : w.cell? ⟨b, 0, none⟩ = some x0 ∧ w.cell? ⟨b, 1, none⟩ = some x1 ∧ ∀ o, w.frozen? ⟨b, o, none⟩ = false := by
  refine ⟨by simp [World.cell?, h], by simp [World.cell?, h], fun o => by simp [World.frozen?, h]⟩
def mixed (ts : List ByteArray) (m : ByteArray) (i : Nat) : List Value := List.replicate i (.string m) ++ (ts.drop i).map Value.string
theorem mixed_zero (ts : List ByteArray) (m : ByteArray) : mixed ts m 0 = ts.map Value.string := by simp [mixed]
theorem mixed_set (ts : List ByteArray) (m : ByteArray) (i : Nat) (h : i < ts.length) : (mixed ts m i).set i (.string m) = mixed ts m (i + 1) := by
  rw [mixed, mixed, List.set_append_right _ _ (by simp), List.drop_eq_getElem_cons h, List.replicate_succ', List.length_replicate, Nat.sub_self, List.map_cons, List.set_cons_zero, List.append_assoc]
  rfl
theorem mixed_end (ts : List ByteArray) (m : ByteArray) (i : Nat) (h : i = ts.length) : mixed ts m i = List.replicate ts.length (.string m) := by
  subst h; simp [mixed]
theorem lay_below {w wa : World} {l : Value} {g B : Nat} {o : Obj} (h : Lay (w.alloc o) wa l g (w.alloc o).heap.size) (hl : ∀ q, l.ownBlock = some q → B ≤ q) (hB : B ≤ w.heap.size) : Below B w wa := by
  have hsa : (w.alloc o).heap.size = w.heap.size + 1 := World.size_alloc _ _
  have hs : (w.alloc o).heap.size ≤ wa.heap.size := by rcases h with ⟨_, hgr⟩ | ⟨_, hgr⟩ <;> exact hgr.size
  have hos : wa.os = w.os ∧ wa.tape = w.tape ∧ wa.output = w.output := by rcases h with ⟨_, hgr⟩ | ⟨_, hgr⟩ <;> exact ⟨hgr.os, hgr.tape, hgr.output⟩
  refine ⟨hos.1, hos.2.1, hos.2.2, by omega, fun q hq => ?_⟩
  rcases h with ⟨h1, hgr⟩ | ⟨h1, hgr⟩
  · have := hl g h1
    exact (hgr.block q (by omega) (fun e => by have := Option.some.inj e; omega)).trans (Below.heap_alloc _ _ _ (by omega))
  · exact (hgr.block q (by omega) (fun e => by cases e)).trans (Below.heap_alloc _ _ _ (by omega))
/- where keepTags stands between its appends -/
structure KS (b : Nat) (tv : Value) (xs : List Value) (B : Nat) (w wx : World) (l : Value) (n : Nat) (m : ByteArray) (outs : List Value) (k : Nat) : Prop where
  mks : Marks wx B l n m outs k
  bk : BookAt b tv xs B wx
  bel : Below b w wx
theorem KS.push {b : Nat} {tv : Value} {xs : List Value} {B : Nat} {w wx wa : World} {l : Value} {n g cap k j : Nat} {m : ByteArray} {outs : List Value} {o : Obj} (h : KS b tv xs B w wx l n m outs k) (hj : k ≤ j)
    (hnew : wa.ownsRow B 9 1 (.slice (some ⟨g, 0, none⟩) (n + j) cap) (n + j) (List.replicate n (.string m) ++ List.replicate j (.string m))) (hold : wa.ownsRow B 9 1 l n (List.replicate n (.string m)))
    (hlay : Lay (wx.alloc o) wa l g (wx.alloc o).heap.size) : KS b tv xs B w wa l n m (outs ++ [.slice (some ⟨g, 0, none⟩) (n + j) cap]) j := by
  have hb := lay_below hlay (fun q hq => (h.mks.own.lt q hq).1) h.bk.size
  exact ⟨h.mks.push hj hnew hold hlay, h.bk.keep hb, h.bel.trans (hb.mono (Nat.le_of_lt h.bk.lt))⟩
theorem news_of {w : World} {cs : List Value} {t : TypeId} : ∀ j u, cs[j]? = some u → (w.alloc (.cells cs.toArray t)).cell? ((⟨w.heap.size, 0, none⟩ : Addr).add j) = some u := fun j u hu =>
  World.news_of_block (cs := cs.toArray) (heap_alloc_new w _) j u hu
theorem le_alloc2 {w : World} {b : Nat} {o : Obj} (h : b ≤ w.heap.size) : b ≤ (w.alloc o).heap.size := by rw [World.size_alloc]; omega
theorem KS.entries {b : Nat} {tv : Value} {xs : List Value} {B : Nat} {w wx : World} {l : Value} {n k : Nat} {m : ByteArray} {outs : List Value} (h : KS b tv xs B w wx l n m outs k) (h7 : n + k ≤ 7) :
    ∀ v ∈ l :: outs, v = .slice none 0 0 ∨ ∃ g no cap, Out wx B 7 m v g no cap := by
  intro v hv
  rcases List.mem_cons.1 hv with rfl | hv
  · rcases h.mks.own.2 with ⟨h1, _⟩ | ⟨g, cap, cur, rfl, a2, a3, a4, a5, a6, a7⟩
    · exact .inl h1
    · exact .inr ⟨g, n, cap, rfl, by omega, a4, a2, (Array.getElem?_eq_some_iff.1 a3).1, (own_cells h.mks.own).2⟩
  · obtain ⟨g, no, cap, ho⟩ := h.mks.outs v hv
    exact .inr ⟨g, no, cap, ho.val, Nat.le_trans ho.few h7, ho.room, ho.base, ho.lt, ho.cells⟩
theorem slices_one {a b c d : Option Addr} {n1 n2 n3 n4 c1 c2 c3 c4 : Nat} : ∀ u ∈ [Value.slice a n1 c1, .slice b n2 c2, .slice c n3 c3, .slice d n4 c4], u.oneCell' = true := by
  intro u hu
  simp only [List.mem_cons, List.not_mem_nil, or_false] at hu
  rcases hu with rfl | rfl | rfl | rfl <;> rfl
theorem all_one (n : Nat) (m : ByteArray) : ∀ u ∈ List.replicate n (Value.string m), u.oneCell' = true := by
  intro u hu; rw [List.eq_of_mem_replicate hu]; rfl
set_option maxRecDepth 100000 in
set_option maxHeartbeats 1000000 in
theorem keepTags_any (b r : Nat) (tv : Value) (xs : List Value) (B : Nat) (l : Value) (ts : List ByteArray) (w : World) (HB : Hid (BookAt b tv xs B w)) (HO : Hid (w.ownsRow B 9 1 l ts.length (ts.map Value.string)))
    (h4 : ts.length ≤ 4) (HX : Hid (xs.length = 4 * r ∧ r ≤ 3000000)) :
    Calls Try.prog 16 #[.pointer (some ⟨b, 0, none⟩), l] w fun e w' => e = .returned (.tuple #[]) ∧ ∃ tv' xs', BookAt b tv' xs' w'.heap.size w' ∧ xs'.length = 4 * (r + 1) ∧ Below b w w' := by
  obtain ⟨i0, hi, hz0, hz1, hz2⟩ := info_parts infoText
  obtain ⟨i1, hi1, hy0, hy1, hy2⟩ := info_parts infoTexts
  obtain ⟨ta, tc, htv, htc, _, hT⟩ := row_at HB.out.tags
  subst htv
  obtain ⟨la, lc, rfl, hla⟩ := own_tags HO.out
  obtain ⟨d0, d1, df⟩ := book_cells HB.out.blk
  have hxs : xs.length ≤ 12000000 := by have := HX.out; omega
  clear hT hla
  go_enter Try.func16, Try.ntmps16
  go_wp2_with fail
  refine (badTag_any _ _ (by omega) (by show Int.toNat _ < _; have := HX.out; omega)).mono ?_
  rintro e w1 ⟨rfl, hb1⟩
  obtain ⟨m, hm, HM⟩ : ∃ m, badB ((xs.length : Int) / 4).toNat = m ∧ Hid (m = badB r) := ⟨_, rfl, by show badB _ = badB r; congr 1; have := HX.out; omega⟩
  have HB1 := hide0 (HB.out.keep (hb1.mono HB.out.size))
  have HO1 := hide0 (own_below HO.out hb1)
  have HF1 := hide0 (hb1.mono (Nat.le_trans (Nat.le_of_lt HB.out.lt) HB.out.size))
  clear hb1 HB HO d0 d1 df
  go_wp2
  go_loopw [5] (fun i wx => ∃ k : Nat, k ≤ ts.length ∧ i = .int .i64 k ∧ Hid (wx.ownsRow B 9 1 (.slice la ts.length lc) ts.length (mixed ts m k)) ∧ Hid (Below B w1 wx)) (fun i _ => ts.length - (intOf i).toNat)
  case atStart => exact ⟨0, Nat.zero_le _, rfl, by rw [mixed_zero]; exact HO1, Below.refl _ _⟩
  case round =>
    obtain ⟨k, hk, rfl, HOk, HBk⟩ := hrel
    by_cases hlt : k < ts.length
    · obtain ⟨g, rfl, hgB, x, hcell, hfr⟩ : ∃ g, la = some ⟨g, 0, none⟩ ∧ B ≤ g ∧ ∃ x, wr.cell? ⟨g, k, none⟩ = some x ∧ wr.frozen? ⟨g, k, none⟩ = false := by
        obtain ⟨h1, ⟨h2, h3⟩ | ⟨g, cap, cur, he, a2, a3, a4, a5, a6, a7⟩⟩ := HOk.out
        · omega
        · cases he
          exact ⟨g, rfl, a2, cur[k]'(by omega), by simp [World.cell?, a3], by simp [World.frozen?, a3]⟩
      have HS := hide0 (own_set (i := k) (u := .string m) HOk.out)
      rw [mixed_set ts m k hlt] at HS
      have HSB := hide0 (HBk.out.setCell (p := ⟨g, k, none⟩) hgB (.string m))
      go_wp2
      go_roundw
      case rel => exact ⟨k + 1, by omega, by go_num, HS, HSB⟩
      case measure => simp [intOf]; omega
    · have hkn : k = ts.length := by omega
      have HOn := hide0 HOk.out
      rw [mixed_end ts m k hkn] at HOn
      have HK0 : Hid (KS b (.slice ta xs.length tc) xs B w wr (.slice la ts.length lc) ts.length m [] 0) := ⟨⟨HOn.out, fun o ho => by cases ho⟩, HB1.out.keep HBk.out, HF1.out.trans (HBk.out.mono (Nat.le_of_lt HB1.out.lt))⟩
      clear HOn HOk HBk HB1 HO1 HF1 hm hkn
      have hmx : ∀ j, j ≤ 3 → ts.length + j ≤ maxLen := fun j hj => by unfold maxLen; omega
      have hby : ∀ j, j ≤ 3 → (ts.length + j) * 16 ≤ 140737488355328 := fun j hj => by omega
      have hxm : xs.length + 4 ≤ maxLen := by unfold maxLen; omega
      have hxb : (xs.length + 4) * 24 ≤ 140737488355328 := by omega
      go_wp2_with (first
        | (have hz := HK3; clear hz; at_builtin; go_must (refine wpList_append_kept _ rfl _ _ 29 rfl (b + 1) 22 i1 (.slice none 0 0) 24 Try.underlying29 hi1 hy0 hy1 hy2 rfl (.slice ta xs.length tc) xs.length xs rfl (HK3.out.bk.tags.alloc _) ⟨_, 0, none⟩ 4 4 [.slice la ts.length lc, .slice (some ⟨g1, 0, none⟩) (ts.length + 1) cg1, .slice (some ⟨g2, 0, none⟩) (ts.length + 2) cg2, .slice (some ⟨g3, 0, none⟩) (ts.length + 3) cg3] rfl rfl news_of slices_one (by omega) hxm hxb (le_alloc2 (Nat.le_trans HK3.out.bk.lt HK3.out.bk.size)) ?_)
           intro g4 cg4 w4 hn4 ho4 hl4
           obtain ⟨hblk, HBK, hbel⟩ := HK3.out.bk.push HX.out.1 rfl (by rw [← HM.out]; exact HK3.out.entries (by omega)) hn4 hl4
           have HBel := hide0 (HK3.out.bel.trans hbel)
           have HBook := hide0 HBK
           obtain ⟨e0, e1, ef⟩ := book_cells hblk
           clear hn4 ho4 hl4 HBK hbel hblk HK3 d0 d1 df)
        | (have hz := HK2; clear hz; at_builtin; go_must (refine wpList_append_kept _ rfl _ _ 22 rfl B 9 i0 (.string ⟨#[]⟩) 16 Try.underlying22 hi hz0 hz1 hz2 rfl (.slice la ts.length lc) ts.length (List.replicate ts.length (.string m)) rfl (HK2.out.mks.own.alloc _) ⟨_, 0, none⟩ 3 3 (List.replicate 3 (.string m)) rfl rfl news_of (all_one 3 m) (by omega) (hmx 3 (by omega)) (hby 3 (by omega)) (le_alloc2 HK2.out.bk.size) ?_)
           intro g3 cg3 wg3 hng3 hog3 hlg3
           have HK3 := hide0 (HK2.out.push (j := 3) (by omega) hng3 hog3 hlg3)
           obtain ⟨d0, d1, df⟩ := book_cells HK3.out.bk.blk
           clear hng3 hog3 hlg3 HK2)
        | (have hz := HK1; clear hz; at_builtin; go_must (refine wpList_append_kept _ rfl _ _ 22 rfl B 9 i0 (.string ⟨#[]⟩) 16 Try.underlying22 hi hz0 hz1 hz2 rfl (.slice la ts.length lc) ts.length (List.replicate ts.length (.string m)) rfl (HK1.out.mks.own.alloc _) ⟨_, 0, none⟩ 2 2 (List.replicate 2 (.string m)) rfl rfl news_of (all_one 2 m) (by omega) (hmx 2 (by omega)) (hby 2 (by omega)) (le_alloc2 HK1.out.bk.size) ?_)
           intro g2 cg2 wg2 hng2 hog2 hlg2
           have HK2 := hide0 (HK1.out.push (j := 2) (by omega) hng2 hog2 hlg2)
           clear hng2 hog2 hlg2 HK1)
        | (have hz := HK0; clear hz; at_builtin; go_must (refine wpList_append_kept _ rfl _ _ 22 rfl B 9 i0 (.string ⟨#[]⟩) 16 Try.underlying22 hi hz0 hz1 hz2 rfl (.slice la ts.length lc) ts.length (List.replicate ts.length (.string m)) rfl (HK0.out.mks.own.alloc _) ⟨_, 0, none⟩ 1 1 (List.replicate 1 (.string m)) rfl rfl news_of (all_one 1 m) (by omega) (hmx 1 (by omega)) (hby 1 (by omega)) (le_alloc2 HK0.out.bk.size) ?_)
           intro g1 cg1 wg1 hng1 hog1 hlg1
           have HK1 := hide0 (HK0.out.push (j := 1) (by omega) hng1 hog1 hlg1)
           clear hng1 hog1 hlg1 HK0))
      go_end0
      exact ⟨rfl, _, _, by rw [size_set]; exact HBook.out, by have := HX.out; simp; omega, HBel.out.setCell (Nat.le_refl _) _⟩
end Go.Proofs.Ytdjllnhahhjgmaa
