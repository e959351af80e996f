/- Walks and plain facts, in the order in which they lean on one another. -/
import Derived.Test.YtodlcnbknjldnaaGreatDoorW10
import Derived.Test.YtodlcnbknjldnaaGreatDoorW09
import Derived.Test.YtodlcnbknjldnaaGreatDoorW03
namespace Go.Proofs.YtodlcnbknjldnaaGreatDoor
open Go.RowKit Chron
set_option maxRecDepth 100000 in
theorem badEvent_any (n : Int) (r : Nat) (w : World) (hn : n = (r : Int)) (hr : r ≤ 3000000) :
    Calls Tryz.prog 20 #[.int .i64 n] w fun e w' => e = .returned (.agg (badV r).toArray) ∧ Below w.heap.size w w' := by
  subst hn
  go_enter Tryz.func20, Tryz.ntmps20
  go_wp2
  obtain ⟨c0, c1, c2, c3, c4, _⟩ := res_cells (heap_alloc_new w (.cells #[.int .i64 (-1000 - (r : Int)), .string ⟨#[]⟩, .int .i64 0, .string ⟨#[116, 104, 101, 32, 99, 97, 108, 108, 101, 114, 39, 115]⟩, .slice none 0 0] 29))
  refine bodyPost_ret (v := .agg #[.int .i64 (-1000 - (r : Int)), .string ⟨#[]⟩, .int .i64 0, .string callerB, .slice none 0 0]) (by simp [results, Tryz.results20, go_sem, c0, c1, c2, c3, c4, callerB]) rfl ⟨rfl, (Below.refl _ _).alloc (Nat.le_refl _) _⟩
theorem own_setG {w : World} {base g n cap i sz : Nat} {e : TypeId} {xs : List Value} {u : Value} (h : w.ownsRow base e sz (.slice (some ⟨g, 0, none⟩) n cap) n xs) :
    (w.setCell ⟨g, i, none⟩ u).ownsRow base e sz (.slice (some ⟨g, 0, none⟩) n cap) n (xs.set i u) := by
  obtain ⟨h1, ⟨h2, _⟩ | ⟨g', cap', cur, hv, a2, a3, a4, a5, a6, a7⟩⟩ := h
  · cases h2
  · cases hv
    refine ⟨by rw [List.length_set]; exact h1, .inr ⟨g, cap, cur.setIfInBounds i u, rfl, a2, ?_, a4, a5, by simpa using a6, ?_⟩⟩
    · rw [setCell_eq_setRow w g i cur e (0, 0) u a3, setRow_heap w g _ _ e (0, 0) a3]
    · rw [Array.toList_setIfInBounds, List.take_set, a7]
theorem set_five (P S : List Value) (x0 x1 x2 x3 x4 a0 a1 a2 a3 a4 : Value) {k : Nat} (hk : P.length = k) :
    (((((P ++ x0 :: x1 :: x2 :: x3 :: x4 :: S).set k a0).set (k + 1) a1).set (k + 2) a2).set (k + 3) a3).set (k + 4) a4 = P ++ a0 :: a1 :: a2 :: a3 :: a4 :: S := by
  subst hk
  simp
def mixG (its : List Item) (mc : List Value) (k : Nat) : List Value := reps k mc ++ fives (its.drop k)
theorem mixG_zero (its : List Item) (mc : List Value) : mixG its mc 0 = fives its := by simp [mixG, reps]
theorem mixG_end (its : List Item) (mc : List Value) {k : Nat} (h : k = its.length) : mixG its mc k = reps its.length mc := by subst h; simp [mixG, fives]
theorem mixG_step {its : List Item} {k : Nat} (h : k < its.length) (a0 a1 a2 a3 a4 : Value) :
    ((((((mixG its [a0, a1, a2, a3, a4] k).set (k * 5) a0).set (k * 5 + 1) a1).set (k * 5 + 2) a2).set (k * 5 + 3) a3).set (k * 5 + 4) a4) = mixG its [a0, a1, a2, a3, a4] (k + 1) := by
  have hd : its.drop k = its[k] :: its.drop (k + 1) := List.drop_eq_getElem_cons h
  have e1 : fives (its.drop k) = .int .i64 its[k].ev.kind :: .string its[k].ev.task :: .int .i64 its[k].ev.time :: .string its[k].ev.body :: .slice its[k].at' its[k].ev.tags.length its[k].cap :: fives (its.drop (k + 1)) := by
    rw [hd]; rfl
  rw [mixG, e1, set_five _ _ _ _ _ _ _ _ _ _ _ _ (by rw [reps_len]; rfl), mixG, ← reps_add, List.append_assoc]
  rfl
/- what is still to be kept: the events, and the tags of the last ones -/
structure Pend (b : Nat) (tv ev : Value) (xs ys : List Value) (w : World) (lv : Value) (its : List Item) (k : Nat) : Prop where
  row : w.ownsRow (b + 1) 29 5 lv its.length (fives its)
  tags : ∀ it ∈ its.drop k, w.ownsRow (b + 1) 9 1 it.tv it.ev.tags.length (it.ev.tags.map Value.string)
  apart : ∀ q ∈ tagBs (its.drop k), lv.ownBlock ≠ some q
  dist : (tagBs (its.drop k)).Nodup
  clrE : ∀ q, lv.ownBlock = some q → Clear b tv ev xs ys q
  clrT : ∀ q ∈ tagBs (its.drop k), Clear b tv ev xs ys q
theorem MadeO.pend {b : Nat} {tv ev : Value} {xs ys : List Value} {w : World} {lv : Value} {its : List Item} {N : Nat} (h : MadeO N w lv its) (hN : b + 1 ≤ N) (hc : ∀ q, N ≤ q → Clear b tv ev xs ys q) : Pend b tv ev xs ys w lv its 0 :=
  ⟨own_mono h.row hN, fun it hi => own_mono (h.tags it (by simpa using hi)) hN, by simpa using h.apart, by simpa using h.dist, fun q hq => hc q (h.row.lt _ hq).1, fun q hq => hc q (h.tag_lt (by simpa using hq)).1⟩
theorem Pend.next {b : Nat} {tv tv' ev : Value} {xs xs' ys : List Value} {w w' : World} {lv : Value} {its : List Item} {k : Nat} {it : Item} (h : Pend b tv ev xs ys w lv its k) (hk : k < its.length) (hit : its[k] = it)
    (hf : Far w w' [some b, tv.ownBlock, it.tv.ownBlock]) (hcl : ∀ q, q < w.heap.size → Clear b tv ev xs ys q → it.tv.ownBlock ≠ some q → Clear b tv' ev xs' ys q) : Pend b tv' ev xs' ys w' lv its (k + 1) := by
  have hd : its.drop k = it :: its.drop (k + 1) := by rw [← hit]; exact List.drop_eq_getElem_cons hk
  have hsub : ∀ q, q ∈ tagBs (its.drop (k + 1)) → q ∈ tagBs (its.drop k) ∧ it.tv.ownBlock ≠ some q := by
    intro q hq
    have hq2 : q ∈ tagBs (its.drop k) := by
      rw [tagBs_mem] at hq ⊢
      obtain ⟨x, hx, hb⟩ := hq
      exact ⟨x, by rw [hd]; exact List.mem_cons_of_mem _ hx, hb⟩
    refine ⟨hq2, fun e => ?_⟩
    have hdist := h.dist
    rw [hd] at hdist
    simp only [tagBs, List.filterMap_cons, e] at hdist
    exact (List.nodup_cons.1 hdist).1 hq
  have same : ∀ q, q < w.heap.size → Clear b tv ev xs ys q → it.tv.ownBlock ≠ some q → w'.heap[q]? = w.heap[q]? := by
    intro q hq hc hne
    refine hf.block q hq ?_
    intro r hr
    simp only [List.mem_cons, List.mem_nil_iff, or_false] at hr
    rcases hr with rfl | rfl | rfl
    · simp only [ne_eq, Option.some.injEq]; exact fun e => hc.1 e.symm
    · exact hc.2.1
    · exact hne
  have hlvne : ∀ q, lv.ownBlock = some q → it.tv.ownBlock ≠ some q := fun q hq e => h.apart q (by rw [tagBs_mem]; exact ⟨it, by rw [hd]; simp, e⟩) hq
  refine ⟨own_of_block h.row fun q hq => same q (h.row.lt _ hq).2 (h.clrE q hq) (hlvne q hq), fun x hx => ?_, fun q hq => h.apart q (hsub q hq).1, ?_, fun q hq => hcl q (h.row.lt _ hq).2 (h.clrE q hq) (hlvne q hq), fun q hq => ?_⟩
  · have hx2 : x ∈ its.drop k := by rw [hd]; exact List.mem_cons_of_mem _ hx
    refine own_of_block (h.tags x hx2) fun q hq => ?_
    have hm := hsub q (tagBs_mem.2 ⟨x, hx, hq⟩)
    exact same q ((h.tags x hx2).lt _ hq).2 (h.clrT q hm.1) hm.2
  · have hdist := h.dist
    rw [hd] at hdist
    simp only [tagBs, List.filterMap_cons] at hdist
    split at hdist
    · exact hdist
    · exact (List.nodup_cons.1 hdist).2
  · have hm := hsub q hq
    obtain ⟨x, hx, hb⟩ := tagBs_mem.1 hm.1
    exact hcl q ((h.tags x hx).lt _ hb).2 (h.clrT q hm.1) hm.2
theorem Far.under {w w' : World} {R : List (Option Nat)} {b : Nat} (h : Far w w' R) (hb : b ≤ w.heap.size) (hR : ∀ q, some q ∈ R → b ≤ q) : Below b w w' := h.below hb hR
theorem ev_cell {b : Nat} {w : World} {g n cap : Nat} {its : List Item} (h : w.ownsRow b 29 5 (.slice (some ⟨g, 0, none⟩) n cap) n (fives its)) {k : Nat} {it : Item} (hk : its[k]? = some it) : w.cell? ⟨g, k * 5 + 4, none⟩ = some it.tv := by
  obtain ⟨_, hc⟩ := own_cellsG h
  refine hc (k * 5 + 4) _ ?_
  rw [fives_at hk (by decide)]
  rfl
end Go.Proofs.YtodlcnbknjldnaaGreatDoor
namespace Go.Proofs.YtodlcnbknjldnaaGreatDoor
open Go.RowKit Chron
theorem infoEvs : (Tryz.prog.info? 23).map (fun i => (i.zero, i.size, i.bytes)) = some (some (.slice none 0 0), 1, 24) := by kernel_rfl
theorem own_shape {w : World} {base sz n : Nat} {e : TypeId} {v : Value} {xs : List Value} (h : w.ownsRow base e sz v n xs) : ∃ a cap, v = .slice a n cap ∧ (0 < n → ∃ g, a = some ⟨g, 0, none⟩) := by
  rcases h.2 with ⟨h1, h2⟩ | ⟨g, cap, _, h1, _⟩
  · exact ⟨none, 0, by rw [h1, h2], fun h => by omega⟩
  · exact ⟨some ⟨g, 0, none⟩, cap, h1, fun _ => ⟨g, rfl⟩⟩
/- the box of the mark, beside what stands between the appends -/
structure KE (b : Nat) (tv ev : Value) (xs ys : List Value) (w wx : World) (l : Value) (n r M : Nat) (outs : List Value) (k : Nat) : Prop where
  kt : KT b tv ev xs ys w wx l 29 5 n (badV r) outs k
  box : wx.heap[M]? = some (.cells (badV r).toArray 29)
  ne : l.ownBlock ≠ some M
theorem KE.push {b : Nat} {tv ev : Value} {xs ys : List Value} {w wx wa : World} {l : Value} {n r M g cap k j : Nat} {outs : List Value} {o : Obj} (h : KE b tv ev xs ys w wx l n r M outs k) (hj : k ≤ j)
    (hnew : wa.ownsRow (b + 1) 29 5 (.slice (some ⟨g, 0, none⟩) (n + j) cap) (n + j) (reps n (badV r) ++ reps j (badV r))) (hold : wa.ownsRow (b + 1) 29 5 l n (reps n (badV r)))
    (hlay : Lay (wx.alloc o) wa l g (wx.alloc o).heap.size) : KE b tv ev xs ys w wa l n r M (outs ++ [.slice (some ⟨g, 0, none⟩) (n + j) cap]) j :=
  ⟨h.kt.push hj hnew hold hlay, (hlay.facts.2.2.block M (Array.getElem?_eq_some_iff.1 h.box).1 (by simp; exact h.ne)).trans h.box, h.ne⟩
theorem box_cells {w : World} {M r : Nat} {t : TypeId} (h : w.heap[M]? = some (.cells (badV r).toArray t)) :
    w.cell? ⟨M, 0, none⟩ = some (.int .i64 (-1000 - (r : Int))) ∧ w.cell? ⟨M, 1, none⟩ = some (.string ⟨#[]⟩) ∧ w.cell? ⟨M, 2, none⟩ = some (.int .i64 0) ∧ w.cell? ⟨M, 3, none⟩ = some (.string callerB) ∧ w.cell? ⟨M, 4, none⟩ = some (.slice none 0 0) ∧ ∀ o, w.frozen? ⟨M, o, none⟩ = false := res_cells h
theorem badV_one (r : Nat) : ∀ u ∈ badV r, u.oneCell' = true := by
  intro u hu
  simp only [badV, List.mem_cons, List.mem_nil_iff, or_false] at hu
  rcases hu with rfl | rfl | rfl | rfl | rfl <;> rfl
theorem reps_all {n r : Nat} : ∀ u ∈ reps n (badV r), u.oneCell' = true := by
  intro u hu
  simp only [reps, List.mem_flatten, List.mem_replicate] at hu
  obtain ⟨l, ⟨_, rfl⟩, hu⟩ := hu
  exact badV_one r u hu
theorem row_cells {w : World} {B g n cap k : Nat} {e : TypeId} {xs : List Value} (h : w.ownsRow B e 5 (.slice (some ⟨g, 0, none⟩) n cap) n xs) (hk : k < n) :
    (∃ x0 x1 x2 x3 x4, w.cell? ⟨g, k * 5, none⟩ = some x0 ∧ w.cell? ⟨g, k * 5 + 1, none⟩ = some x1 ∧ w.cell? ⟨g, k * 5 + 2, none⟩ = some x2 ∧ w.cell? ⟨g, k * 5 + 3, none⟩ = some x3 ∧ w.cell? ⟨g, k * 5 + 4, none⟩ = some x4) ∧ ∀ o, w.frozen? ⟨g, o, none⟩ = false := by
  obtain ⟨h1, ⟨h2, _⟩ | ⟨g', cap', cur, hv, a2, a3, a4, a5, a6, a7⟩⟩ := h
  · cases h2
  · cases hv
    have hs : (k + 1) * 5 ≤ cap * 5 := Nat.mul_le_mul_right _ (by omega)
    refine ⟨⟨cur[k * 5]'(by omega), cur[k * 5 + 1]'(by omega), cur[k * 5 + 2]'(by omega), cur[k * 5 + 3]'(by omega), cur[k * 5 + 4]'(by omega), ?_⟩, fun o => by simp [World.frozen?, a3]⟩
    refine ⟨?_, ?_, ?_, ?_, ?_⟩ <;> (simp only [World.cell?, a3]; simp)
theorem badV_arr (r : Nat) : (badV r).toArray = #[.int .i64 (-1000 - (r : Int)), .string ⟨#[]⟩, .int .i64 0, .string callerB, .slice none 0 0] := rfl
set_option maxRecDepth 100000 in
set_option maxHeartbeats 4000000 in
theorem keep_any (b r r2 : Nat) (tv ev : Value) (xs ys : List Value) (lv : Value) (its : List Item) (w : World) (HB : Hid (Book2 b tv ev xs ys w)) (HP : Hid (Pend b tv ev xs ys w lv its 0))
    (h200 : its.length ≤ 200) (H4 : Hid (∀ it ∈ its, it.ev.tags.length ≤ 4)) (HX : Hid (xs.length = 4 * r ∧ r + its.length ≤ 3000000)) (HY : Hid (ys.length = 4 * r2 ∧ r2 ≤ 3000000)) :
    Calls Tryz.prog 8 #[.pointer (some ⟨b, 0, none⟩), lv] w fun e w' => e = .returned (.tuple #[]) ∧ ∃ tv' ev' xs' ys', Hid (Book2 b tv' ev' xs' ys' w') ∧ Hid (xs'.length = 4 * (r + its.length) ∧ ys'.length = 4 * (r2 + 1)) ∧ Below b w w' := by
  obtain ⟨i0, hi, hz0, hz1, hz2⟩ := info_parts infoEvent5
  obtain ⟨i1, hi1, hy0, hy1, hy2⟩ := info_parts infoEvs
  obtain ⟨la, lc, rfl, hla⟩ := own_shape HP.out.row
  have HLA := hide0 hla
  clear hla
  go_enter Tryz.func8, Tryz.ntmps8
  go_wp2_with fail
  go_loopw [4] (fun iv wx => ∃ (k : Nat) (tvk : Value) (xsk : List Value), k ≤ its.length ∧ iv = .int .i64 k ∧ Hid (xsk.length = 4 * (r + k)) ∧ Hid (Book2 b tvk ev xsk ys wx) ∧ Hid (Pend b tvk ev xsk ys wx (.slice la its.length lc) its k) ∧ Hid (Below b w wx)) (fun iv _ => its.length - (intOf iv).toNat)
  case atStart => exact ⟨0, tv, xs, Nat.zero_le _, rfl, HX.out.1, HB, HP, Below.refl _ _⟩
  case round =>
    obtain ⟨k, tvk, xsk, hk, rfl, HXk, HBk, HPk, HWk⟩ := hrel
    by_cases hlt : k < its.length
    · obtain ⟨g, rfl⟩ := HLA.out (by omega)
      have hget : its[k]? = some its[k] := List.getElem?_eq_getElem hlt
      have hmem : its[k] ∈ its.drop k := by rw [List.drop_eq_getElem_cons hlt]; exact List.mem_cons_self
      have HMEM := hide0 hmem
      have hc := ev_cell HPk.out.row hget
      have h4k := H4.out its[k] (List.getElem_mem hlt)
      have hto := HPk.out.tags its[k] HMEM.out
      have HCk : Hid (∀ q, its[k].tv.ownBlock = some q → Clear b tvk ev xsk ys q) := fun q hq => HPk.out.clrT q (tagBs_mem.2 ⟨its[k], HMEM.out, hq⟩)
      have HNX := fun (tv' : Value) (xs' : List Value) (w' : World) => HPk.out.next (tv' := tv') (xs' := xs') (w' := w') hlt rfl
      have HNEXT := hide0 HNX
      have HBND : Hid (∀ q, some q ∈ [some b, tvk.ownBlock, its[k].tv.ownBlock] → b ≤ q) := by
        intro q hq
        simp only [List.mem_cons, List.mem_nil_iff, or_false, Option.some.injEq] at hq
        rcases hq with rfl | hq | hq
        · omega
        · have := (HBk.out.tags.lt q hq.symm).1; omega
        · have := (hto.lt q hq.symm).1; omega
      have hblt := HBk.out.lt
      have HTO := hide0 hto
      have HKT := fun (X : World) => keepTags2_any b (r + k) tvk ev xsk ys its[k].tv its[k].ev.tags wr HBk HTO HCk h4k ⟨HXk.out, by have := HX.out; omega⟩
      have hK := HKT wr
      clear hget hto HNX HKT hmem HMEM
      generalize its[k].tv = itv at hc hK HNEXT HBND
      clear HCk HTO h4k
      go_wp2_with fail
      refine hK.mono ?_
      rintro e w2 ⟨rfl, tv', xs', HB2, HX2, HF2, HC2⟩
      have HP2 := hide0 (HNEXT.out tv' xs' w2 HF2.out HC2.out)
      have HW2 := hide0 (HWk.out.trans (HF2.out.under (by omega) HBND.out))
      clear hc hK
      go_wp2
      go_roundw
      case rel => exact ⟨k + 1, tv', xs', by omega, by go_num, HX2, HB2, HP2, HW2⟩
      case measure => simp [intOf]; omega
    · have hkn : k = its.length := by omega
      subst hkn
      obtain ⟨ea, ec, hev, hec, _, _⟩ := row_at HBk.out.evts
      subst hev
      obtain ⟨d0, d1, df⟩ := book_cells HBk.out.blk
      have hys : ys.length ≤ 12000000 := by have := HY.out; omega
      have hrr := HY.out.1
      have hr2 := HY.out.2
      have hdiv : ((ys.length : Int) / 4) = (r2 : Int) := by omega
      have hBE := badEvent_any ((ys.length : Int) / 4) r2 wr hdiv hr2
      clear hdiv hrr hr2
      go_wp2_with fail
      refine hBE.mono ?_
      rintro e w2 ⟨rfl, hb2⟩
      rw [badV_arr]
      have hs2 := hb2.size
      have HB3 : Hid (Book2 b tvk (.slice ea ys.length ec) xsk ys (w2.alloc (.cells #[.int .i64 (-1000 - (r2 : Int)), .string ⟨#[]⟩, .int .i64 0, .string callerB, .slice none 0 0] 29))) := (HBk.out.below hb2).below ((Below.refl _ _).alloc (Nat.le_refl _) _)
      have HO3 : Hid ((w2.alloc (.cells #[.int .i64 (-1000 - (r2 : Int)), .string ⟨#[]⟩, .int .i64 0, .string callerB, .slice none 0 0] 29)).ownsRow (b + 1) 29 5 (.slice la its.length lc) its.length (fives its)) := (own_below HPk.out.row hb2).alloc _
      have HCE := hide0 HPk.out.clrE
      have HBX : Hid ((w2.alloc (.cells #[.int .i64 (-1000 - (r2 : Int)), .string ⟨#[]⟩, .int .i64 0, .string callerB, .slice none 0 0] 29)).heap[w2.heap.size]? = some (.cells (badV r2).toArray 29)) := heap_alloc_new _ _
      have HNM : Hid ((Value.slice la its.length lc).ownBlock ≠ some w2.heap.size) := fun e => by have := (HPk.out.row.lt _ e).2; omega
      have HW3 : Hid (Below b w (w2.alloc (.cells #[.int .i64 (-1000 - (r2 : Int)), .string ⟨#[]⟩, .int .i64 0, .string callerB, .slice none 0 0] 29))) := (HWk.out.trans (hb2.mono (by have := HBk.out.lt; omega))).alloc (by have := HBk.out.lt; omega) _
      clear hb2 HBk HPk HB HP HWk d0 d1 df hBE
      obtain ⟨w3, hw3⟩ : ∃ w3, w3 = w2.alloc (.cells #[.int .i64 (-1000 - (r2 : Int)), .string ⟨#[]⟩, .int .i64 0, .string callerB, .slice none 0 0] 29) := ⟨_, rfl⟩
      go_wp2_with fail
      rw [← hw3] at HB3 HO3 HBX HW3 ⊢
      clear hw3
      go_loopw [6] (fun iv wx => ∃ k : Nat, k ≤ its.length ∧ iv = .int .i64 k ∧ Hid (wx.ownsRow (b + 1) 29 5 (.slice la its.length lc) its.length (mixG its (badV r2) k)) ∧ Hid (Far w3 wx [(Value.slice la its.length lc).ownBlock])) (fun iv _ => its.length - (intOf iv).toNat)
      case atStart => exact ⟨0, Nat.zero_le _, rfl, by rw [mixG_zero]; exact HO3, Far.refl _ _⟩
      case round =>
        obtain ⟨k, hk, rfl, HOk, HFk⟩ := hrel
        have HBXk : Hid (wr.heap[w2.heap.size]? = some (.cells (badV r2).toArray 29)) := (HFk.out.block _ (Array.getElem?_eq_some_iff.1 HBX.out).1 (by simp; exact HNM.out)).trans HBX.out
        obtain ⟨m0, m1, m2, m3, m4, mf⟩ := box_cells HBXk.out
        by_cases hlt : k < its.length
        · obtain ⟨g, rfl⟩ := HLA.out (by omega)
          obtain ⟨⟨x0, x1, x2, x3, x4, c0, c1, c2, c3, c4⟩, cf⟩ := row_cells HOk.out hlt
          have hne : ¬ g = w2.heap.size := fun e => HNM.out (by rw [← e]; rfl)
          have HS := hide0 (own_setG (i := k * 5 + 4) (u := .slice none 0 0) (own_setG (i := k * 5 + 3) (u := .string callerB) (own_setG (i := k * 5 + 2) (u := .int .i64 0) (own_setG (i := k * 5 + 1) (u := .string ⟨#[]⟩) (own_setG (i := k * 5) (u := .int .i64 (-1000 - (r2 : Int))) HOk.out)))))
          have hms := mixG_step hlt (.int .i64 (-1000 - (r2 : Int))) (.string ⟨#[]⟩) (.int .i64 0) (.string callerB) (.slice none 0 0)
          rw [show mixG its (badV r2) k = mixG its [.int .i64 (-1000 - (r2 : Int)), .string ⟨#[]⟩, .int .i64 0, .string callerB, .slice none 0 0] k from rfl, hms] at HS
          have HSF := hide0 (((((HFk.out.setCell (p := ⟨g, k * 5, none⟩) (.inl (by simp [Value.ownBlock])) (.int .i64 (-1000 - (r2 : Int)))).setCell (p := ⟨g, k * 5 + 1, none⟩) (.inl (by simp [Value.ownBlock])) (.string ⟨#[]⟩)).setCell (p := ⟨g, k * 5 + 2, none⟩) (.inl (by simp [Value.ownBlock])) (.int .i64 0)).setCell (p := ⟨g, k * 5 + 3, none⟩) (.inl (by simp [Value.ownBlock])) (.string callerB)).setCell (p := ⟨g, k * 5 + 4, none⟩) (.inl (by simp [Value.ownBlock])) (.slice none 0 0))
          clear hms
          go_wp2
          go_roundw
          case rel => exact ⟨k + 1, by omega, by go_num, HS, HSF⟩
          case measure => simp [intOf]; omega
        · have hkn : k = its.length := by omega
          have HOn := hide0 HOk.out
          rw [mixG_end its (badV r2) hkn] at HOn
          have HK0 : Hid (KE b tvk (.slice ea ys.length ec) xsk ys w3 wr (.slice la its.length lc) its.length r2 w2.heap.size [] 0) := ⟨⟨⟨HOn.out, fun o ho => by cases ho⟩, HB3.out.far HFk.out (fun q hq _ => HCE.out q (by simpa using (List.mem_singleton.1 hq).symm)), HFk.out, (fun o ho => by cases ho), HCE.out, ⟨fun q hq => (HB3.out.tags.lt q hq).2, fun q hq => (HB3.out.evts.lt q hq).2⟩⟩, HBXk.out, HNM.out⟩
          have HFB : Hid (∀ q, some q ∈ [some b, (Value.slice ea ys.length ec).ownBlock, (Value.slice la its.length lc).ownBlock] → b ≤ q) := by
            intro q hq
            simp only [List.mem_cons, List.mem_nil_iff, or_false, Option.some.injEq] at hq
            rcases hq with rfl | hq | hq
            · omega
            · have := (HB3.out.evts.lt q hq.symm).1; omega
            · have := (HO3.out.lt q hq.symm).1; omega
          have hblt := HB3.out.lt
          clear HOn HOk HFk HB3 HO3 HBX HBXk hkn HNM
          have hmx : ∀ j, j ≤ 3 → its.length + j ≤ maxLen := fun j hj => by unfold maxLen; omega
          have hby : ∀ j, j ≤ 3 → (its.length + j) * 72 ≤ 140737488355328 := fun j hj => by omega
          have hxm : ys.length + 4 ≤ maxLen := by unfold maxLen; omega
          have hxb : (ys.length + 4) * 24 ≤ 140737488355328 := by omega
          go_wp2_with (first
            | (have hz := HK3; clear hz; at_builtin; go_must (refine wpList_append_keptG _ rfl _ _ 32 rfl (b + 1) 23 i1 (.slice none 0 0) 1 24 Tryz.underlying32 hi1 hy0 hy1 hy2 rfl Nat.one_pos (.slice ea ys.length ec) ys.length ys rfl (HK3.out.kt.bk.evts.alloc _) ⟨_, 0, none⟩ 4 4 [.slice la its.length lc, .slice (some ⟨g1, 0, none⟩) (its.length + 1) cg1, .slice (some ⟨g2, 0, none⟩) (its.length + 2) cg2, .slice (some ⟨g3, 0, none⟩) (its.length + 3) cg3] rfl rfl news_of slices_one (by omega) hxm hxb (le_alloc2 HK3.out.kt.bk.lt) ?_)
               intro g4 cg4 w4 hn4 ho4 hl4
               obtain ⟨hblk, HBK, hfar4⟩ := HK3.out.kt.bk.pushE HY.out.1 rfl (HK3.out.kt.entries (by omega)) hn4 hl4
               have HFar := hide0 (far_cons HK3.out.kt.far hfar4)
               have HBook := hide0 HBK
               obtain ⟨e0, e1, ef⟩ := book_cells hblk
               clear hn4 ho4 hl4 HBK hfar4 hblk HK3 d0 d1 df)
            | (have hz := HK2; clear hz; at_builtin; go_must (refine wpList_append_keptG _ rfl _ _ 23 rfl (b + 1) 29 i0 (.agg #[.int .i64 0, .string ⟨#[]⟩, .int .i64 0, .string ⟨#[]⟩, .slice none 0 0]) 5 72 Tryz.underlying23 hi hz0 hz1 hz2 rfl (by decide) (.slice la its.length lc) its.length (reps its.length (badV r2)) rfl (HK2.out.kt.mks.own.alloc _) ⟨_, 0, none⟩ 3 3 (reps 3 (badV r2)) rfl rfl news_of reps_all (by omega) (hmx 3 (by omega)) (hby 3 (by omega)) (le_alloc2 HK2.out.kt.bk.lt) ?_)
               intro g3 cg3 wg3 hng3 hog3 hlg3
               have HK3 := hide0 (HK2.out.push (j := 3) (by omega) hng3 hog3 hlg3)
               clear m0 m1 m2 m3 m4 mf
               obtain ⟨d0, d1, df⟩ := book_cells HK3.out.kt.bk.blk
               clear hng3 hog3 hlg3 HK2)
            | (have hz := HK1; clear hz; at_builtin; go_must (refine wpList_append_keptG _ rfl _ _ 23 rfl (b + 1) 29 i0 (.agg #[.int .i64 0, .string ⟨#[]⟩, .int .i64 0, .string ⟨#[]⟩, .slice none 0 0]) 5 72 Tryz.underlying23 hi hz0 hz1 hz2 rfl (by decide) (.slice la its.length lc) its.length (reps its.length (badV r2)) rfl (HK1.out.kt.mks.own.alloc _) ⟨_, 0, none⟩ 2 2 (reps 2 (badV r2)) rfl rfl news_of reps_all (by omega) (hmx 2 (by omega)) (hby 2 (by omega)) (le_alloc2 HK1.out.kt.bk.lt) ?_)
               intro g2 cg2 wg2 hng2 hog2 hlg2
               have HK2 := hide0 (HK1.out.push (j := 2) (by omega) hng2 hog2 hlg2)
               clear m0 m1 m2 m3 m4 mf
               obtain ⟨m0, m1, m2, m3, m4, mf⟩ := box_cells HK2.out.box
               clear hng2 hog2 hlg2 HK1)
            | (have hz := HK0; clear hz; at_builtin; go_must (refine wpList_append_keptG _ rfl _ _ 23 rfl (b + 1) 29 i0 (.agg #[.int .i64 0, .string ⟨#[]⟩, .int .i64 0, .string ⟨#[]⟩, .slice none 0 0]) 5 72 Tryz.underlying23 hi hz0 hz1 hz2 rfl (by decide) (.slice la its.length lc) its.length (reps its.length (badV r2)) rfl (HK0.out.kt.mks.own.alloc _) ⟨_, 0, none⟩ 1 1 (reps 1 (badV r2)) rfl rfl news_of reps_all (by omega) (hmx 1 (by omega)) (hby 1 (by omega)) (le_alloc2 HK0.out.kt.bk.lt) ?_)
               intro g1 cg1 wg1 hng1 hog1 hlg1
               have HK1 := hide0 (HK0.out.push (j := 1) (by omega) hng1 hog1 hlg1)
               clear m0 m1 m2 m3 m4 mf
               obtain ⟨m0, m1, m2, m3, m4, mf⟩ := box_cells HK1.out.box
               clear hng1 hog1 hlg1 HK0))
          go_end0
          exact ⟨rfl, _, _, _, _, HBook, ⟨HXk.out, by have := HY.out; simp; omega⟩, HW3.out.trans (HFar.out.under (by omega) HFB.out)⟩
end Go.Proofs.YtodlcnbknjldnaaGreatDoor
namespace Go.Proofs.YtodlcnbknjldnaaGreatDoor
open Go.RowKit Chron
def badBd : ByteArray := ⟨#[116, 104, 101, 32, 99, 97, 108, 108, 101, 114, 39, 115]⟩
def badE : Ev := ⟨-1000, ⟨#[]⟩, 0, badBd, []⟩
def badI : Item := ⟨badE, none, 0⟩
set_option maxRecDepth 100000 in
set_option maxHeartbeats 400000 in
theorem badEvent_zero (w : World) : Calls Tryz.prog 20 #[.int .i64 0] w fun e w' => e = .returned (.agg #[.int .i64 (-1000), .string ⟨#[]⟩, .int .i64 0, .string badBd, .slice none 0 0]) ∧ Below w.heap.size w w' := by
  go_enter Tryz.func20, Tryz.ntmps20
  go_wp2
  obtain ⟨c0, c1, c2, c3, c4, _⟩ := res_cells (heap_alloc_new w (.cells #[.int .i64 (-1000), .string ⟨#[]⟩, .int .i64 0, .string ⟨#[116, 104, 101, 32, 99, 97, 108, 108, 101, 114, 39, 115]⟩, .slice none 0 0] 29))
  refine bodyPost_ret (v := .agg #[.int .i64 (-1000), .string ⟨#[]⟩, .int .i64 0, .string badBd, .slice none 0 0]) (by simp [results, Tryz.results20, go_sem, c0, c1, c2, c3, c4, badBd]) rfl ⟨rfl, (Below.refl _ _).alloc (Nat.le_refl _) _⟩
set_option maxRecDepth 100000 in
set_option maxHeartbeats 1000000 in
theorem sameAll_any (a1 a2 : Option Addr) (cap1 cap2 : Nat) (l1 l2 : List Item) (w : World) (h1 : Hid (EvsAt w a1 l1)) (h2 : Hid (EvsAt w a2 l2)) (he : Hid (evs l1 = evs l2)) (hn : l1.length * 72 ≤ 140737488355328) :
    Calls Tryz.prog 6 #[.slice a1 l1.length cap1, .slice a2 l2.length cap2] w fun e w' => e = .returned (.bool true) ∧ Below w.heap.size w w' := by
  have hlen : l1.length = l2.length := by have := congrArg List.length he.out; simpa [evs] using this
  rw [← hlen]
  have HLE := hide0 hlen
  clear hlen
  go_enter Tryz.func6, Tryz.ntmps6
  go_wp2
  go_loopw [5] (fun i wx => ∃ k : Nat, k ≤ l1.length ∧ i = .int .i64 k ∧ Hid (Below w.heap.size w wx)) (fun i _ => l1.length - (intOf i).toNat)
  case atStart => exact ⟨0, Nat.zero_le _, rfl, Below.refl _ _⟩
  case round =>
    obtain ⟨k, hk, rfl, HW⟩ := hrel
    by_cases hlt : k < l1.length
    · obtain ⟨b1, o1, rfl, hc1⟩ := h1.out.below HW.out (Nat.le_refl _) (by omega)
      obtain ⟨b2, o2, rfl, hc2⟩ := h2.out.below HW.out (Nat.le_refl _) (by have := HLE.out; omega)
      obtain ⟨⟨⟨kd, tk, tm, bd, ts⟩, ta, tc⟩, hx⟩ : ∃ x, l1[k]? = some x := ⟨_, List.getElem?_eq_getElem hlt⟩
      obtain ⟨⟨ev, ta2, tc2⟩, hy⟩ : ∃ x, l2[k]? = some x := ⟨_, List.getElem?_eq_getElem (by rw [← HLE.out]; exact hlt)⟩
      have hev : ev = ⟨kd, tk, tm, bd, ts⟩ := by
        have := congrArg (fun l => l[k]?) he.out
        simp only [evs, List.getElem?_map, hx, hy, Option.map_some, Option.some.injEq] at this
        exact this.symm
      subst hev
      obtain ⟨⟨c0, c1, c2, c3, c4⟩, hok⟩ := hc1 k _ hx
      obtain ⟨⟨d0, d1, d2, d3, d4⟩, hok2⟩ := hc2 k _ hy
      simp only at c0 c1 c2 c3 c4 d0 d1 d2 d3 d4
      have HOK := hide0 hok
      have HOK2 := hide0 hok2
      have hki : (k : Int) < (l1.length : Int) := by omega
      have hS := same_law ⟨kd, tk, tm, bd, ts⟩ ⟨kd, tk, tm, bd, ts⟩ ta ta2 tc tc2 wr.drew HOK.out.tags HOK2.out.tags (by have := HOK.out.few; unfold maxLen; simp only at this ⊢; omega) (by have := HOK.out.few; unfold maxLen; simp only at this ⊢; omega)
      simp only [evVal, (sameEv_iff (e := ⟨kd, tk, tm, bd, ts⟩) (f := ⟨kd, tk, tm, bd, ts⟩)).2 rfl] at hS
      have lt1 : b1 < wr.drew.heap.size := World.block_lt_of_cell? wr _ c0
      have lt2 : b2 < wr.drew.heap.size := World.block_lt_of_cell? wr _ d0
      have hsz := HW.out.size
      clear hc1 hc2 hok hok2 hx hy
      go_wp2_with fail
      go_region_held (fun w' => w'.cell? ⟨b1, o1 + k * 5, none⟩ = some (.int .i64 kd) ∧ w'.cell? ⟨b1, o1 + k * 5 + 1, none⟩ = some (.string tk) ∧ w'.cell? ⟨b1, o1 + k * 5 + 2, none⟩ = some (.int .i64 tm) ∧ w'.cell? ⟨b1, o1 + k * 5 + 3, none⟩ = some (.string bd) ∧ w'.cell? ⟨b1, o1 + k * 5 + 4, none⟩ = some (.slice ta ts.length tc) ∧ w'.cell? ⟨b2, o2 + k * 5, none⟩ = some (.int .i64 kd) ∧ w'.cell? ⟨b2, o2 + k * 5 + 1, none⟩ = some (.string tk) ∧ w'.cell? ⟨b2, o2 + k * 5 + 2, none⟩ = some (.int .i64 tm) ∧ w'.cell? ⟨b2, o2 + k * 5 + 3, none⟩ = some (.string bd) ∧ w'.cell? ⟨b2, o2 + k * 5 + 4, none⟩ = some (.slice ta2 ts.length tc2)) (go_keep)
        (first | (go_at_call 16; refine hS.mono ?_; rintro e w1 ⟨rfl, hb1⟩; have p0 := (hb1.cell (p := ⟨b1, o1 + k * 5, none⟩) lt1).trans c0; have p1 := (hb1.cell (p := ⟨b1, o1 + k * 5 + 1, none⟩) lt1).trans c1; have p2 := (hb1.cell (p := ⟨b1, o1 + k * 5 + 2, none⟩) lt1).trans c2; have p3 := (hb1.cell (p := ⟨b1, o1 + k * 5 + 3, none⟩) lt1).trans c3; have p4 := (hb1.cell (p := ⟨b1, o1 + k * 5 + 4, none⟩) lt1).trans c4; have q0 := (hb1.cell (p := ⟨b2, o2 + k * 5, none⟩) lt2).trans d0; have q1 := (hb1.cell (p := ⟨b2, o2 + k * 5 + 1, none⟩) lt2).trans d1; have q2 := (hb1.cell (p := ⟨b2, o2 + k * 5 + 2, none⟩) lt2).trans d2; have q3 := (hb1.cell (p := ⟨b2, o2 + k * 5 + 3, none⟩) lt2).trans d3; have q4 := (hb1.cell (p := ⟨b2, o2 + k * 5 + 4, none⟩) lt2).trans d4))
      all_goals
        have HW1 := hide0 (HW.out.drew.trans (hb1.mono (by show w.heap.size ≤ wr.heap.size; exact hsz)))
        clear hb1 p0 p1 p2 p3 p4 q0 q1 q2 q3 q4 c0 c1 c2 c3 c4 d0 d1 d2 d3 d4 hS
        go_wp2
        go_roundw
        case rel => exact ⟨k + 1, by omega, by go_num, HW1⟩
        case measure => simp [intOf]; omega
    · go_wp2
      go_ret
      exact ⟨rfl, HW.out⟩
end Go.Proofs.YtodlcnbknjldnaaGreatDoor
namespace Go.Proofs.YtodlcnbknjldnaaGreatDoor
open Go.RowKit Chron
end Go.Proofs.YtodlcnbknjldnaaGreatDoor
namespace Go.Proofs.YtodlcnbknjldnaaGreatDoor
open Go.RowKit Chron
theorem reps_at {no j : Nat} {x : Value} (h : j < no) : (reps no [x])[j]? = some x := by rw [reps_one]; simp [h]
theorem reps_five {no j : Nat} {mc : List Value} (hm : mc.length = 5) (h : j < no) {c : Nat} (hc : c < 5) : (reps no mc)[j * 5 + c]? = mc[c]? := by
  induction no generalizing j with
  | zero => omega
  | succ n ih =>
    have e : reps (n + 1) mc = mc ++ reps n mc := by simp [reps, List.replicate_succ]
    rw [e]
    cases j with
    | zero => rw [Nat.zero_mul, Nat.zero_add, List.getElem?_append_left (by omega)]
    | succ j =>
      rw [List.getElem?_append_right (by omega)]
      have : (j + 1) * 5 + c - mc.length = j * 5 + c := by omega
      rw [this]
      exact ih (by omega)
set_option maxRecDepth 100000 in
set_option maxHeartbeats 4000000 in
theorem whole2_any (b : Nat) (tv ev : Value) (xs ys : List Value) (w : World) (HB : Hid (Book2 b tv ev xs ys w)) (hx : xs.length ≤ 12000000) (hy : ys.length ≤ 12000000) :
    Calls Tryz.prog 9 #[.pointer (some ⟨b, 0, none⟩)] w fun e w' => e = .returned (.bool true) ∧ Below w.heap.size w w' := by
  obtain ⟨ta, tc, htv, htc, _, hT⟩ := row_at HB.out.tags
  subst htv
  obtain ⟨ea, ec, hev, hec, _, hE⟩ := row_at HB.out.evts
  subst hev
  have HT := hide0 hT
  have HEV := hide0 hE
  have hblt : b < w.heap.size := HB.out.lt
  clear hT hE
  go_enter Tryz.func9, Tryz.ntmps9
  go_wp2
  go_loopw [3] (fun i wx => ∃ k : Nat, k ≤ xs.length ∧ i = .int .i64 k ∧ Hid (Below w.heap.size w wx)) (fun i _ => xs.length - (intOf i).toNat)
  case atStart => exact ⟨0, Nat.zero_le _, rfl, Below.refl _ _⟩
  case round =>
    obtain ⟨k, hk, rfl, HW⟩ := hrel
    have HBk := hide0 (HB.out.below HW.out)
    obtain ⟨d0, d1, df⟩ := book_cells HBk.out.blk
    by_cases hlt : k < xs.length
    · obtain ⟨v, hv⟩ : ∃ v, xs[k]? = some v := ⟨xs[k], by simp [hlt]⟩
      obtain ⟨gt, rfl, c1w⟩ := HT.out k v hv
      have hglt := World.block_lt_of_cell? w _ c1w
      have c1 : wr.cell? ⟨gt, k, none⟩ = some v := (HW.out.cell (p := ⟨gt, k, none⟩) hglt).trans c1w
      obtain ⟨a, no, cap, rfl, hno, hnc, HC⟩ : ∃ a no cap, v = .slice a no cap ∧ no ≤ 7 ∧ no ≤ cap ∧ Hid (∀ j, j < no → ∃ g, a = some ⟨g, 0, none⟩ ∧ g < w.heap.size ∧ w.cell? ⟨g, j, none⟩ = some (.string (badB (k / 4)))) := by
        rcases HB.out.full k v hv with rfl | ⟨g, no, cap, ho, h2, h3⟩
        · exact ⟨none, 0, 0, rfl, Nat.zero_le _, Nat.le_refl _, fun j hj => by omega⟩
        · exact ⟨some ⟨g, 0, none⟩, no, cap, ho.val, ho.few, ho.room, fun j hj => ⟨g, rfl, ho.lt, ho.cells j _ (reps_at hj)⟩⟩
      have hki : (k : Int) < (xs.length : Int) := by omega
      have HC1 := hide0 c1w
      clear c1w hv
      go_wp2
      clear d0 d1 df c1 HBk
      go_loopw [4] (fun i wx => ∃ j : Nat, j ≤ no ∧ i = .int .i64 j ∧ Hid (Below w.heap.size w wx)) (fun i _ => no - (intOf i).toNat)
      case atStart => exact ⟨0, Nat.zero_le _, rfl, HW⟩
      case round =>
        obtain ⟨j, hj, rfl, HWj⟩ := hrel
        obtain ⟨d0, d1, df⟩ := book_cells (HB.out.below HWj.out).blk
        have c1 := (HWj.out.cell (p := ⟨gt, k, none⟩) hglt).trans HC1.out
        have hbs := HWj.out.size
        by_cases hjl : j < no
        · obtain ⟨g, rfl, hgw, c2w⟩ := HC.out j hjl
          have c2 := (HWj.out.cell (p := ⟨g, j, none⟩) hgw).trans c2w
          have hji : (j : Int) < (no : Int) := by omega
          have hbt : ∀ (n : Int) (w' : World), Hid (0 ≤ n ∧ n.toNat = k / 4) → Calls Tryz.prog 21 #[.int .i64 n] w' fun e w'' => e = .returned (.string (badB (k / 4))) ∧ Below w'.heap.size w' w'' := by
            intro n w' hn
            have := badTag_any n w' hn.out.1 (by show n.toNat < 26 ^ 13; rw [hn.out.2]; omega)
            rw [hn.out.2] at this
            exact this
          have hwk : Hid (0 ≤ IntKind.i64.wrap ((k : Int) / 4) ∧ (IntKind.i64.wrap ((k : Int) / 4)).toNat = k / 4) := by show _ ∧ _; rw [wrapI_small (by omega) (by omega)]; exact ⟨by omega, by omega⟩
          have hbb : ((badB (k / 4)).toList == (badB (k / 4)).toList) = true := by simp
          clear c2w
          generalize badB (k / 4) = m at c2 hbt hbb
          go_wp2_with fail
          go_region_held (fun w' => w'.cell? ⟨b, 0, none⟩ = some (.slice (some ⟨gt, 0, none⟩) xs.length tc) ∧ w'.cell? ⟨gt, k, none⟩ = some (.slice (some ⟨g, 0, none⟩) no cap) ∧ w'.cell? ⟨g, j, none⟩ = some (.string m)) (go_keep)
            (first | (go_at_call 21; refine (hbt _ _ hwk).mono ?_; rintro e w2 ⟨rfl, hb2⟩; have q0 := (hb2.cell (p := ⟨b, 0, none⟩) (Nat.lt_of_lt_of_le hblt hbs)).trans d0; have q1 := (hb2.cell (p := ⟨gt, k, none⟩) (Nat.lt_of_lt_of_le hglt hbs)).trans c1; have q2 := (hb2.cell (p := ⟨g, j, none⟩) (Nat.lt_of_lt_of_le hgw hbs)).trans c2))
          all_goals
            have HW2 := hide0 (HWj.out.drew.trans (hb2.mono hbs))
            go_wp2
            go_roundw
            case rel => exact ⟨j + 1, by omega, by go_num, HW2⟩
            case measure => simp [intOf]; omega
        · have hji : (no : Int) ≤ (j : Int) := by omega
          go_wp2
          go_roundw
          case rel => exact ⟨k + 1, by omega, by go_num, HWj⟩
          case measure => simp [intOf]; omega
    · have hki : (xs.length : Int) ≤ (k : Int) := by omega
      go_wp2
      clear d0 d1 df HBk
      go_loopw [5] (fun i wx => ∃ k : Nat, k ≤ ys.length ∧ i = .int .i64 k ∧ Hid (Below w.heap.size w wx)) (fun i _ => ys.length - (intOf i).toNat)
      case atStart => exact ⟨0, Nat.zero_le _, rfl, HW⟩
      case round =>
        obtain ⟨p, hp, rfl, HWp⟩ := hrel
        obtain ⟨d0, d1, df⟩ := book_cells (HB.out.below HWp.out).blk
        by_cases hlt : p < ys.length
        · obtain ⟨v, hv⟩ : ∃ v, ys[p]? = some v := ⟨ys[p], by simp [hlt]⟩
          obtain ⟨gt, rfl, c1w⟩ := HEV.out p v hv
          have hglt := World.block_lt_of_cell? w _ c1w
          have c1 : wr.cell? ⟨gt, p, none⟩ = some v := (HWp.out.cell (p := ⟨gt, p, none⟩) hglt).trans c1w
          obtain ⟨a, no, cap, rfl, hno, hnc, HC⟩ : ∃ a no cap, v = .slice a no cap ∧ no ≤ 203 ∧ no ≤ cap ∧ Hid (∀ j, j < no → ∃ g, a = some ⟨g, 0, none⟩ ∧ g < w.heap.size ∧ ∀ c, c < 5 → w.cell? ⟨g, j * 5 + c, none⟩ = (badV (p / 4))[c]?) := by
            rcases HB.out.fullE p v hv with rfl | ⟨g, no, cap, ho, h2, h3⟩
            · exact ⟨none, 0, 0, rfl, Nat.zero_le _, Nat.le_refl _, fun j hj => by omega⟩
            · refine ⟨some ⟨g, 0, none⟩, no, cap, ho.val, ho.few, ho.room, fun j hj => ⟨g, rfl, ho.lt, fun c hc => ?_⟩⟩
              have h5 := reps_five (mc := badV (p / 4)) rfl hj hc
              obtain ⟨u, hu⟩ : ∃ u, (badV (p / 4))[c]? = some u := ⟨_, List.getElem?_eq_getElem (show c < (badV (p / 4)).length from hc)⟩
              rw [hu] at h5 ⊢
              exact ho.cells _ _ h5
          have hki2 : (p : Int) < (ys.length : Int) := by omega
          have HC1 := hide0 c1w
          clear c1w hv
          go_wp2
          clear d0 d1 df c1
          go_loopw [6] (fun i wx => ∃ j : Nat, j ≤ no ∧ i = .int .i64 j ∧ Hid (Below w.heap.size w wx)) (fun i _ => no - (intOf i).toNat)
          case atStart => exact ⟨0, Nat.zero_le _, rfl, HWp⟩
          case round =>
            obtain ⟨j, hj, rfl, HWj⟩ := hrel
            obtain ⟨d0, d1, df⟩ := book_cells (HB.out.below HWj.out).blk
            have c1 := (HWj.out.cell (p := ⟨gt, p, none⟩) hglt).trans HC1.out
            have hbs := HWj.out.size
            by_cases hjl : j < no
            · obtain ⟨g, rfl, hgw, c2w⟩ := HC.out j hjl
              have hji : (j : Int) < (no : Int) := by omega
              obtain ⟨z, HZ, hz⟩ : ∃ z : Int, Hid (z = -1000 - ((p / 4 : Nat) : Int)) ∧ badV (p / 4) = [.int .i64 z, .string ⟨#[]⟩, .int .i64 0, .string callerB, .slice none 0 0] := ⟨_, rfl, rfl⟩
              have hcells : ∀ X, Below w.heap.size w X → X.cell? ⟨b, 1, none⟩ = some (.slice (some ⟨gt, 0, none⟩) ys.length ec) ∧ X.cell? ⟨gt, p, none⟩ = some (.slice (some ⟨g, 0, none⟩) no cap) ∧ X.cell? ⟨g, j * 5, none⟩ = some (.int .i64 z) ∧ X.cell? ⟨g, j * 5 + 1, none⟩ = some (.string ⟨#[]⟩) ∧ X.cell? ⟨g, j * 5 + 2, none⟩ = some (.int .i64 0) ∧ X.cell? ⟨g, j * 5 + 3, none⟩ = some (.string callerB) ∧ X.cell? ⟨g, j * 5 + 4, none⟩ = some (.slice none 0 0) := by
                intro X hX
                have e1 := (book_cells (HB.out.below hX).blk).2.1
                have ce : ∀ c u, c < 5 → (badV (p / 4))[c]? = some u → X.cell? ⟨g, j * 5 + c, none⟩ = some u := fun c u hc hu => (hX.cell (p := ⟨g, j * 5 + c, none⟩) hgw).trans ((c2w c hc).trans hu)
                refine ⟨e1, (hX.cell (p := ⟨gt, p, none⟩) hglt).trans HC1.out, ce 0 _ (by decide) (by rw [hz]; rfl), ce 1 _ (by decide) (by rw [hz]; rfl), ce 2 _ (by decide) (by rw [hz]; rfl), ce 3 _ (by decide) (by rw [hz]; rfl), ce 4 _ (by decide) (by rw [hz]; rfl)⟩
              have hBE : ∀ (n : Int) (X : World), Hid (n = ((p / 4 : Nat) : Int)) → Hid (Below w.heap.size w X) → Calls Tryz.prog 20 #[.int .i64 n] X fun e X' => e = .returned (.agg #[.int .i64 z, .string ⟨#[]⟩, .int .i64 0, .string callerB, .slice none 0 0]) ∧ Hid (Below w.heap.size w X') ∧ X'.cell? ⟨b, 1, none⟩ = some (.slice (some ⟨gt, 0, none⟩) ys.length ec) ∧ X'.cell? ⟨gt, p, none⟩ = some (.slice (some ⟨g, 0, none⟩) no cap) ∧ X'.cell? ⟨g, j * 5, none⟩ = some (.int .i64 z) ∧ X'.cell? ⟨g, j * 5 + 1, none⟩ = some (.string ⟨#[]⟩) ∧ X'.cell? ⟨g, j * 5 + 2, none⟩ = some (.int .i64 0) ∧ X'.cell? ⟨g, j * 5 + 3, none⟩ = some (.string callerB) ∧ X'.cell? ⟨g, j * 5 + 4, none⟩ = some (.slice none 0 0) := by
                intro n X hn hX
                refine (badEvent_any n (p / 4) X hn.out (by omega)).mono ?_
                rintro e X' ⟨rfl, hb⟩
                have h2 := hX.out.trans (hb.mono hX.out.size)
                exact ⟨by rw [hz], h2, hcells _ h2⟩
              have hSM : ∀ X, Hid (Below w.heap.size w X) → Calls Tryz.prog 16 #[.agg #[.int .i64 z, .string ⟨#[]⟩, .int .i64 0, .string callerB, .slice none 0 0], .agg #[.int .i64 z, .string ⟨#[]⟩, .int .i64 0, .string callerB, .slice none 0 0]] X fun e X' => e = .returned (.bool true) ∧ Hid (Below w.heap.size w X') ∧ X'.cell? ⟨b, 1, none⟩ = some (.slice (some ⟨gt, 0, none⟩) ys.length ec) ∧ X'.cell? ⟨gt, p, none⟩ = some (.slice (some ⟨g, 0, none⟩) no cap) ∧ X'.cell? ⟨g, j * 5, none⟩ = some (.int .i64 z) ∧ X'.cell? ⟨g, j * 5 + 1, none⟩ = some (.string ⟨#[]⟩) ∧ X'.cell? ⟨g, j * 5 + 2, none⟩ = some (.int .i64 0) ∧ X'.cell? ⟨g, j * 5 + 3, none⟩ = some (.string callerB) ∧ X'.cell? ⟨g, j * 5 + 4, none⟩ = some (.slice none 0 0) := by
                intro X hX
                have hS := same_law ⟨z, ⟨#[]⟩, 0, callerB, []⟩ ⟨z, ⟨#[]⟩, 0, callerB, []⟩ none none 0 0 X (fun h => by cases h) (fun h => by cases h) (Nat.zero_le _) (Nat.zero_le _)
                rw [sameEv_iff.2 rfl] at hS
                refine Calls.mono hS ?_
                rintro e X' ⟨rfl, hb⟩
                have h2 := hX.out.trans (hb.mono hX.out.size)
                exact ⟨rfl, h2, hcells _ h2⟩
              have hwk : Hid (IntKind.i64.wrap ((p : Int) / 4) = ((p / 4 : Nat) : Int)) := by show _ = _; rw [wrapI_small (by omega) (by omega)]; omega
              have HWd : Hid (Below w.heap.size w wr.drew) := HWj.out.drew
              obtain ⟨_, _, c20, c21, c22, c23, c24⟩ := hcells wr HWj.out
              clear hcells c2w hz
              go_wp2_with fail
              go_region_held (fun X => X.cell? ⟨b, 1, none⟩ = some (.slice (some ⟨gt, 0, none⟩) ys.length ec) ∧ X.cell? ⟨gt, p, none⟩ = some (.slice (some ⟨g, 0, none⟩) no cap) ∧ X.cell? ⟨g, j * 5, none⟩ = some (.int .i64 z) ∧ X.cell? ⟨g, j * 5 + 1, none⟩ = some (.string ⟨#[]⟩) ∧ X.cell? ⟨g, j * 5 + 2, none⟩ = some (.int .i64 0) ∧ X.cell? ⟨g, j * 5 + 3, none⟩ = some (.string callerB) ∧ X.cell? ⟨g, j * 5 + 4, none⟩ = some (.slice none 0 0)) (go_keep)
                (first
                  | (go_at_call 20; refine (hBE _ _ hwk (by first | assumption | exact HWd)).mono ?_; rintro e w1 ⟨rfl, HW1, q0, q1, q2, q3, q4, q5, q6⟩)
                  | (go_at_call 16; refine (hSM _ (by first | assumption | exact HWd)).mono ?_; rintro e w2 ⟨rfl, HW2, r0, r1, r2, r3, r4, r5, r6⟩))
              all_goals
                clear q0 q1 q2 q3 q4 q5 q6 r0 r1 r2 r3 r4 r5 r6 c20 c21 c22 c23 c24 d0 d1 df c1
                go_wp2
                go_roundw
                case rel => exact ⟨j + 1, by omega, by go_num, HW2⟩
                case measure => simp [intOf]; omega
            · have hji : (no : Int) ≤ (j : Int) := by omega
              go_wp2
              go_roundw
              case rel => exact ⟨p + 1, by omega, by go_num, HWj⟩
              case measure => simp [intOf]; omega
        · have hpi : (ys.length : Int) ≤ (p : Int) := by omega
          go_wp2
          go_ret
          exact ⟨rfl, HWp.out⟩
end Go.Proofs.YtodlcnbknjldnaaGreatDoor
namespace Go.Proofs.YtodlcnbknjldnaaGreatDoor
open Go.RowKit Chron
set_option maxRecDepth 100000 in
set_option maxHeartbeats 1000000 in
theorem whole_any (b : Nat) (tv : Value) (xs : List Value) (B : Nat) (w : World) (HB0 : Hid (BookAt b tv xs B w)) (hx : xs.length ≤ 12000000) :
    Calls Tryz.prog 9 #[.pointer (some ⟨b, 0, none⟩)] w fun e w' => e = .returned (.bool true) ∧ Below w.heap.size w w' := by
  have HB := hide0 (HB0.out.grow HB0.out.size (Nat.le_refl _))
  obtain ⟨ta, tc, htv, htc, _, hT⟩ := row_at HB.out.tags
  subst htv
  have HT := hide0 hT
  clear hT HB0
  go_enter Tryz.func9, Tryz.ntmps9
  go_wp2
  go_loopw [3] (fun i wx => ∃ k : Nat, k ≤ xs.length ∧ i = .int .i64 k ∧ Hid (Below w.heap.size w wx)) (fun i _ => xs.length - (intOf i).toNat)
  case atStart => exact ⟨0, Nat.zero_le _, rfl, Below.refl _ _⟩
  case round =>
    obtain ⟨k, hk, rfl, HW⟩ := hrel
    have HBk := hide0 (HB.out.keep HW.out)
    obtain ⟨d0, d1, df⟩ := book_cells HBk.out.blk
    by_cases hlt : k < xs.length
    · obtain ⟨v, hv⟩ : ∃ v, xs[k]? = some v := ⟨xs[k], by simp [hlt]⟩
      obtain ⟨gt, rfl, c1w⟩ := HT.out k v hv
      have hglt := World.block_lt_of_cell? w _ c1w
      have c1 : wr.cell? ⟨gt, k, none⟩ = some v := (HW.out.cell (p := ⟨gt, k, none⟩) hglt).trans c1w
      have HE := hide0 (HBk.out.full k v hv)
      obtain ⟨a, no, cap, rfl, hno, hnc, HC⟩ : ∃ a no cap, v = .slice a no cap ∧ no ≤ 7 ∧ no ≤ cap ∧ Hid (∀ j, j < no → ∃ g, a = some ⟨g, 0, none⟩ ∧ g < w.heap.size ∧ w.cell? ⟨g, j, none⟩ = some (.string (badB (k / 4)))) := by
        rcases HB.out.full k v hv with rfl | ⟨g, no, cap, ho, h2, h3⟩
        · exact ⟨none, 0, 0, rfl, Nat.zero_le _, Nat.le_refl _, fun j hj => by omega⟩
        · exact ⟨some ⟨g, 0, none⟩, no, cap, ho.val, ho.few, ho.room, fun j hj => ⟨g, rfl, h3, ho.cells j hj⟩⟩
      have hki : (k : Int) < (xs.length : Int) := by omega
      have HC1 := hide0 c1w
      clear HE c1w hv
      go_wp2
      clear d0 d1 df c1 HBk
      go_loopw [4] (fun i wx => ∃ j : Nat, j ≤ no ∧ i = .int .i64 j ∧ Hid (Below w.heap.size w wx)) (fun i _ => no - (intOf i).toNat)
      case atStart => exact ⟨0, Nat.zero_le _, rfl, HW⟩
      case round =>
        obtain ⟨j, hj, rfl, HWj⟩ := hrel
        obtain ⟨d0, d1, df⟩ := book_cells (HB.out.keep HWj.out).blk
        have c1 := (HWj.out.cell (p := ⟨gt, k, none⟩) hglt).trans HC1.out
        have hbs := HWj.out.size
        by_cases hjl : j < no
        · obtain ⟨g, rfl, hgw, c2w⟩ := HC.out j hjl
          have c2 := (HWj.out.cell (p := ⟨g, j, none⟩) hgw).trans c2w
          have hji : (j : Int) < (no : Int) := by omega
          have hblt : b < w.heap.size := HB.out.lt
          have hbt : ∀ (n : Int) (w' : World), Hid (0 ≤ n ∧ n.toNat = k / 4) → Calls Tryz.prog 21 #[.int .i64 n] w' fun e w'' => e = .returned (.string (badB (k / 4))) ∧ Below w'.heap.size w' w'' := by
            intro n w' hn
            have := badTag_any n w' hn.out.1 (by show n.toNat < 26 ^ 13; rw [hn.out.2]; omega)
            rw [hn.out.2] at this
            exact this
          have hwk : Hid (0 ≤ IntKind.i64.wrap ((k : Int) / 4) ∧ (IntKind.i64.wrap ((k : Int) / 4)).toNat = k / 4) := by show _ ∧ _; rw [wrapI_small (by omega) (by omega)]; exact ⟨by omega, by omega⟩
          have hbb : ((badB (k / 4)).toList == (badB (k / 4)).toList) = true := by simp
          clear c2w
          generalize badB (k / 4) = m at c2 hbt hbb
          go_wp2_with fail
          go_region_held (fun w' => w'.cell? ⟨b, 0, none⟩ = some (.slice (some ⟨gt, 0, none⟩) xs.length tc) ∧ w'.cell? ⟨gt, k, none⟩ = some (.slice (some ⟨g, 0, none⟩) no cap) ∧ w'.cell? ⟨g, j, none⟩ = some (.string m)) (go_keep)
            (first | (go_at_call 21; refine (hbt _ _ hwk).mono ?_; rintro e w2 ⟨rfl, hb2⟩; have q0 := (hb2.cell (p := ⟨b, 0, none⟩) (Nat.lt_of_lt_of_le hblt hbs)).trans d0; have q1 := (hb2.cell (p := ⟨gt, k, none⟩) (Nat.lt_of_lt_of_le hglt hbs)).trans c1; have q2 := (hb2.cell (p := ⟨g, j, none⟩) (Nat.lt_of_lt_of_le hgw hbs)).trans c2))
          all_goals
            have HW2 := hide0 (HWj.out.drew.trans (hb2.mono hbs))
            go_wp2
            go_roundw
            case rel => exact ⟨j + 1, by omega, by go_num, HW2⟩
            case measure => simp [intOf]; omega
        · have hji : (no : Int) ≤ (j : Int) := by omega
          go_wp2
          go_roundw
          case rel => exact ⟨k + 1, by omega, by go_num, HWj⟩
          case measure => simp [intOf]; omega
    · have hki : (xs.length : Int) ≤ (k : Int) := by omega
      go_wp2
      go_loopw [5] (fun i wx => i = .int .i64 0 ∧ Hid (Below w.heap.size w wx)) (fun _ _ => 0)
      case atStart => exact ⟨rfl, HW⟩
      case round =>
        obtain ⟨rfl, HWj⟩ := hrel
        clear d0 d1 df
        obtain ⟨d0, d1, df⟩ := book_cells (HB.out.keep HWj.out).blk
        go_wp2
        go_ret
        exact ⟨rfl, HWj.out⟩
end Go.Proofs.YtodlcnbknjldnaaGreatDoor
