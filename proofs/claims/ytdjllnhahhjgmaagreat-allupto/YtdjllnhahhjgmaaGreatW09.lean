/- Walks and plain facts, in the order in which they lean on one another. -/
import Derived.Test.YtdjllnhahhjgmaaGreatW08
import Derived.Test.YtdjllnhahhjgmaaGreatProg
import Derived.Conc.RwLib
import Derived.Conc.MuData
import Derived.Conc.MuLone
import Derived.KernelRfl
import Derived.Lib.AppendStr
import Derived.Lib.UnsafeStr
import Derived.Lib.FrozenHead
import Derived.WalkKit
import Derived.Test.YtdjllnhahhjgmaaGreatW03
import Derived.Test.YtdjllnhahhjgmaaGreatW04
import Derived.RangeFuncNested
import Derived.RangeFuncBound
import Derived.RangeFuncCalls
import Derived.RangeFuncLeaves
import Derived.Shelf.Abstract
import Derived.Shelf.RegionOpen
import Derived.OwnWalkIn
import Derived.TacticsInMore
import Derived.LoopNIn
import Derived.LoopIn
namespace Go.Proofs.YtdjllnhahhjgmaaGreat
open Go.RowKit Chron
set_option maxRecDepth 100000 in
theorem badEvent_any (n : Int) (r : Nat) (w : World) (hn : n = (r : Int)) (hr : r ≤ 500000000) :
    Calls Tryz.prog 20 #[.int .i64 n] w fun e w' => e = .returned (.agg (badV r).toArray) ∧ Below w.heap.size w w' := by
  subst hn
  go_enter Tryz.func20, Tryz.ntmps20
  go_wp2
  obtain ⟨c0, c1, c2, c3, c4, _⟩ := res_cells (heap_alloc_new w (.cells #[.int .i64 (-1000 - (r : Int)), .string ⟨#[]⟩, .int .i64 0, .string ⟨#[116, 104, 101, 32, 99, 97, 108, 108, 101, 114, 39, 115]⟩, .slice none 0 0] 38))
  refine bodyPost_ret (v := .agg #[.int .i64 (-1000 - (r : Int)), .string ⟨#[]⟩, .int .i64 0, .string callerB, .slice none 0 0]) (by simp [results, Tryz.results20, go_sem, c0, c1, c2, c3, c4, callerB]) rfl ⟨rfl, (Below.refl _ _).alloc (Nat.le_refl _) _⟩
theorem own_setG {w : World} {base g n cap i sz : Nat} {e : TypeId} {xs : List Value} {u : Value} (h : w.ownsRow base e sz (.slice (some ⟨g, 0, none⟩) n cap) n xs) :
    (w.setCell ⟨g, i, none⟩ u).ownsRow base e sz (.slice (some ⟨g, 0, none⟩) n cap) n (xs.set i u) := by
  obtain ⟨h1, ⟨h2, _⟩ | ⟨g', cap', cur, hv, a2, a3, a4, a5, a6, a7⟩⟩ := h
  · cases h2
  · cases hv
    refine ⟨by rw [List.length_set]; exact h1, .inr ⟨g, cap, cur.setIfInBounds i u, rfl, a2, ?_, a4, a5, by simpa using a6, ?_⟩⟩
    · rw [setCell_eq_setRow w g i cur e (0, 0) u a3, setRow_heap w g _ _ e (0, 0) a3]
    · rw [Array.toList_setIfInBounds, List.take_set, a7]
theorem set_five (P S : List Value) (x0 x1 x2 x3 x4 a0 a1 a2 a3 a4 : Value) {k : Nat} (hk : P.length = k) :
    (((((P ++ x0 :: x1 :: x2 :: x3 :: x4 :: S).set k a0).set (k + 1) a1).set (k + 2) a2).set (k + 3) a3).set (k + 4) a4 = P ++ a0 :: a1 :: a2 :: a3 :: a4 :: S := by
  subst hk
  simp
def mixG (its : List Item) (mc : List Value) (k : Nat) : List Value := reps k mc ++ fives (its.drop k)
theorem mixG_zero (its : List Item) (mc : List Value) : mixG its mc 0 = fives its := by simp [mixG, reps]
theorem mixG_end (its : List Item) (mc : List Value) {k : Nat} (h : k = its.length) : mixG its mc k = reps its.length mc := by subst h; simp [mixG, fives]
theorem mixG_step {its : List Item} {k : Nat} (h : k < its.length) (a0 a1 a2 a3 a4 : Value) :
    ((((((mixG its [a0, a1, a2, a3, a4] k).set (k * 5) a0).set (k * 5 + 1) a1).set (k * 5 + 2) a2).set (k * 5 + 3) a3).set (k * 5 + 4) a4) = mixG its [a0, a1, a2, a3, a4] (k + 1) := by
  have hd : its.drop k = its[k] :: its.drop (k + 1) := List.drop_eq_getElem_cons h
  have e1 : fives (its.drop k) = .int .i64 its[k].ev.kind :: .string its[k].ev.task :: .int .i64 its[k].ev.time :: .string its[k].ev.body :: .slice its[k].at' its[k].ev.tags.length its[k].cap :: fives (its.drop (k + 1)) := by
    rw [hd]; rfl
  rw [mixG, e1, set_five _ _ _ _ _ _ _ _ _ _ _ _ (by rw [reps_len]; rfl), mixG, ← reps_add, List.append_assoc]
  rfl
/- what is still to be kept: the events, and the tags of the last ones -/
structure Pend (b : Nat) (tv ev : Value) (xs ys : List Value) (w : World) (lv : Value) (its : List Item) (k : Nat) : Prop where
  row : w.ownsRow (b + 1) 38 5 lv its.length (fives its)
  tags : ∀ it ∈ its.drop k, w.ownsRow (b + 1) 9 1 it.tv it.ev.tags.length (it.ev.tags.map Value.string)
  apart : ∀ q ∈ tagBs (its.drop k), lv.ownBlock ≠ some q
  dist : (tagBs (its.drop k)).Nodup
  clrE : ∀ q, lv.ownBlock = some q → Clear b tv ev xs ys q
  clrT : ∀ q ∈ tagBs (its.drop k), Clear b tv ev xs ys q
theorem MadeO.pend {b : Nat} {tv ev : Value} {xs ys : List Value} {w : World} {lv : Value} {its : List Item} {N : Nat} (h : MadeO N w lv its) (hN : b + 1 ≤ N) (hc : ∀ q, N ≤ q → Clear b tv ev xs ys q) : Pend b tv ev xs ys w lv its 0 :=
  ⟨own_mono h.row hN, fun it hi => own_mono (h.tags it (by simpa using hi)) hN, by simpa using h.apart, by simpa using h.dist, fun q hq => hc q (h.row.lt _ hq).1, fun q hq => hc q (h.tag_lt (by simpa using hq)).1⟩
theorem Pend.next {b : Nat} {tv tv' ev : Value} {xs xs' ys : List Value} {w w' : World} {lv : Value} {its : List Item} {k : Nat} {it : Item} (h : Pend b tv ev xs ys w lv its k) (hk : k < its.length) (hit : its[k] = it)
    (hf : Far w w' [some b, tv.ownBlock, it.tv.ownBlock]) (hcl : ∀ q, q < w.heap.size → Clear b tv ev xs ys q → it.tv.ownBlock ≠ some q → Clear b tv' ev xs' ys q) : Pend b tv' ev xs' ys w' lv its (k + 1) := by
  have hd : its.drop k = it :: its.drop (k + 1) := by rw [← hit]; exact List.drop_eq_getElem_cons hk
  have hsub : ∀ q, q ∈ tagBs (its.drop (k + 1)) → q ∈ tagBs (its.drop k) ∧ it.tv.ownBlock ≠ some q := by
    intro q hq
    have hq2 : q ∈ tagBs (its.drop k) := by
      rw [tagBs_mem] at hq ⊢
      obtain ⟨x, hx, hb⟩ := hq
      exact ⟨x, by rw [hd]; exact List.mem_cons_of_mem _ hx, hb⟩
    refine ⟨hq2, fun e => ?_⟩
    have hdist := h.dist
    rw [hd] at hdist
    simp only [tagBs, List.filterMap_cons, e] at hdist
    exact (List.nodup_cons.1 hdist).1 hq
  have same : ∀ q, q < w.heap.size → Clear b tv ev xs ys q → it.tv.ownBlock ≠ some q → w'.heap[q]? = w.heap[q]? := by
    intro q hq hc hne
    refine hf.block q hq ?_
    intro r hr
    simp only [List.mem_cons, List.mem_nil_iff, or_false] at hr
    rcases hr with rfl | rfl | rfl
    · simp only [ne_eq, Option.some.injEq]; exact fun e => hc.1 e.symm
    · exact hc.2.1
    · exact hne
  have hlvne : ∀ q, lv.ownBlock = some q → it.tv.ownBlock ≠ some q := fun q hq e => h.apart q (by rw [tagBs_mem]; exact ⟨it, by rw [hd]; simp, e⟩) hq
  refine ⟨own_of_block h.row fun q hq => same q (h.row.lt _ hq).2 (h.clrE q hq) (hlvne q hq), fun x hx => ?_, fun q hq => h.apart q (hsub q hq).1, ?_, fun q hq => hcl q (h.row.lt _ hq).2 (h.clrE q hq) (hlvne q hq), fun q hq => ?_⟩
  · have hx2 : x ∈ its.drop k := by rw [hd]; exact List.mem_cons_of_mem _ hx
    refine own_of_block (h.tags x hx2) fun q hq => ?_
    have hm := hsub q (tagBs_mem.2 ⟨x, hx, hq⟩)
    exact same q ((h.tags x hx2).lt _ hq).2 (h.clrT q hm.1) hm.2
  · have hdist := h.dist
    rw [hd] at hdist
    simp only [tagBs, List.filterMap_cons] at hdist
    split at hdist
    · exact hdist
    · exact (List.nodup_cons.1 hdist).2
  · have hm := hsub q hq
    obtain ⟨x, hx, hb⟩ := tagBs_mem.1 hm.1
    exact hcl q ((h.tags x hx).lt _ hb).2 (h.clrT q hm.1) hm.2
theorem Far.under {w w' : World} {R : List (Option Nat)} {b : Nat} (h : Far w w' R) (hb : b ≤ w.heap.size) (hR : ∀ q, some q ∈ R → b ≤ q) : Below b w w' := h.below hb hR
theorem ev_cell {b : Nat} {w : World} {g n cap : Nat} {its : List Item} (h : w.ownsRow b 38 5 (.slice (some ⟨g, 0, none⟩) n cap) n (fives its)) {k : Nat} {it : Item} (hk : its[k]? = some it) : w.cell? ⟨g, k * 5 + 4, none⟩ = some it.tv := by
  obtain ⟨_, hc⟩ := own_cellsG h
  refine hc (k * 5 + 4) _ ?_
  rw [fives_at hk (by decide)]
  rfl
end Go.Proofs.YtdjllnhahhjgmaaGreat
namespace Go.Proofs.YtdjllnhahhjgmaaGreat
open Go.RowKit Chron
theorem infoEvs : (Tryz.prog.info? 33).map (fun i => (i.zero, i.size, i.bytes)) = some (some (.slice none 0 0), 1, 24) := by kernel_rfl
/- the box of the mark, beside what stands between the appends -/
structure KE (b : Nat) (pv mv tv ev : Value) (xs ys : List Value) (w wx : World) (l : Value) (n r M : Nat) (outs : List Value) (k : Nat) : Prop where
  kt : KT b pv mv tv ev xs ys w wx l 38 5 n (badV r) outs k
  box : wx.heap[M]? = some (.cells (badV r).toArray 38)
  ne : l.ownBlock ≠ some M
theorem KE.push {b : Nat} {pv mv tv ev : Value} {xs ys : List Value} {w wx wa : World} {l : Value} {n r M g cap k j : Nat} {outs : List Value} {o : Obj} (h : KE b pv mv tv ev xs ys w wx l n r M outs k) (hj : k ≤ j)
    (hnew : wa.ownsRow (b + 1) 38 5 (.slice (some ⟨g, 0, none⟩) (n + j) cap) (n + j) (reps n (badV r) ++ reps j (badV r))) (hold : wa.ownsRow (b + 1) 38 5 l n (reps n (badV r)))
    (hlay : Lay (wx.alloc o) wa l g (wx.alloc o).heap.size) : KE b pv mv tv ev xs ys w wa l n r M (outs ++ [.slice (some ⟨g, 0, none⟩) (n + j) cap]) j :=
  ⟨h.kt.push hj hnew hold hlay, (hlay.facts.2.2.block M (Array.getElem?_eq_some_iff.1 h.box).1 (by simp; exact h.ne)).trans h.box, h.ne⟩
theorem box_cells {w : World} {M r : Nat} {t : TypeId} (h : w.heap[M]? = some (.cells (badV r).toArray t)) :
    w.cell? ⟨M, 0, none⟩ = some (.int .i64 (-1000 - (r : Int))) ∧ w.cell? ⟨M, 1, none⟩ = some (.string ⟨#[]⟩) ∧ w.cell? ⟨M, 2, none⟩ = some (.int .i64 0) ∧ w.cell? ⟨M, 3, none⟩ = some (.string callerB) ∧ w.cell? ⟨M, 4, none⟩ = some (.slice none 0 0) ∧ ∀ o, w.frozen? ⟨M, o, none⟩ = false := res_cells h
theorem badV_one (r : Nat) : ∀ u ∈ badV r, u.oneCell' = true := by
  intro u hu
  simp only [badV, List.mem_cons, List.mem_nil_iff, or_false] at hu
  rcases hu with rfl | rfl | rfl | rfl | rfl <;> rfl
theorem reps_all {n r : Nat} : ∀ u ∈ reps n (badV r), u.oneCell' = true := by
  intro u hu
  simp only [reps, List.mem_flatten, List.mem_replicate] at hu
  obtain ⟨l, ⟨_, rfl⟩, hu⟩ := hu
  exact badV_one r u hu
theorem row_cells {w : World} {B g n cap k : Nat} {e : TypeId} {xs : List Value} (h : w.ownsRow B e 5 (.slice (some ⟨g, 0, none⟩) n cap) n xs) (hk : k < n) :
    (∃ x0 x1 x2 x3 x4, w.cell? ⟨g, k * 5, none⟩ = some x0 ∧ w.cell? ⟨g, k * 5 + 1, none⟩ = some x1 ∧ w.cell? ⟨g, k * 5 + 2, none⟩ = some x2 ∧ w.cell? ⟨g, k * 5 + 3, none⟩ = some x3 ∧ w.cell? ⟨g, k * 5 + 4, none⟩ = some x4) ∧ ∀ o, w.frozen? ⟨g, o, none⟩ = false := by
  obtain ⟨h1, ⟨h2, _⟩ | ⟨g', cap', cur, hv, a2, a3, a4, a5, a6, a7⟩⟩ := h
  · cases h2
  · cases hv
    have hs : (k + 1) * 5 ≤ cap * 5 := Nat.mul_le_mul_right _ (by omega)
    refine ⟨⟨cur[k * 5]'(by omega), cur[k * 5 + 1]'(by omega), cur[k * 5 + 2]'(by omega), cur[k * 5 + 3]'(by omega), cur[k * 5 + 4]'(by omega), ?_⟩, fun o => by simp [World.frozen?, a3]⟩
    refine ⟨?_, ?_, ?_, ?_, ?_⟩ <;> (simp only [World.cell?, a3]; simp)
theorem badV_arr (r : Nat) : (badV r).toArray = #[.int .i64 (-1000 - (r : Int)), .string ⟨#[]⟩, .int .i64 0, .string callerB, .slice none 0 0] := rfl
set_option maxRecDepth 100000 in
set_option maxHeartbeats 4000000 in
theorem keep_any (b r r2 : Nat) (pv mv tv ev : Value) (xs ys : List Value) (lv : Value) (its : List Item) (w : World) (HB : Hid (Book2 b pv mv tv ev xs ys w)) (HP : Hid (Pend b tv ev xs ys w lv its 0))
    (h200 : its.length ≤ 200) (H4 : Hid (∀ it ∈ its, it.ev.tags.length ≤ 4)) (HX : Hid (xs.length = 4 * r ∧ r + its.length ≤ 500000000)) (HY : Hid (ys.length = 4 * r2 ∧ r2 ≤ 500000000)) :
    Calls Tryz.prog 22 #[.pointer (some ⟨b, 1, none⟩), lv] w fun e w' => e = .returned (.tuple #[]) ∧ ∃ tv' ev' xs' ys', Hid (Book2 b pv mv tv' ev' xs' ys' w') ∧ Hid (xs'.length = 4 * (r + its.length) ∧ ys'.length = 4 * (r2 + 1)) ∧ Below b w w' ∧ Hid (∀ q, q < w.heap.size → Clear b tv ev xs ys q → lv.ownBlock ≠ some q → q ∉ tagBs its → w'.heap[q]? = w.heap[q]? ∧ Clear b tv' ev' xs' ys' q) := by
  obtain ⟨i0, hi, hz0, hz1, hz2⟩ := info_parts infoEvent5
  obtain ⟨i1, hi1, hy0, hy1, hy2⟩ := info_parts infoEvs
  obtain ⟨la, lc, rfl, hla⟩ := own_shape HP.out.row
  have HLA := hide0 hla
  clear hla
  go_enter Tryz.func22, Tryz.ntmps22
  go_wp2_with fail
  go_loopw [4] (fun iv wx => ∃ (k : Nat) (tvk : Value) (xsk : List Value), k ≤ its.length ∧ iv = .int .i64 k ∧ Hid (xsk.length = 4 * (r + k)) ∧ Hid (Book2 b pv mv tvk ev xsk ys wx) ∧ Hid (Pend b tvk ev xsk ys wx (.slice la its.length lc) its k) ∧ Hid (Below b w wx) ∧ Hid (∀ q, q < w.heap.size → Clear b tv ev xs ys q → (Value.slice la its.length lc).ownBlock ≠ some q → q ∉ tagBs its → wx.heap[q]? = w.heap[q]? ∧ Clear b tvk ev xsk ys q)) (fun iv _ => its.length - (intOf iv).toNat)
  case atStart => exact ⟨0, tv, xs, Nat.zero_le _, rfl, HX.out.1, HB, HP, Below.refl _ _, fun q _ h _ _ => ⟨rfl, h⟩⟩
  case round =>
    obtain ⟨k, tvk, xsk, hk, rfl, HXk, HBk, HPk, HWk, HQk⟩ := hrel
    by_cases hlt : k < its.length
    · obtain ⟨g, rfl⟩ := HLA.out (by omega)
      have hget : its[k]? = some its[k] := List.getElem?_eq_getElem hlt
      have hmem : its[k] ∈ its.drop k := by rw [List.drop_eq_getElem_cons hlt]; exact List.mem_cons_self
      have HMEM := hide0 hmem
      have hc := ev_cell HPk.out.row hget
      have h4k := H4.out its[k] (List.getElem_mem hlt)
      have hto := HPk.out.tags its[k] HMEM.out
      have HCk : Hid (∀ q, its[k].tv.ownBlock = some q → Clear b tvk ev xsk ys q) := fun q hq => HPk.out.clrT q (tagBs_mem.2 ⟨its[k], HMEM.out, hq⟩)
      have HNX := fun (tv' : Value) (xs' : List Value) (w' : World) => HPk.out.next (tv' := tv') (xs' := xs') (w' := w') hlt rfl
      have HNEXT := hide0 HNX
      have HBND : Hid (∀ q, some q ∈ [some b, tvk.ownBlock, its[k].tv.ownBlock] → b ≤ q) := by
        intro q hq
        simp only [List.mem_cons, List.mem_nil_iff, or_false, Option.some.injEq] at hq
        rcases hq with rfl | hq | hq
        · omega
        · have := (HBk.out.tags.lt q hq.symm).1; omega
        · have := (hto.lt q hq.symm).1; omega
      have hblt := HBk.out.lt
      have HTO := hide0 hto
      have HIT : Hid (∀ q, q ∉ tagBs its → its[k].tv.ownBlock ≠ some q) := fun q hq e => hq (tagBs_mem.2 ⟨its[k], List.getElem_mem hlt, e⟩)
      have HKT := fun (X : World) => keepTags2_any b (r + k) pv mv tvk ev xsk ys its[k].tv its[k].ev.tags wr HBk HTO HCk h4k ⟨HXk.out, by have := HX.out; omega⟩
      have hK := HKT wr
      clear hget hto HNX HKT hmem HMEM
      generalize its[k].tv = itv at hc hK HNEXT HBND HIT
      clear HCk HTO h4k
      go_wp2_with fail
      refine hK.mono ?_
      rintro e w2 ⟨rfl, tv', xs', HB2, HX2, HF2, HC2⟩
      have HP2 := hide0 (HNEXT.out tv' xs' w2 HF2.out HC2.out)
      have HW2 := hide0 (HWk.out.trans (HF2.out.under (by omega) HBND.out))
      have HQ2 : Hid (∀ q, q < w.heap.size → Clear b tv ev xs ys q → (Value.slice (some ⟨g, 0, none⟩) its.length lc).ownBlock ≠ some q → q ∉ tagBs its → w2.heap[q]? = w.heap[q]? ∧ Clear b tv' ev xs' ys q) := fun q h1 h2 h3 h4 => by
        obtain ⟨e1, e2⟩ := HQk.out q h1 h2 h3 h4
        have hsz := HWk.out.size
        have hit := HIT.out q h4
        refine ⟨(HF2.out.block q (by omega) (fun r hr e => ?_)).trans e1, HC2.out q (by omega) e2 hit⟩
        simp only [List.mem_cons, List.mem_nil_iff, or_false] at hr
        rcases hr with rfl | rfl | rfl
        · exact e2.1 (Option.some.inj e).symm
        · exact e2.2.1 e
        · exact hit e
      clear hc hK
      go_wp2
      go_roundw
      case rel => exact ⟨k + 1, tv', xs', by omega, by go_num, HX2, HB2, HP2, HW2, HQ2⟩
      case measure => simp [intOf]; omega
    · have hkn : k = its.length := by omega
      subst hkn
      obtain ⟨ea, ec, hev, hec, _, _⟩ := row_at HBk.out.evts
      subst hev
      obtain ⟨d0, d1, df⟩ := book_cells4 HBk.out.blk
      have hys : ys.length ≤ 2000000000 := by have := HY.out; omega
      have hrr := HY.out.1
      have hr2 := HY.out.2
      have hdiv : ((ys.length : Int) / 4) = (r2 : Int) := by omega
      have hBE := badEvent_any ((ys.length : Int) / 4) r2 wr hdiv hr2
      clear hdiv hrr hr2
      go_wp2_with fail
      refine hBE.mono ?_
      rintro e w2 ⟨rfl, hb2⟩
      rw [badV_arr]
      have hs2 := hb2.size
      have HB3 : Hid (Book2 b pv mv tvk (.slice ea ys.length ec) xsk ys (w2.alloc (.cells #[.int .i64 (-1000 - (r2 : Int)), .string ⟨#[]⟩, .int .i64 0, .string callerB, .slice none 0 0] 38))) := (HBk.out.below hb2).below ((Below.refl _ _).alloc (Nat.le_refl _) _)
      have HO3 : Hid ((w2.alloc (.cells #[.int .i64 (-1000 - (r2 : Int)), .string ⟨#[]⟩, .int .i64 0, .string callerB, .slice none 0 0] 38)).ownsRow (b + 1) 38 5 (.slice la its.length lc) its.length (fives its)) := (own_below HPk.out.row hb2).alloc _
      have HCE := hide0 HPk.out.clrE
      have HBX : Hid ((w2.alloc (.cells #[.int .i64 (-1000 - (r2 : Int)), .string ⟨#[]⟩, .int .i64 0, .string callerB, .slice none 0 0] 38)).heap[w2.heap.size]? = some (.cells (badV r2).toArray 38)) := heap_alloc_new _ _
      have HNM : Hid ((Value.slice la its.length lc).ownBlock ≠ some w2.heap.size) := fun e => by have := (HPk.out.row.lt _ e).2; omega
      have HW3 : Hid (Below b w (w2.alloc (.cells #[.int .i64 (-1000 - (r2 : Int)), .string ⟨#[]⟩, .int .i64 0, .string callerB, .slice none 0 0] 38))) := (HWk.out.trans (hb2.mono (by have := HBk.out.lt; omega))).alloc (by have := HBk.out.lt; omega) _
      have HQ3 : Hid (∀ q, q < w.heap.size → Clear b tv (.slice ea ys.length ec) xs ys q → (Value.slice la its.length lc).ownBlock ≠ some q → q ∉ tagBs its → (w2.alloc (.cells #[.int .i64 (-1000 - (r2 : Int)), .string ⟨#[]⟩, .int .i64 0, .string callerB, .slice none 0 0] 38)).heap[q]? = w.heap[q]? ∧ Clear b tvk (.slice ea ys.length ec) xsk ys q ∧ q < (w2.alloc (.cells #[.int .i64 (-1000 - (r2 : Int)), .string ⟨#[]⟩, .int .i64 0, .string callerB, .slice none 0 0] 38)).heap.size) := fun q h1 h2 h3 h4 => by
        obtain ⟨e1, e2⟩ := HQk.out q h1 h2 h3 h4
        have hsz := HWk.out.size
        exact ⟨(Below.heap_alloc _ _ _ (by omega)).trans ((hb2.block q (by omega)).trans e1), e2, by rw [World.size_alloc]; omega⟩
      clear hb2 HBk HPk HB HP HWk d0 d1 df hBE HQk
      obtain ⟨w3, hw3⟩ : ∃ w3, w3 = w2.alloc (.cells #[.int .i64 (-1000 - (r2 : Int)), .string ⟨#[]⟩, .int .i64 0, .string callerB, .slice none 0 0] 38) := ⟨_, rfl⟩
      go_wp2_with fail
      rw [← hw3] at HB3 HO3 HBX HW3 HQ3 ⊢
      clear hw3
      go_loopw [6] (fun iv wx => ∃ k : Nat, k ≤ its.length ∧ iv = .int .i64 k ∧ Hid (wx.ownsRow (b + 1) 38 5 (.slice la its.length lc) its.length (mixG its (badV r2) k)) ∧ Hid (Far w3 wx [(Value.slice la its.length lc).ownBlock])) (fun iv _ => its.length - (intOf iv).toNat)
      case atStart => exact ⟨0, Nat.zero_le _, rfl, by rw [mixG_zero]; exact HO3, Far.refl _ _⟩
      case round =>
        obtain ⟨k, hk, rfl, HOk, HFk⟩ := hrel
        have HBXk : Hid (wr.heap[w2.heap.size]? = some (.cells (badV r2).toArray 38)) := (HFk.out.block _ (Array.getElem?_eq_some_iff.1 HBX.out).1 (by simp; exact HNM.out)).trans HBX.out
        obtain ⟨m0, m1, m2, m3, m4, mf⟩ := box_cells HBXk.out
        by_cases hlt : k < its.length
        · obtain ⟨g, rfl⟩ := HLA.out (by omega)
          obtain ⟨⟨x0, x1, x2, x3, x4, c0, c1, c2, c3, c4⟩, cf⟩ := row_cells HOk.out hlt
          have hne : ¬ g = w2.heap.size := fun e => HNM.out (by rw [← e]; rfl)
          have HS := hide0 (own_setG (i := k * 5 + 4) (u := .slice none 0 0) (own_setG (i := k * 5 + 3) (u := .string callerB) (own_setG (i := k * 5 + 2) (u := .int .i64 0) (own_setG (i := k * 5 + 1) (u := .string ⟨#[]⟩) (own_setG (i := k * 5) (u := .int .i64 (-1000 - (r2 : Int))) HOk.out)))))
          have hms := mixG_step hlt (.int .i64 (-1000 - (r2 : Int))) (.string ⟨#[]⟩) (.int .i64 0) (.string callerB) (.slice none 0 0)
          rw [show mixG its (badV r2) k = mixG its [.int .i64 (-1000 - (r2 : Int)), .string ⟨#[]⟩, .int .i64 0, .string callerB, .slice none 0 0] k from rfl, hms] at HS
          have HSF := hide0 (((((HFk.out.setCell (p := ⟨g, k * 5, none⟩) (.inl (by simp [Value.ownBlock])) (.int .i64 (-1000 - (r2 : Int)))).setCell (p := ⟨g, k * 5 + 1, none⟩) (.inl (by simp [Value.ownBlock])) (.string ⟨#[]⟩)).setCell (p := ⟨g, k * 5 + 2, none⟩) (.inl (by simp [Value.ownBlock])) (.int .i64 0)).setCell (p := ⟨g, k * 5 + 3, none⟩) (.inl (by simp [Value.ownBlock])) (.string callerB)).setCell (p := ⟨g, k * 5 + 4, none⟩) (.inl (by simp [Value.ownBlock])) (.slice none 0 0))
          clear hms
          go_wp2
          go_roundw
          case rel => exact ⟨k + 1, by omega, by go_num, HS, HSF⟩
          case measure => simp [intOf]; omega
        · have hkn : k = its.length := by omega
          have HOn := hide0 HOk.out
          rw [mixG_end its (badV r2) hkn] at HOn
          have HK0 : Hid (KE b pv mv tvk (.slice ea ys.length ec) xsk ys w3 wr (.slice la its.length lc) its.length r2 w2.heap.size [] 0) := ⟨⟨⟨HOn.out, fun o ho => by cases ho⟩, HB3.out.far HFk.out (fun q hq _ => HCE.out q (by simpa using (List.mem_singleton.1 hq).symm)), HFk.out, (fun o ho => by cases ho), HCE.out, ⟨fun q hq => (HB3.out.tags.lt q hq).2, fun q hq => (HB3.out.evts.lt q hq).2⟩⟩, HBXk.out, HNM.out⟩
          have HFB : Hid (∀ q, some q ∈ [some b, (Value.slice ea ys.length ec).ownBlock, (Value.slice la its.length lc).ownBlock] → b ≤ q) := by
            intro q hq
            simp only [List.mem_cons, List.mem_nil_iff, or_false, Option.some.injEq] at hq
            rcases hq with rfl | hq | hq
            · omega
            · have := (HB3.out.evts.lt q hq.symm).1; omega
            · have := (HO3.out.lt q hq.symm).1; omega
          have hblt := HB3.out.lt
          clear HOn HOk HFk HB3 HO3 HBX HBXk hkn HNM
          have hmx : ∀ j, j ≤ 3 → its.length + j ≤ maxLen := fun j hj => by unfold maxLen; omega
          have hby : ∀ j, j ≤ 3 → (its.length + j) * 72 ≤ 140737488355328 := fun j hj => by omega
          have hxm : ys.length + 4 ≤ maxLen := by unfold maxLen; omega
          have hxb : (ys.length + 4) * 24 ≤ 140737488355328 := by omega
          go_wp2_with (first
            | (have hz := HK3; clear hz; at_builtin; go_must (refine wpList_append_keptG _ rfl _ _ 28 rfl (b + 1) 33 i1 (.slice none 0 0) 1 24 Tryz.underlying28 hi1 hy0 hy1 hy2 rfl Nat.one_pos (.slice ea ys.length ec) ys.length ys rfl (HK3.out.kt.bk.evts.alloc _) ⟨_, 0, none⟩ 4 4 [.slice la its.length lc, .slice (some ⟨g1, 0, none⟩) (its.length + 1) cg1, .slice (some ⟨g2, 0, none⟩) (its.length + 2) cg2, .slice (some ⟨g3, 0, none⟩) (its.length + 3) cg3] rfl rfl news_of slices_one (by omega) hxm hxb (le_alloc2 HK3.out.kt.bk.lt) ?_)
               intro g4 cg4 w4 hn4 ho4 hl4
               obtain ⟨hblk, HBK, hfar4⟩ := HK3.out.kt.bk.pushE HY.out.1 rfl (HK3.out.kt.entries (by omega)) hn4 hl4
               have HFar := hide0 (far_cons HK3.out.kt.far hfar4)
               have HBook := hide0 HBK
               have HCLR : Hid (∀ q, q < w3.heap.size → Clear b tvk (.slice ea ys.length ec) xsk ys q → (Value.slice la its.length lc).ownBlock ≠ some q → Clear b tvk (.slice (some ⟨g4, 0, none⟩) (ys.length + 4) cg4) xsk (ys ++ [.slice la its.length lc, .slice (some ⟨g1, 0, none⟩) (its.length + 1) cg1, .slice (some ⟨g2, 0, none⟩) (its.length + 2) cg2, .slice (some ⟨g3, 0, none⟩) (its.length + 3) cg3]) q) := fun q h1 h2 h3 => pushE_clear hl4 (by have := HK3.out.kt.far.size; omega) h2 (HK3.out.kt.apart h1 h3)
               obtain ⟨e0, e1, ef⟩ := book_cells4 hblk
               clear hn4 ho4 hl4 HBK hfar4 hblk HK3 d0 d1 df)
            | (have hz := HK2; clear hz; at_builtin; go_must (refine wpList_append_keptG _ rfl _ _ 33 rfl (b + 1) 38 i0 (.agg #[.int .i64 0, .string ⟨#[]⟩, .int .i64 0, .string ⟨#[]⟩, .slice none 0 0]) 5 72 Tryz.underlying33 hi hz0 hz1 hz2 rfl (by decide) (.slice la its.length lc) its.length (reps its.length (badV r2)) rfl (HK2.out.kt.mks.own.alloc _) ⟨_, 0, none⟩ 3 3 (reps 3 (badV r2)) rfl rfl news_of reps_all (by omega) (hmx 3 (by omega)) (hby 3 (by omega)) (le_alloc2 HK2.out.kt.bk.lt) ?_)
               intro g3 cg3 wg3 hng3 hog3 hlg3
               have HK3 := hide0 (HK2.out.push (j := 3) (by omega) hng3 hog3 hlg3)
               clear m0 m1 m2 m3 m4 mf
               obtain ⟨d0, d1, df⟩ := book_cells4 HK3.out.kt.bk.blk
               clear hng3 hog3 hlg3 HK2)
            | (have hz := HK1; clear hz; at_builtin; go_must (refine wpList_append_keptG _ rfl _ _ 33 rfl (b + 1) 38 i0 (.agg #[.int .i64 0, .string ⟨#[]⟩, .int .i64 0, .string ⟨#[]⟩, .slice none 0 0]) 5 72 Tryz.underlying33 hi hz0 hz1 hz2 rfl (by decide) (.slice la its.length lc) its.length (reps its.length (badV r2)) rfl (HK1.out.kt.mks.own.alloc _) ⟨_, 0, none⟩ 2 2 (reps 2 (badV r2)) rfl rfl news_of reps_all (by omega) (hmx 2 (by omega)) (hby 2 (by omega)) (le_alloc2 HK1.out.kt.bk.lt) ?_)
               intro g2 cg2 wg2 hng2 hog2 hlg2
               have HK2 := hide0 (HK1.out.push (j := 2) (by omega) hng2 hog2 hlg2)
               clear m0 m1 m2 m3 m4 mf
               obtain ⟨m0, m1, m2, m3, m4, mf⟩ := box_cells HK2.out.box
               clear hng2 hog2 hlg2 HK1)
            | (have hz := HK0; clear hz; at_builtin; go_must (refine wpList_append_keptG _ rfl _ _ 33 rfl (b + 1) 38 i0 (.agg #[.int .i64 0, .string ⟨#[]⟩, .int .i64 0, .string ⟨#[]⟩, .slice none 0 0]) 5 72 Tryz.underlying33 hi hz0 hz1 hz2 rfl (by decide) (.slice la its.length lc) its.length (reps its.length (badV r2)) rfl (HK0.out.kt.mks.own.alloc _) ⟨_, 0, none⟩ 1 1 (reps 1 (badV r2)) rfl rfl news_of reps_all (by omega) (hmx 1 (by omega)) (hby 1 (by omega)) (le_alloc2 HK0.out.kt.bk.lt) ?_)
               intro g1 cg1 wg1 hng1 hog1 hlg1
               have HK1 := hide0 (HK0.out.push (j := 1) (by omega) hng1 hog1 hlg1)
               clear m0 m1 m2 m3 m4 mf
               obtain ⟨m0, m1, m2, m3, m4, mf⟩ := box_cells HK1.out.box
               clear hng1 hog1 hlg1 HK0))
          go_end0
          exact ⟨rfl, _, _, _, _, HBook, ⟨HXk.out, by have := HY.out; simp; omega⟩, HW3.out.trans (HFar.out.under (by omega) HFB.out), hide0 (fun q h1 h2 h3 h4 => by
            obtain ⟨e1, e2, e3⟩ := HQ3.out q h1 h2 h3 h4
            refine ⟨(HFar.out.block q e3 (fun r hr e => ?_)).trans e1, HCLR.out q e3 e2 h3⟩
            simp only [List.mem_cons, List.mem_nil_iff, or_false] at hr
            rcases hr with rfl | rfl | rfl
            · exact e2.1 (Option.some.inj e).symm
            · exact e2.2.2.1 e
            · exact h3 e)⟩
end Go.Proofs.YtdjllnhahhjgmaaGreat
namespace Go.Proofs
abbrev Tryz.muLink : Go.Conc.Locks.MuLink := { lock := 37, unlock := 38, ilock := 50, iunlock := 51, lockSlow := 68, unlockSlow := 71, disable := 64, enable := 66, acquire := 67, relMerge := 69, cas32 := 65, add32 := 70, tMutex := 85, tIMutex := 83, tPMutex := 96, tPIMutex := 109, tPI32 := 111, tUP := 113, tNoCopy := 80, tU32 := 81 }
theorem Tryz.muLib : Go.Conc.Locks.MuLib Tryz.prog Tryz.muLink :=
  ⟨Tryz.func37, Tryz.func38, Tryz.func50, Tryz.func51, Tryz.func64, Tryz.func66, Tryz.func67, Tryz.func69, Tryz.func65, Tryz.func70,
    Tryz.underlying83, Tryz.runUnderlying83, Tryz.sizeOf83, Tryz.isAgg83, Tryz.zeroValue83,
    Tryz.underlying85, Tryz.runUnderlying85, Tryz.sizeOf85, Tryz.isAgg85, Tryz.zeroValue85,
    Tryz.underlying96, Tryz.runUnderlying96, Tryz.sizeOf96, Tryz.isAgg96, Tryz.zeroValue96,
    Tryz.underlying109, Tryz.runUnderlying109, Tryz.sizeOf109, Tryz.isAgg109, Tryz.zeroValue109,
    Tryz.underlying111, Tryz.runUnderlying111, Tryz.sizeOf111, Tryz.isAgg111, Tryz.zeroValue111,
    Tryz.underlying113, Tryz.runUnderlying113, Tryz.sizeOf113, Tryz.isAgg113, Tryz.zeroValue113,
    Tryz.underlying80, Tryz.runUnderlying80, Tryz.sizeOf80, Tryz.isAgg80, Tryz.zeroValue80,
    Tryz.underlying21, Tryz.runUnderlying21, Tryz.sizeOf21, Tryz.isAgg21, Tryz.zeroValue21, (by kernel_rfl)⟩
end Go.Proofs
namespace Go.Proofs.YtdjllnhahhjgmaaGreat
open Go.RowKit Go.Lib
/- a row of bytes that is owned; what is frozen of its block, if anything, lies behind it -/
def OwnB (w : World) (base : Nat) (e : TypeId) (v : Value) (n : Nat) (xs : List Value) : Prop :=
  xs.length = n ∧ ((v = .slice none 0 0 ∧ n = 0) ∨
    ∃ g cap cur fz, v = .slice (some ⟨g, 0, none⟩) n cap ∧ base ≤ g ∧ w.heap[g]? = some (.cells cur e fz) ∧ (∀ o, o < cur.size → ¬ (fz.1 ≤ o ∧ o < fz.2)) ∧ n ≤ cap ∧ cap ≤ maxLen ∧ cur.size = cap ∧ cur.toList.take n = xs)
theorem OwnB.of {w : World} {base : Nat} {e : TypeId} {v : Value} {n : Nat} {xs : List Value} (h : w.ownsRow base e 1 v n xs) : OwnB w base e v n xs := by
  refine ⟨by simpa using h.1, ?_⟩
  rcases h.2 with hn | ⟨g, cap, cur, hv, hb, hg, h1, h2, h3, h4⟩
  · exact .inl hn
  · exact .inr ⟨g, cap, cur, (0, 0), hv, hb, hg, fun o _ h => by simp at h, h1, h2, by simpa using h3, by simpa using h4⟩
theorem OwnB.lt {w : World} {base : Nat} {e : TypeId} {v : Value} {n : Nat} {xs : List Value} (h : OwnB w base e v n xs) : ∀ q, v.ownBlock = some q → base ≤ q ∧ q < w.heap.size := by
  intro q hq
  rcases h.2 with ⟨rfl, _⟩ | ⟨g, cap, cur, fz, rfl, hb, hg, _⟩
  · simp [Value.ownBlock] at hq
  · simp only [Value.ownBlock, Option.some.injEq] at hq
    subst hq
    exact ⟨hb, (Array.getElem?_eq_some_iff.1 hg).1⟩
theorem OwnB.block {w w' : World} {base : Nat} {e : TypeId} {v : Value} {n : Nat} {xs : List Value} (h : OwnB w base e v n xs) (hb : ∀ q, v.ownBlock = some q → w'.heap[q]? = w.heap[q]?) : OwnB w' base e v n xs := by
  refine ⟨h.1, ?_⟩
  rcases h.2 with hn | ⟨g, cap, cur, fz, hv, h1, hg, h2⟩
  · exact .inl hn
  · exact .inr ⟨g, cap, cur, fz, hv, h1, (hb g (by rw [hv]; rfl)).trans hg, h2⟩
theorem OwnB.mono {w : World} {base M : Nat} {e : TypeId} {v : Value} {n : Nat} {xs : List Value} (h : OwnB w base e v n xs) (hM : M ≤ base) : OwnB w M e v n xs := by
  refine ⟨h.1, ?_⟩
  rcases h.2 with hn | ⟨g, cap, cur, fz, hv, h1, h2⟩
  · exact .inl hn
  · exact .inr ⟨g, cap, cur, fz, hv, Nat.le_trans hM h1, h2⟩
theorem OwnB.shape {w : World} {base : Nat} {e : TypeId} {v : Value} {n : Nat} {xs : List Value} (h : OwnB w base e v n xs) : ∃ a c, v = .slice a n c ∧ n ≤ c := by
  rcases h.2 with ⟨hv, h0⟩ | ⟨g, cap, cur, fz, hv, _, _, _, h1, _⟩
  · exact ⟨none, 0, by rw [hv, h0], by omega⟩
  · exact ⟨_, cap, hv, h1⟩
theorem OwnB.cells {w : World} {base : Nat} {e : TypeId} {v : Value} {n : Nat} {xs : List Value} (h : OwnB w base e v n xs) {g : Nat} (hg : v.ownBlock = some g) : ∀ j u, xs[j]? = some u → w.cell? ((⟨g, 0, none⟩ : Addr).add j) = some u := by
  intro j u hu
  rcases h.2 with ⟨rfl, _⟩ | ⟨q, cap, cur, fz, rfl, _, hq, _, _, _, _, ht⟩
  · simp [Value.ownBlock] at hg
  · simp only [Value.ownBlock, Option.some.injEq] at hg
    subst hg
    have hadd : (⟨q, 0, none⟩ : Addr).add j = ⟨q, j, none⟩ := by unfold Addr.add; split <;> simp_all
    rw [hadd, cell_of_row w q j cur e fz hq]
    rw [← ht, List.getElem?_take] at hu
    split at hu
    · simpa using hu
    · cases hu
/- values written one behind the other into such a row -/
theorem stores_free (P : Program) (g o : Nat) (t : TypeId) (fz : Nat × Nat) (vs : List Value) : ∀ (i : Nat) (cur : Array Value) (w : World), w.heap[g]? = some (.cells cur t fz) → (∀ k, k < cur.size → ¬ (fz.1 ≤ k ∧ k < fz.2)) → o + i + vs.length ≤ cur.size → (∀ v ∈ vs, v.oneCell' = true) →
    (storeCells ⟨g, o, none⟩ vs i).run P w = .ok () (w.setRow g (cur.toList.take (o + i) ++ vs ++ cur.toList.drop (o + i + vs.length)).toArray) := by
  induction vs with
  | nil =>
    intro i cur w hg _ _ _
    have : (cur.toList.take (o + i) ++ [] ++ cur.toList.drop (o + i + ([] : List Value).length)).toArray = cur := by simp
    rw [this, setRow_self w g cur t fz hg]
    rfl
  | cons v rest ih =>
    intro i cur w hg hz hl h1
    have hi : o + i < cur.size := by simp at hl; omega
    have hadd : (⟨g, o, none⟩ : Addr).add i = ⟨g, o + i, none⟩ := by unfold Addr.add; split <;> simp_all
    have hcell : w.cell? ⟨g, o + i, none⟩ = some cur[o + i] := by simp [World.cell?, hg, hi]
    have hfro : w.frozen? ⟨g, o + i, none⟩ = false := by
      have hn := hz (o + i) hi
      obtain ⟨lo, up⟩ := fz
      simp only at hn
      simp only [World.frozen?, hg, Bool.and_eq_false_iff, decide_eq_false_iff_not]
      omega
    have hst : (store ((⟨g, o, none⟩ : Addr).add i) v).run P w = .ok () (w.setRow g (cur.setIfInBounds (o + i) v)) := by
      rw [hadd, run_store P w _ v _ (h1 v (by simp)), hcell]
      simp [hfro, setCell_eq_setRow w g (o + i) cur t fz v hg]
    have hnext := ih (i + 1) (cur.setIfInBounds (o + i) v) (w.setRow g (cur.setIfInBounds (o + i) v)) (setRow_heap w g cur _ t _ hg) (fun k hk => hz k (by simpa using hk)) (by simp at hl ⊢; omega) (fun x hx => h1 x (by simp [hx]))
    simp only [storeCells, Sem.run_bind, hst, Result.andThen_ok, hnext, setRow_setRow]
    congr 3
    simpa [Array.toList_setIfInBounds, Nat.add_assoc] using list_seg_step cur.toList (o + i) v rest (by simp at hl ⊢; omega)
theorem run_append_str {P : Program} (w : World) (base : Nat) (t u ty e : TypeId) (i : TypeInfo) (ht : P.underlying t = some (.slice e)) (hu : P.underlying u = some .string) (hi : P.info? e = some i) (hz : i.zero = some (.int .u8 0))
    (hsize : i.size = 1) (hby : i.bytes = 1) (v : Value) (n : Nat) (xs : List Value) (hown : OwnB w base e v n xs) (s : ByteArray) (h63 : n + s.size ≤ maxLen) (hbytes : n + s.size ≤ 140737488355328) (hbase : base ≤ w.heap.size) :
    ∃ v' w', (Builtin.append_ #[t, u] ty #[v, .string s]).run P w = .ok v' w' ∧ OwnB w' base e v' (n + s.size) (xs ++ strCells s) ∧ w.grownBy w' v.ownBlock ∧ (v'.ownBlock = v.ownBlock ∨ v'.ownBlock = some w.heap.size) := by
  have hsmall : n + s.size ≤ 9223372036854775807 := by simp only [maxLen] at h63; omega
  have hxl : xs.length = n := hown.1
  have hlen : (xs ++ strCells s).length = n + s.size := by rw [List.length_append, hxl, strCells_length]
  rcases hown.2 with ⟨rfl, rfl⟩ | ⟨g, cap, cur, fz, rfl, hbg, hg, hfz, hnc, hcm, hcs, htake⟩
  · obtain ⟨v', w', hr, h2, h3, h4⟩ := run_append_own_string (P := P) w base t u ty e i ht hu hi hz hsize hby (.slice none 0 0) 0 xs ⟨by simpa using hxl, .inl ⟨rfl, rfl⟩⟩ s h63 hbytes hbase
    refine ⟨v', w', hr, .of h2, h3, ?_⟩
    by_cases hm : s.size = 0
    · exact .inl (by rw [h4.2 ⟨rfl, hm⟩])
    · have := run_append_nil_string (P := P) w t u ty e i (.int .u8 0) ht hu hi hz s (by omega) (by omega) (by rw [hby]; omega)
      rw [hr] at this
      simp only [Result.ok.injEq] at this
      exact .inr (by rw [this.1]; rfl)
  · by_cases hroom : n + s.size ≤ cap
    · have hf := run_firstCells_string (P := P) w 1 s
      have hst := stores_free P g n e fz (strCells s) 0 cur w hg hfz (by simp only [strCells_length]; omega) (strCells_oneCell s)
      simp only [Nat.add_zero, strCells_length] at hst
      have hr : (Builtin.append_ #[t, u] ty #[.slice (some ⟨g, 0, none⟩) n cap, .string s]).run P w = .ok (.slice (some ⟨g, 0, none⟩) (n + s.size) cap) (w.setRow g (cur.toList.take n ++ strCells s ++ cur.toList.drop (n + s.size)).toArray) := by
        simp [Builtin.append_, run_underlying ht, run_underlying hu, sizeOf, typeInfo, hi, hsize, Builtin.lenOf, hroom, hf, Addr.add_lit, hst]
      have hsz : (cur.toList.take n ++ strCells s ++ cur.toList.drop (n + s.size)).toArray.size = cur.size := by
        simp only [List.size_toArray, List.length_append, List.length_take, List.length_drop, Array.length_toList, strCells_length]
        omega
      refine ⟨_, _, hr, ⟨hlen, .inr ⟨g, cap, _, fz, rfl, hbg, setRow_heap w g cur _ e _ hg, fun o ho => hfz o (by rw [hsz] at ho; exact ho), hroom, hcm, by rw [hsz]; exact hcs, ?_⟩⟩, ⟨rfl, rfl, rfl, by simp, fun k _ hk => setRow_other w g k _ (fun e => hk (by simp [Value.ownBlock, e]))⟩, .inl rfl⟩
      rw [htake, ← hlen]
      exact List.take_left
    · have holds : ∀ j u, xs[j]? = some u → w.cell? ((⟨g, 0, none⟩ : Addr).add j) = some u := hown.cells (g := g) rfl
      have hr := run_append_grow_string (P := P) w t u ty e i (.int .u8 0) ht hu hi hz ⟨g, 0, none⟩ n cap xs (by rw [hsize]; omega) holds s (by omega) (by omega) (by rw [hby]; exact growslice_fits (by omega) (by omega))
      have hge := grownCap_ge w (n + s.size) cap e
      have hcm2 : grownCap w (n + s.size) cap e ≤ maxLen := grownCap_le_maxLen w (n + s.size) cap e h63
      refine ⟨_, _, hr, ⟨hlen, .inr ⟨w.heap.size, _, _, (0, 0), rfl, hbase, heap_alloc_new w.drew _, fun o _ h => by simp at h, hge, hcm2, ?_, ?_⟩⟩, ⟨rfl, rfl, rfl, by simp, fun k hk _ => Below.heap_alloc w.drew _ k hk⟩, .inr rfl⟩
      · have hz1 : (Value.int IntKind.u8 0).cells.size = 1 := rfl
        simp only [Array.size_append, List.size_toArray, size_zeroCells, hz1, hxl, strCells_length]
        omega
      · simp only [Array.toList_append, List.append_assoc]
        rw [← List.append_assoc, ← hlen]
        exact List.take_left
theorem wp_append_str {P : Program} (w : World) {o : Oper} {a : Act} {K : Act → World → Prop} {Q : Exit → Act → World → Prop} (sl x : Operand) (t u : TypeId)
    (ho : o.op = .call { callee := .builtin .append, args := #[sl, x], argTypes := #[t, u] })
    (base : Nat) (e : TypeId) (i : TypeInfo) (ht : P.underlying t = some (.slice e)) (hu : P.underlying u = some .string) (hi : P.info? e = some i) (hz : i.zero = some (.int .u8 0))
    (hsize : i.size = 1) (hby : i.bytes = 1) (v : Value) (n : Nat) (xs : List Value) (hs : a.eval sl = v) (hown : OwnB w base e v n xs) (s : ByteArray) (hx : a.eval x = .string s)
    (h63 : n + s.size ≤ maxLen) (hbytes : n + s.size ≤ 140737488355328) (hbase : base ≤ w.heap.size)
    (h : ∀ fa fc w', OwnB w' base e (.slice fa (n + s.size) fc) (n + s.size) (xs ++ strCells s) → w.grownBy w' v.ownBlock → (Value.ownBlock (.slice fa (n + s.size) fc) = v.ownBlock ∨ Value.ownBlock (.slice fa (n + s.size) fc) = some w.heap.size) → K (a.put o.dst (.slice fa (n + s.size) fc)) w') : o.wp P a w K Q := by
  obtain ⟨v', w', hr, h2, h3, h4⟩ := run_append_str (P := P) w base t u o.type e i ht hu hi hz hsize hby v n xs hown s h63 hbytes hbase
  unfold Oper.wp execOp
  simp only [ho, resolve, invoke, builtin, Sem.run_bind, Sem.run_pure, Result.andThen_ok, List.map_toArray, List.map_cons, List.map_nil, hs, hx, hr]
  obtain ⟨fa, fc, rfl⟩ : ∃ fa fc, v' = .slice fa (n + s.size) fc := by
    rcases h2.2 with ⟨h1, h0⟩ | ⟨g, cap, _, _, h1, _⟩
    · exact ⟨none, 0, by rw [h1, h0]⟩
    · exact ⟨_, _, h1⟩
  exact h fa fc w' h2 h3 h4
theorem wpList_append_str {P : Program} (w : World) {ops : Array Oper} {rest : List Oper} {o : Oper} {a : Act} {Q : Exit → Act → World → Prop} (hgd : o.guard = none) (sl x : Operand) (t u : TypeId)
    (ho : o.op = .call { callee := .builtin .append, args := #[sl, x], argTypes := #[t, u] })
    (base : Nat) (e : TypeId) (i : TypeInfo) (ht : P.underlying t = some (.slice e)) (hu : P.underlying u = some .string) (hi : P.info? e = some i) (hz : i.zero = some (.int .u8 0))
    (hsize : i.size = 1) (hby : i.bytes = 1) (v : Value) (n : Nat) (xs : List Value) (hs : a.eval sl = v) (hown : OwnB w base e v n xs) (s : ByteArray) (hx : a.eval x = .string s)
    (h63 : n + s.size ≤ maxLen) (hbytes : n + s.size ≤ 140737488355328) (hbase : base ≤ w.heap.size)
    (h : ∀ fa fc w', OwnB w' base e (.slice fa (n + s.size) fc) (n + s.size) (xs ++ strCells s) → w.grownBy w' v.ownBlock → (Value.ownBlock (.slice fa (n + s.size) fc) = v.ownBlock ∨ Value.ownBlock (.slice fa (n + s.size) fc) = some w.heap.size) → wpList P ops Q rest (a.put o.dst (.slice fa (n + s.size) fc)) w') : wpList P ops Q (o :: rest) a w :=
  wpList_plain hgd fun _ hK => wp_append_str w sl x t u ho base e i ht hu hi hz hsize hby v n xs hs hown s hx h63 hbytes hbase fun fa fc w' h2 h3 h4 => hK _ _ (h fa fc w' h2 h3 h4)
theorem step_append_str {P : Program} (w : World) {ops : Array Oper} {o : Oper} {a : Act} {K : Act → World → Prop} {Q : Exit → Act → World → Prop} {E : Prop} (hgd : o.guard = none) (sl x : Operand) (t u : TypeId)
    (ho : o.op = .call { callee := .builtin .append, args := #[sl, x], argTypes := #[t, u] })
    (base : Nat) (e : TypeId) (i : TypeInfo) (ht : P.underlying t = some (.slice e)) (hu : P.underlying u = some .string) (hi : P.info? e = some i) (hz : i.zero = some (.int .u8 0))
    (hsize : i.size = 1) (hby : i.bytes = 1) (v : Value) (n : Nat) (xs : List Value) (hs : a.eval sl = v) (hown : OwnB w base e v n xs) (s : ByteArray) (hx : a.eval x = .string s)
    (h63 : n + s.size ≤ maxLen) (hbytes : n + s.size ≤ 140737488355328) (hbase : base ≤ w.heap.size)
    (h : ∀ fa fc w', OwnB w' base e (.slice fa (n + s.size) fc) (n + s.size) (xs ++ strCells s) → w.grownBy w' v.ownBlock → (Value.ownBlock (.slice fa (n + s.size) fc) = v.ownBlock ∨ Value.ownBlock (.slice fa (n + s.size) fc) = some w.heap.size) → K (a.put o.dst (.slice fa (n + s.size) fc)) w') :
    if Region.wanted o (yielded ops a.tmps) = true then Oper.wp P o a w K Q else E := by
  have hw : Region.wanted o (yielded ops a.tmps) = true := by simp [Region.wanted, hgd]
  rw [if_pos hw]
  exact wp_append_str w sl x t u ho base e i ht hu hi hz hsize hby v n xs hs hown s hx h63 hbytes hbase h
end Go.Proofs.YtdjllnhahhjgmaaGreat
namespace Go.Proofs.YtdjllnhahhjgmaaGreat
open Go.RowKit Go.MuLone Chron
theorem set_back {w : World} {b o : Nat} {x : Value} (y : Value) (h : w.cell? ⟨b, o, none⟩ = some x) : (w.setCell ⟨b, o, none⟩ y).setCell ⟨b, o, none⟩ x = w := by
  have hh : ((w.setCell ⟨b, o, none⟩ y).setCell ⟨b, o, none⟩ x).heap = w.heap := by
    apply Array.ext_getElem?
    intro k
    by_cases hk : k = b
    · subst hk
      simp only [World.cell?] at h
      simp only [World.setCell, Array.getElem?_modify, if_true]
      rcases hh : w.heap[k]? with _ | z
      · rfl
      · rw [hh] at h
        cases z with
        | cells c elem fr =>
          simp at h
          simp only [Option.map_some, Option.some.injEq, Obj.cells.injEq, and_true]
          show (c.setIfInBounds o y).setIfInBounds o x = c
          apply Array.ext_getElem?
          intro i
          rw [Array.getElem?_setIfInBounds]
          split
          · rename_i hi
            subst hi
            split
            · exact h.symm
            · rename_i hn
              simp only [Array.size_setIfInBounds] at hn
              rw [Array.getElem?_eq_none (by omega)] at h; cases h
          · rename_i hi
            rw [Array.getElem?_setIfInBounds, if_neg hi]
        | _ => cases h
    · rw [Below.heap_setCell _ _ _ _ hk, Below.heap_setCell _ _ _ _ hk]
  cases w
  simp only [World.setCell] at hh ⊢
  simp only [World.mk.injEq, and_true]
  exact hh
theorem four_cells {w : World} {p : Nat} {a b c d : Value} {t : TypeId} (h : w.heap[p]? = some (.cells #[a, b, c, d] t)) :
    w.cell? ⟨p, 0, none⟩ = some a ∧ w.cell? ⟨p, 1, none⟩ = some b ∧ w.cell? ⟨p, 2, none⟩ = some c ∧ w.cell? ⟨p, 3, none⟩ = some d ∧ ∀ o, w.frozen? ⟨p, o, none⟩ = false := by
  simp [World.cell?, World.frozen?, h]
set_option maxRecDepth 100000 in
theorem now_any (p : Nat) (fv ev : Value) (w : World) (hb : w.heap[p]? = some (.cells #[.int .i32 0, .int .u32 0, fv, ev] 87)) :
    Calls Tryz.prog 30 #[.pointer (some ⟨p, 0, none⟩)] w fun e w' => e = .returned ev ∧ w' = w := by
  obtain ⟨c0, c1, c2, c3, cz⟩ := four_cells hb
  go_enter_defers Tryz.func30, Tryz.ntmps30
  go_wp2_with (go_at_call 37; refine (lock_free Tryz.muLib ⟨p, 0, none⟩ _ c0 (cz 0)).mono ?_; rintro e w' ⟨rfl, rfl⟩)
  refine leaves_cons (f := 38) (args := #[.pointer (some ⟨p, 0, none⟩)]) (by simp) (by simp [go_sem]) ?_
  refine (unlock_deferred Tryz.muLib ⟨p, 0, none⟩ .returning _ (World.cell?_setCell_same w ⟨p, 0, none⟩ (.int .i32 1) c0) (by simp [cz])).mono ?_
  rintro e u' w'' ⟨rfl, rfl, rfl⟩
  exact ⟨_, results_tmp rfl _ _ _, rfl, set_back _ c0⟩
set_option maxRecDepth 100000 in
theorem len_any (p : Nat) (fv : Value) (ea : Option Addr) (n cap : Nat) (w : World) (hb : w.heap[p]? = some (.cells #[.int .i32 0, .int .u32 0, fv, .slice ea n cap] 87)) :
    Calls Tryz.prog 14 #[.pointer (some ⟨p, 0, none⟩)] w fun e w' => e = .returned (.int .i64 n) ∧ w' = w := by
  go_enter Tryz.func14, Tryz.ntmps14
  go_wp2_with (go_at_call 30; refine (now_any p fv _ _ hb).mono ?_; rintro e w' ⟨rfl, rfl⟩)
  go_ret
  exact ⟨rfl, rfl⟩
/- a row of bytes, told as a text -/
theorem conv_any {w : World} {B n : Nat} {v : Value} {l : List UInt8} (h : w.ownsRow B 5 1 v n (Lib.byteCells l)) : (convert 74 9 v).run Tryz.prog w = .ok (.string ⟨l.toArray⟩) w := by
  by_cases hl : l = []
  · subst hl
    obtain ⟨h0, h | ⟨g, cap, cur, rfl, hg, hh, hn, hcap, hsz, htake⟩⟩ := h
    · obtain ⟨rfl, rfl⟩ := h
      rw [run_convert_bytes_string w 74 9 5 none 0 0 Tryz.underlying74 Tryz.underlying5 Tryz.underlying9]
      simp [Conv.bytesToString]; rfl
    · have hn' : n = 0 := by simp [Lib.byteCells] at h0; omega
      subst hn'
      exact run_convert_bytes_back w _ _ 5 ⟨g, 0, none⟩ cap [] Tryz.underlying74 Tryz.underlying5 Tryz.underlying9 (fun j hj => by simp at hj)
  · exact conv_owned h hl
theorem conv_B {w : World} {B : Nat} {v : Value} {l : List UInt8} (h : OwnB w B 5 v l.length (Lib.byteCells l)) : (convert 74 9 v).run Tryz.prog w = .ok (.string ⟨l.toArray⟩) w := by
  rcases h.2 with ⟨rfl, hl⟩ | ⟨g, cap, cur, fz, rfl, _⟩
  · have : l = [] := List.eq_nil_of_length_eq_zero hl
    subst this
    exact conv_any (B := B) (n := 0) ⟨rfl, .inl ⟨rfl, rfl⟩⟩
  · refine run_convert_bytes_back w _ _ 5 ⟨g, 0, none⟩ cap l Tryz.underlying74 Tryz.underlying5 Tryz.underlying9 (fun j hj => h.cells rfl j _ ?_)
    simp [Lib.byteCells, hj]
set_option maxRecDepth 100000 in
theorem file_any (p : Nat) (fv ev : Value) (N : Nat) (file : List UInt8) (w : World) (hb : w.heap[p]? = some (.cells #[.int .i32 0, .int .u32 0, fv, ev] 87)) (hf : OwnB w N 5 fv file.length (Lib.byteCells file)) (hp : fv.ownBlock ≠ some p) :
    Calls Tryz.prog 23 #[.pointer (some ⟨p, 0, none⟩)] w fun e w' => e = .returned (.string ⟨file.toArray⟩) ∧ w' = w := by
  obtain ⟨c0, c1, c2, c3, cz⟩ := four_cells hb
  have hc := conv_B (hf.block (w' := w.setCell ⟨p, 0, none⟩ (.int .i32 1)) (fun q hq => Below.heap_setCell _ _ _ _ (fun e => hp (by rw [hq, e]))))
  go_enter_defers Tryz.func23, Tryz.ntmps23
  go_wp2_with (go_at_call 37; refine (lock_free Tryz.muLib ⟨p, 0, none⟩ _ c0 (cz 0)).mono ?_; rintro e w' ⟨rfl, rfl⟩)
  refine leaves_cons (f := 38) (args := #[.pointer (some ⟨p, 0, none⟩)]) (by simp) (by simp [go_sem]) ?_
  refine (unlock_deferred Tryz.muLib ⟨p, 0, none⟩ .returning _ (World.cell?_setCell_same w ⟨p, 0, none⟩ (.int .i32 1) c0) (by simp [cz])).mono ?_
  rintro e u' w'' ⟨rfl, rfl, rfl⟩
  exact ⟨_, results_tmp rfl _ _ _, rfl, set_back _ c0⟩
end Go.Proofs.YtdjllnhahhjgmaaGreat
namespace Go.Proofs.YtdjllnhahhjgmaaGreat
open Go.RowKit Go.Shelf
/- the iterator: J holds between its rounds, with true while the loop goes on -/
def Tells {α : Type} (P : Program) (g : Nat) (lb : Array Value) (encs : α → Array Value) (H : α → Nat → World → Prop) (Kp : World → World → Prop) (S Sp : List α → Prop) (w : World) : Prop :=
  ∀ (l : Nat) (J : Bool → List α → World → Prop) (W : World), Below w.heap.size w W →
    (∀ go xs A B, J go xs A → A.grownBy B none → J go xs B) →
    (∀ xs x A0 A, J true xs A0 → A0.grownBy A none → H x A0.heap.size A → Sp (xs ++ [x]) → YieldAt Fence.wide 0 P l (encs x) A fun e W' =>
      ∃ go, e = .returned (.bool go) ∧ J go (xs ++ [x]) W' ∧ (go = true → Kp A W')) →
    J true [] W →
    CallsIn Fence.wide 0 P g (#[.func (.yield l) #[] #[]] ++ lb) W fun e W' => (∃ v, e = .returned v) ∧ ((∃ xs, S xs ∧ J true xs W') ∨ ∃ xs, Sp xs ∧ J false xs W')
/- how the body of a round may be left -/
def LeftBy {α : Type} (B : Nat) (Kp : World → World → Prop) (I : Option Code → List α → Nat → World → Prop) (xs : List α) (W : World) : Exit → Act → World → Prop
  | .normal, _, W' => KeepsFrom B W W' ∧ Kp W W' ∧ I none xs W'.heap.size W'
  | .ret, _, W' => KeepsFrom B W W' ∧ I (some .ret) xs W'.heap.size W'
  | .exit id, _, W' => KeepsFrom B W W' ∧ I (some (.exit id)) xs W'.heap.size W'
  | .goto t, _, W' => KeepsFrom B W W' ∧ I (some (.goto t)) xs W'.heap.size W'
  | .panic _, _, _ => False
  | .outgrown, _, _ => False
/- what abides new memory, and the loop's own records -/
def Abide (B : Nat) (I : World → Prop) : Prop := ∀ W W' row, I W → W.grownBy W' row → (∀ r, row = some r → B ≤ r ∧ ∃ o : Obj, W.heap[r]? = some o ∧ o.isCells = false) → I W'
theorem Abide.put {B : Nat} {I : World → Prop} (h : Abide B I) {W : World} {l : Nat} {o : Obj} (o' : Obj) (hs : I W) (hB : B ≤ l) (hl : W.heap[l]? = some o) (ho : o.isCells = false) : I (W.putObj l o') :=
  h W _ (some l) hs (grownBy_putObj' W l o') (fun r e => by cases e; exact ⟨hB, o, hl, ho⟩)
theorem Abide.new {B : Nat} {I : World → Prop} (h : Abide B I) {W W' : World} (hs : I W) (hg : W.grownBy W' none) : I W' := h W W' none hs hg (fun r e => by cases e)
theorem grown_at {A B : World} (h : A.grownBy B none) {k : Nat} {o : Obj} (hk : A.heap[k]? = some o) : B.heap[k]? = some o :=
  (h.block k (Array.getElem?_eq_some_iff.1 hk).1 (fun e => by cases e)).trans hk
theorem KeepsFrom.put {B l : Nat} {W : World} (hl : l < B) (o : Obj) : KeepsFrom B W (W.putObj l o) :=
  KeepsFrom.of_grownBy (grownBy_putObj' W l o) (fun j e => by cases e; exact hl)
theorem wp_tells {α : Type} {P : Program} {g : Operand} {ps : Array Tmp} {assign body : Code} {Q : Exit → Act → World → Prop} {a : Act} {w w0 : World} {gf : Nat} {lb : Array Value}
    (hg : a.eval g = .func (.func gf) #[] lb) (eg : Enters P gf) {encs : α → Array Value} {H : α → Nat → World → Prop} {Kp : World → World → Prop} {S Sp : List α → Prop}
    (hseq : Tells P gf lb encs H Kp S Sp w0) (hb0 : Below w0.heap.size w0 w) (hps : ∀ x, (encs x).size = ps.size)
    (hKt : ∀ {A B C : World}, Kp A B → Kp B C → Kp A C) (hKb : ∀ (W : World) (l : Nat) (o o' : Obj), w.heap.size ≤ l → W.heap[l]? = some o → o.isCells = false → Kp W (W.putObj l o'))
    (I : Option Code → List α → Nat → World → Prop) (Ax : List α → α → Act → World → Prop)
    (hI : ∀ c xs m, Abide w.heap.size (I c xs m)) (hAx : ∀ xs x a', Abide w.heap.size (Ax xs x a')) (h0 : I none [] w.heap.size w)
    (hassign : ∀ (l : Nat) (xs : List α) (x : α) (m h : Nat) (W : World) (K : Act → World → Prop), I none xs m W → w.heap.size ≤ h → m ≤ h → h ≤ W.heap.size → H x h W → Sp (xs ++ [x]) →
      (∀ a' W', KeepsFrom w.heap.size W W' → Kp W W' → Ax xs x a' W' → K a' W') →
      assign.wpIn (Fence.wide.inRound l) 0 P (Exit.then K (fun _ _ _ => False)) { tmps := (ps.zip (encs x)).foldl (fun t (p, v) => t.setIfInBounds p v) a.tmps, defers := [] } W)
    (hbody : ∀ (l : Nat) (xs : List α) (x : α) (a' : Act) (W : World), Ax xs x a' W → body.wpIn (Fence.wide.inRound l) 0 P (LeftBy w.heap.size Kp I (xs ++ [x]) W) a' W)
    (hdone : ∀ (D : Nat) (xs : List α) (m : Nat) (W : World), w.heap.size ≤ D → S xs → m ≤ W.heap.size → I none xs m W → W.heap[D]? = some (.deferred (some [])) → Q .normal { a with defers := { target := .collected D, args := #[] } :: a.defers } W)
    (hstop : ∀ (D : Nat) (c : Code) (xs : List α) (m : Nat) (W : World), w.heap.size ≤ D → Sp xs → m ≤ W.heap.size → I (some c) xs m W → W.heap[D]? = some (.deferred (some [])) → c.wpIn Fence.wide 0 P Q { a with defers := { target := .collected D, args := #[] } :: a.defers } W) :
    (Code.rangeFunc g ps assign body).wpIn Fence.wide 0 P Q a w := by
  refine wpIn_rangeFunc (fun fn hfn => ?_)
  obtain ⟨rec, hrec⟩ : ∃ rec : LoopState → Option Code → Loop, rec = fun st pe => { state := st, pending := pe, fn, tmps := a.tmps, params := ps, assign, body, defers := w.heap.size } := ⟨_, rfl⟩
  obtain ⟨L, hL⟩ : ∃ L, L = w.heap.size + 1 := ⟨_, rfl⟩
  obtain ⟨W1, hW1⟩ : ∃ W1, W1 = (w.alloc (.deferred (some []))).alloc (.loop (rec .ready none)) := ⟨_, rfl⟩
  have gW : w.grownBy W1 none := by
    rw [hW1]
    exact ⟨rfl, rfl, rfl, by simp; omega, fun k hk _ => (Below.heap_alloc _ _ _ (by simp; omega)).trans (Below.heap_alloc _ _ _ hk)⟩
  have lW : W1.heap[L]? = some (.loop (rec .ready none)) := by
    have := heap_alloc_new (w.alloc (.deferred (some []))) (.loop (rec .ready none))
    rw [World.size_alloc] at this; rw [hW1, hL]; exact this
  have dW : W1.heap[w.heap.size]? = some (.deferred (some [])) := by
    rw [hW1, Below.heap_alloc _ _ _ (by simp)]; exact heap_alloc_new w _
  refine ⟨L, [{ target := .collected w.heap.size, args := #[] }], W1, { target := .fn (.func gf) lb, args := #[.func (.yield L) #[] #[]] }, W1, gf, #[.func (.yield L) #[] #[]] ++ lb, W1, ?_, ?_, ?_, ?_, (fun h => by cases h), ?_⟩
  · have := run_enterLoop_outer (P := P) (w := w) fn a.tmps ps assign body
    rw [hW1, hL, hrec]
    exact this
  · simp only [resolve, hg]
    simp [go_sem]
  · exact fun _ _ => trivial
  · simp only [invoke]
    have := eg (#[.func (.yield L) #[] #[]] ++ lb) W1
    simp [go_sem, this]
  refine CallsIn.mono (hseq L (fun go xs W => W.heap[w.heap.size]? = some (.deferred (some [])) ∧ ∃ m c, m ≤ W.heap.size ∧ (go = true → c = none) ∧ (go = false → c ≠ none) ∧ I c xs m W ∧ W.heap[L]? = some (.loop (rec (if go = true then .ready else .done) c)))
    W1 (hb0.trans ⟨gW.os, gW.tape, gW.output, gW.size, fun k hk => gW.block k (Nat.lt_of_lt_of_le hk hb0.size) (fun e => by cases e)⟩) ?_ ?_ ⟨dW, w.heap.size, none, gW.size, fun _ => rfl, fun h => (by cases h), (hI none [] _).new h0 gW, lW⟩) ?_
  · rintro go xs A B ⟨hd, m, c, hm, h1, h2, hi, hl⟩ hg
    exact ⟨grown_at hg hd, m, c, Nat.le_trans hm hg.size, h1, h2, (hI c xs m).new hi hg, grown_at hg hl⟩
  · rintro xs x A0 A ⟨hd0, m, c, hm, h1, _, hi0, hl0⟩ hg hx hsp
    obtain rfl := h1 rfl
    have hl := grown_at hg hl0
    have hd := grown_at hg hd0
    have hi := (hI none xs m).new hi0 hg
    have hw0 : w.heap.size ≤ A0.heap.size := Nat.le_of_lt (Array.getElem?_eq_some_iff.1 hd0).1
    have hy := run_yield (P := P) (args := encs x) hl (by rw [hrec]; exact hps x)
    rw [hrec] at hy
    refine ⟨fn, _, assign, body, hy, roundIn_of_wpIn hfn (hassign L xs x m _ A _ hi hw0 hm hg.size hx hsp ?_)⟩
    intro a' A2 hk2 hp2 hax
    have hl2 := hk2.same L _ (by omega) hl rfl
    have hd2 := hk2.same _ _ (Nat.le_refl _) hd rfl
    refine ⟨_, run_beginRound hl2 (by rw [hrec]; rfl), ?_⟩
    obtain ⟨busy, hbusy⟩ : ∃ busy : Loop, busy = { rec .ready none with state := .busy } := ⟨_, rfl⟩
    have hL2 : L < A2.heap.size := (Array.getElem?_eq_some_iff.1 hl2).1
    have hp3 : Kp A2 (A2.putObj L (.loop busy)) := hKb _ _ _ _ (by omega) hl2 rfl
    have hl3 : (A2.putObj L (.loop busy)).heap[L]? = some (.loop busy) := World.putObj_heap_same hL2
    have hd3 : (A2.putObj L (.loop busy)).heap[w.heap.size]? = some (.deferred (some [])) := (World.putObj_heap_other (by omega)).trans hd2
    have hend : ∀ (jump : Option Code) (W3 : World), KeepsFrom w.heap.size (A2.putObj L (.loop busy)) W3 → ∃ W4, (Instr.endRound L jump).run P W3 = .ok (.bool jump.isNone) W4 ∧ W4 = W3.putObj L (.loop (rec (if jump.isNone = true then .ready else .done) jump)) ∧
        W3.heap[L]? = some (.loop busy) ∧ W4.heap[L]? = some (.loop (rec (if jump.isNone = true then .ready else .done) jump)) ∧ W4.heap[w.heap.size]? = some (.deferred (some [])) ∧ W4.heap.size = W3.heap.size := by
      intro jump W3 hk
      have q := hk.same L _ (by omega) hl3 rfl
      have r := run_endRound (P := P) jump q
      refine ⟨_, r, ?_, q, ?_, (World.putObj_heap_other (by omega)).trans (hk.same _ _ (Nat.le_refl _) hd3 rfl), by simp⟩
      · rw [hbusy, hrec]
      · rw [World.putObj_heap_same (Array.getElem?_eq_some_iff.1 q).1, hbusy, hrec]
    show Code.wpIn _ 0 P body _ a' (A2.putObj L (.loop { rec .ready none with state := .busy }))
    rw [← hbusy]
    refine wpIn_mono (hbody L xs x a' _ ((hAx xs x a').put _ hax (by omega) hl2 rfl)) ?_
    have away : ∀ (c : Code) (W3 : World), KeepsFrom w.heap.size (A2.putObj L (.loop busy)) W3 → I (some c) (xs ++ [x]) W3.heap.size W3 → ∃ v w', (Instr.endRound L (some c)).run P W3 = .ok v w' ∧
        ∃ go, (Ending.returned v) = .returned (.bool go) ∧ (w'.heap[w.heap.size]? = some (.deferred (some [])) ∧ ∃ m c, m ≤ w'.heap.size ∧ (go = true → c = none) ∧ (go = false → c ≠ none) ∧ I c (xs ++ [x]) m w' ∧ w'.heap[L]? = some (.loop (rec (if go = true then .ready else .done) c))) ∧ (go = true → Kp A w') := by
      intro c W3 hk hi3
      obtain ⟨W4, r, e4, q3, q4, d4, s4⟩ := hend (some c) W3 hk
      exact ⟨_, W4, r, false, rfl, ⟨d4, W3.heap.size, some c, by omega, (fun h => by cases h), (fun _ => by simp), (by rw [e4]; exact (hI _ _ _).put _ hi3 (by omega) q3 rfl), q4⟩, (fun h => by cases h)⟩
    intro e a3 W3 hp
    cases e with
    | normal =>
      obtain ⟨hk, hkp, hi3⟩ := hp
      obtain ⟨W4, r, e4, q3, q4, d4, s4⟩ := hend none W3 hk
      exact ⟨_, W4, r, true, rfl, ⟨d4, W3.heap.size, none, by omega, (fun _ => rfl), (fun h => by cases h), (by rw [e4]; exact (hI _ _ _).put _ hi3 (by omega) q3 rfl), q4⟩,
        fun _ => hKt hp2 (hKt hp3 (hKt hkp (by rw [e4]; exact hKb _ _ _ _ (by omega) q3 rfl)))⟩
    | ret => exact away .ret W3 hp.1 hp.2
    | exit id => exact away (.exit id) W3 hp.1 hp.2
    | goto t => exact away (.goto t) W3 hp.1 hp.2
    | panic ch => exact hp.elim
    | outgrown => exact hp.elim
  · rintro e W2 ⟨⟨v, rfl⟩, ⟨xs, hs, hd, m, c, hm, h1, _, hi, hl⟩ | ⟨xs, hs, hd, m, c, hm, _, h2, hi, hl⟩⟩
    · obtain rfl := h1 rfl
      have r := run_endLoop (P := P) hl (by rw [hrec]; simp)
      refine ⟨none, _, by rw [hrec] at r; exact r, ?_⟩
      refine hdone _ xs m _ (Nat.le_refl _) hs (by simpa using hm) ?_ ((World.putObj_heap_other (by omega)).trans hd)
      exact (hI _ _ _).put _ hi (by omega) hl rfl
    · cases c with
      | none => exact absurd rfl (h2 rfl)
      | some c =>
        have r := run_endLoop (P := P) hl (by rw [hrec]; simp)
        refine ⟨some c, _, by rw [hrec] at r; exact r, ?_⟩
        refine hstop _ c xs m _ (Nat.le_refl _) hs (by simpa using hm) ?_ ((World.putObj_heap_other (by omega)).trans hd)
        exact (hI _ _ _).put _ hi (by omega) hl rfl
end Go.Proofs.YtdjllnhahhjgmaaGreat
