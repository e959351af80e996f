/- Walks and plain facts, in the order in which they lean on one another. -/
import Derived.Test.YtodlcnbknjldnaaGreatDoorW11
import Derived.Test.YtodlcnbknjldnaaGreatDoorW12
import Derived.Test.YtodlcnbknjldnaaGreatDoorRows
import Derived.WalkKit
import Derived.ProofKit
import Derived.OpenShut
import Derived.ChangeOld
import Derived.Lib.LaidU8
import Derived.SevenTiedAt
namespace Go.Proofs.YtodlcnbknjldnaaGreatDoor
open Go.RowKit Chron
def impFirst : List UInt8 := [32, 91, 32, 123, 32, 34, 116, 105, 109, 101, 34, 32, 58, 32, 48, 44, 34, 116, 97, 115, 107, 34, 58, 34, 97, 92, 117, 48, 48, 54, 50, 34, 44, 34, 116, 97, 103, 115, 34, 58, 91, 32, 93, 44, 34, 107, 105, 110, 100, 34, 58, 34, 102, 97, 105, 108, 101, 100, 34, 44, 34, 98, 111, 100, 121, 34, 58, 34, 120, 34, 32, 125, 32, 93, 32]
def firstEv : Ev := ⟨3, ⟨#[97, 98]⟩, 0, ⟨#[120]⟩, []⟩
def isFirst : Option (List Ev) → Bool
  | some [e] => decide (e.kind = 3) && (decide (e.task.data.toList = [97, 98]) && (decide (e.time = 0) && (decide (e.body.data.toList = [120]) && e.tags.isEmpty)))
  | _ => false
theorem isFirst_eq {o : Option (List Ev)} (h : isFirst o = true) : o = some [firstEv] := by
  match o, h with
  | some [⟨k, t, m, b, ts⟩], h =>
    simp only [isFirst, Bool.and_eq_true, decide_eq_true_eq, List.isEmpty_iff] at h
    obtain ⟨h1, h2, h3, h4, h5⟩ := h
    subst h1 h3 h5
    have e1 : t = ⟨#[97, 98]⟩ := bytes_inj h2
    have e2 : b = ⟨#[120]⟩ := bytes_inj h4
    rw [e1, e2]; rfl
theorem first_all : allL impFirst = some [firstEv] := isFirst_eq (by decide +kernel)
theorem first_imp : impB impFirst = ([firstEv], 0) := by
  have h1 : (expB [firstEv]).2 = 0 := by
    rw [expB, if_neg (by decide), if_pos (by decide +kernel)]
  rw [impB, if_neg (by decide), first_all]
  simp only [h1, if_true]
theorem imp_ok (L : List UInt8) : (∀ e ∈ (impB L).1, isB e = true) ∧ (impB L).1.length ≤ 200 ∧ (impB L).1.length ≤ L.length := by
  unfold impB
  split
  · simp
  · split
    · simp
    · rename_i es hes
      split
      · rename_i h0
        unfold expB at h0
        split at h0
        · simp at h0
        · rename_i hfew
          split at h0
          · rename_i hall
            exact ⟨fun e he => List.all_eq_true.1 hall e he, by simpa using hfew, all_len hes⟩
          · simp at h0
      · simp
/- how many bytes the first texts have, one round behind the other -/
def sz (ts : List ByteArray) (i : Nat) : Nat := (ts[i]?.getD ByteArray.empty).size
def cumT (ts : List ByteArray) : Nat → Nat
  | 0 => 0
  | i + 1 => cumT ts i + sz ts (i % ts.length)
def sumT (ts : List ByteArray) : Nat := (ts.map ByteArray.size).sum
theorem sum_take (ts : List ByteArray) (k : Nat) : sumT (ts.take (k + 1)) = sumT (ts.take k) + sz ts k := by
  by_cases h : k < ts.length
  · rw [List.take_succ_eq_append_getElem h, sumT, sumT, List.map_append, List.sum_append, sz, List.getElem?_eq_getElem h]; simp
  · rw [List.take_of_length_le (by omega), List.take_of_length_le (by omega), sz, List.getElem?_eq_none (by omega)]
    rfl
theorem cum_first (ts : List ByteArray) : ∀ k, k ≤ ts.length → cumT ts k = sumT (ts.take k)
  | 0, _ => by simp [cumT, sumT]
  | k + 1, h => by rw [cumT, cum_first ts k (by omega), sum_take, Nat.mod_eq_of_lt (by omega)]
theorem cum_second (ts : List ByteArray) : ∀ k, k ≤ ts.length → cumT ts (ts.length + k) = sumT ts + sumT (ts.take k)
  | 0, _ => by rw [Nat.add_zero, cum_first ts _ (Nat.le_refl _), List.take_length]; simp [sumT]
  | k + 1, h => by
    rw [← Nat.add_assoc, cumT, cum_second ts k (by omega), sum_take, Nat.add_mod_left, Nat.mod_eq_of_lt (by omega)]; omega
theorem sum_le_take (ts : List ByteArray) (k : Nat) : sumT (ts.take k) ≤ sumT ts := by
  have : sumT ts = sumT (ts.take k) + sumT (ts.drop k) := by
    rw [sumT, sumT, sumT, ← List.sum_append, ← List.map_append, List.take_append_drop]
  omega
theorem cum_le (ts : List ByteArray) {i : Nat} (h : i ≤ 2 * ts.length) : cumT ts i ≤ 2 * sumT ts := by
  by_cases h1 : i ≤ ts.length
  · rw [cum_first ts i h1]; have := sum_le_take ts i; omega
  · obtain ⟨k, rfl⟩ : ∃ k, i = ts.length + k := ⟨i - ts.length, by omega⟩
    rw [cum_second ts k (by omega)]; have := sum_le_take ts k; omega
theorem Glob.grow {B : Nat} {w w' : World} (h : Glob B w) (hb : Below B w w') : Glob w'.heap.size w' := by
  have h2 := h.more hb
  have := h2.below
  exact ⟨h2.err, h2.kinds, h2.names, Nat.le_refl _, Nat.lt_of_lt_of_le h2.e this, Nat.lt_of_lt_of_le h2.k this, Nat.lt_of_lt_of_le h2.n this⟩
theorem Book2.clear {b : Nat} {tv ev : Value} {xs ys : List Value} {w : World} (h : Book2 b tv ev xs ys w) {q : Nat} (hq : w.heap.size ≤ q) : Clear b tv ev xs ys q := by
  have hb := h.lt
  refine ⟨by omega, fun e => by have := (h.tags.lt q e).2; omega, fun e => by have := (h.evts.lt q e).2; omega, fun v hv e => ?_, fun v hv e => ?_⟩
  · obtain ⟨i, hi⟩ := List.getElem?_of_mem hv
    rcases h.full i v hi with rfl | ⟨g, no, cap, ho, _⟩
    · cases e
    · have h1 := ho.blk
      have h2 := ho.lt
      rw [e] at h1
      have := Option.some.inj h1; omega
  · obtain ⟨i, hi⟩ := List.getElem?_of_mem hv
    rcases h.fullE i v hi with rfl | ⟨g, no, cap, ho, _⟩
    · cases e
    · have h1 := ho.blk
      have h2 := ho.lt
      rw [e] at h1
      have := Option.some.inj h1; omega
end Go.Proofs.YtodlcnbknjldnaaGreatDoor
namespace Go.Proofs.YtodlcnbknjldnaaGreatDoor
open Go.RowKit Chron
theorem few_is {e : Ev} (h : isB e = true) : Few 1048576 e := by
  have k := is_known h
  refine ⟨by have := k.few; omega, fun t ht => ?_, by have := k.task; omega, by have := k.body; omega⟩
  have := k.lines t ht
  omega
structure Got (L : List UInt8) (N : Nat) (w : World) (a : Option Addr) (cap : Nat) (its : List Item) : Prop where
  made : MadeO N w (.slice a its.length cap) its
  evs : evs its = (impB L).1
  len : its.length ≤ 200 ∧ its.length ≤ L.length
  few : ∀ it ∈ its, Few 1048576 it.ev
  four : ∀ it ∈ its, it.ev.tags.length ≤ 4
theorem ImpO.got {L : List UInt8} {N : Nat} {w : World} {lv : Value} (h : ImpO L N w lv) : ∃ a cap its, lv = .slice a its.length cap ∧ Got L N w a cap its := by
  obtain ⟨its, hM, hev⟩ := h
  obtain ⟨h1, h2, h3⟩ := imp_ok L
  rw [← hev] at h1 h2 h3
  have hm : ∀ it ∈ its, isB it.ev = true := fun it hi => h1 _ (List.mem_map.2 ⟨it, hi, rfl⟩)
  have hl : (evs its).length = its.length := by simp [evs]
  obtain ⟨a, cap, hlv, _⟩ := hM.made.evs (fun it hi => few_is (hm it hi))
  exact ⟨a, cap, its, hlv, by rw [← hlv]; exact hM, hev, ⟨by omega, by omega⟩, fun it hi => few_is (hm it hi), fun it hi => (is_known (hm it hi)).few⟩
theorem Got.at {L : List UInt8} {N : Nat} {w : World} {a : Option Addr} {cap : Nat} {its : List Item} (h : Got L N w a cap its) : EvsAt w a its := by
  obtain ⟨a', cap', hv, he⟩ := h.made.made.evs h.few
  cases hv
  exact he
theorem Got.below {L : List UInt8} {N : Nat} {w w' : World} {a : Option Addr} {cap : Nat} {its : List Item} (h : Got L N w a cap its) (hb : Below w.heap.size w w') : Got L N w' a cap its :=
  ⟨h.made.keep (fun q _ hq => hb.block q hq), h.evs, h.len, h.few, h.four⟩
theorem evs_first (X : World) : EvsAt (X.alloc (.cells #[.int .i64 3, .string ⟨#[97, 98]⟩, .int .i64 0, .string ⟨#[120]⟩, .slice none 0 0] 29)) (some ⟨X.heap.size, 0, none⟩) [⟨firstEv, none, 0⟩] := by
  intro _
  refine ⟨X.heap.size, 0, rfl, fun k i hk => ?_⟩
  have hk0 : k = 0 := by
    have := (List.getElem?_eq_some_iff.1 hk).1
    simp at this; exact this
  subst hk0
  simp only [List.getElem?_cons_zero, Option.some.injEq] at hk
  subst hk
  obtain ⟨c0, c1, c2, c3, c4, _⟩ := res_cells (heap_alloc_new X (.cells #[.int .i64 3, .string ⟨#[97, 98]⟩, .int .i64 0, .string ⟨#[120]⟩, .slice none 0 0] 29))
  refine ⟨⟨c0, c1, c2, c3, c4⟩, ⟨(fun h => by cases h), (fun k hk => by cases hk), by decide, by decide, by decide⟩⟩
set_option maxRecDepth 100000 in
set_option maxHeartbeats 4000000 in
theorem imports_any (a : Option Addr) (cap : Nat) (ts : List ByteArray) (w : World) (ht : Hid (TagsAt w a ts)) (hs : Hid (Low ts)) (hl : ts.length ≤ 1048576) (hsum : Hid (sumT ts ≤ 1048576)) (G : Hid (Glob w.heap.size w)) :
    Calls Tryz.prog 3 #[.slice a ts.length cap] w fun e w' => e = .returned (.bool true) ∧ Below w.heap.size w w' := by
  have hI0 := import_any ⟨impFirst.toArray⟩ w G (by decide)
  rw [show (⟨impFirst.toArray⟩ : ByteArray).data.toList = impFirst from rfl, first_imp] at hI0
  go_enter Tryz.func3, Tryz.ntmps3
  go_wp2_with fail
  refine hI0.mono ?_
  rintro e w1 ⟨lv, rfl, hO, hb1⟩
  obtain ⟨fa, fc, fi, rfl, hG⟩ := hO.out.got
  have HG := hide0 hG
  have hfe := hG.evs
  rw [first_imp] at hfe
  have hSA := sameAll_any fa (some ⟨w1.heap.size, 0, none⟩) fc 1 fi [⟨firstEv, none, 0⟩] (w1.alloc (.cells #[.int .i64 3, .string ⟨#[97, 98]⟩, .int .i64 0, .string ⟨#[120]⟩, .slice none 0 0] 29)) ((hG.at.below ((Below.refl _ _).alloc (Nat.le_refl _) _) (Nat.le_refl _))) (evs_first w1) hfe (by have := hG.len; omega)
  have hs1 := hb1.size
  clear hI0 hfe hG hO
  go_wp2_with fail
  refine hSA.mono ?_
  rintro e w2 ⟨rfl, hb2⟩
  have HW2 := hide0 ((hb1.alloc hs1 _).trans (hb2.mono (by rw [World.size_alloc]; omega)))
  have hs2 := HW2.out.size
  clear hb1 hb2 hSA HG hs1
  go_wp2_with fail
  go_loopw [5, 7] (fun okv iv wx => ∃ (i r : Nat) (tv ev : Value) (xs ys : List Value), i ≤ 2 * ts.length ∧ iv = .int .i64 i ∧ okv = .bool true ∧ Hid (xs.length = 4 * r ∧ r ≤ cumT ts i ∧ ys.length = 4 * i) ∧ Hid (Book2 w2.heap.size tv ev xs ys wx) ∧ Hid (Below w.heap.size w wx)) (fun _ iv _ => 2 * ts.length - (intOf iv).toNat)
  case atStart => exact ⟨0, 0, .slice none 0 0, .slice none 0 0, [], [], Nat.zero_le _, rfl, rfl, ⟨rfl, Nat.le_refl _, rfl⟩, ⟨heap_alloc_new _ _, World.ownsRow_nil _ _ _ _, World.ownsRow_nil _ _ _ _, (fun q hq => by cases hq), (fun i v hv => by simp at hv), (fun i v hv => by simp at hv)⟩, HW2.out.alloc hs2 _⟩
  case round =>
    obtain ⟨i, r, tv, ev, xs, ys, hi, rfl, rfl, HX, HB, HW⟩ := hrel
    have hsr := HW.out.size
    have hcum := cum_le ts hi
    have hsm := hsum.out
    by_cases hlt : i < 2 * ts.length
    · have hlti : (i : Int) < 2 * (ts.length : Int) := by omega
      have hn0 : ((ts.length : Int) == 0) = false := beq_eq_false_iff_ne.2 (by omega)
      have hn1 : ((ts.length : Int) == -1) = false := beq_eq_false_iff_ne.2 (by omega)
      have hpl : i % ts.length < ts.length := Nat.mod_lt _ (by omega)
      obtain ⟨p, hp, hpn, HPI⟩ : ∃ p : Nat, (i : Int) % (ts.length : Int) = p ∧ p < ts.length ∧ Hid (p = i % ts.length) := ⟨i % ts.length, by simp, hpl, rfl⟩
      obtain ⟨q, off, rfl, hcx⟩ := ht.out (by omega)
      have hck := hcx p hpn
      have hqlt := World.block_lt_of_cell? w _ hck
      have hss := hs.out p hpn
      have HCU : Hid (cumT ts (i + 1) = cumT ts i + (ts[p]?.getD ByteArray.empty).size) := by rw [Hid, cumT, sz, HPI.out]
      have hcum2 := cum_le ts (i := i + 1) (by omega)
      have HCM : Hid (cumT ts (i + 1) ≤ 2097152) := by show _ ≤ _; omega
      generalize ts[p]?.getD ByteArray.empty = s at hck hss HCU
      have hcs : wr.cell? ⟨q, off + p, none⟩ = some (.string s) := (HW.out.cell (p := ⟨q, off + p, none⟩) hqlt).trans hck
      have G0 := hide0 (G.out.grow HW.out)
      have hC := import_any s wr G0 (by unfold maxLen; omega)
      have hR := fun X => importRef_any s X (by unfold maxLen; omega)
      generalize hZ : (impB s.data.toList).2 = er at hC hR
      have hb2 : w2.heap.size < wr.heap.size := HB.out.lt
      clear hcx hck hpl hZ hcum hcum2 hsm
      go_wp2_with fail
      refine hC.mono ?_
      rintro e w3 ⟨lv, rfl, hO, hb3⟩
      obtain ⟨la, lc, its, rfl, hG⟩ := hO.out.got
      have HG3 := hide0 hG
      have HB3 := hide0 hb3
      have hs3 := hb3.size
      clear hC hG hO hcs hb3
      go_wp2_with fail
      refine (hR _).mono ?_
      rintro e w4 ⟨mv, rfl, hI, hb4⟩
      obtain ⟨ma, mc, mi, rfl, hmE, hmev, hml⟩ := hI.out
      have HG4 := hide0 (HG3.out.below hb4)
      have HB4 := hide0 (HB3.out.trans (hb4.mono hs3))
      have hs4 := hb4.size
      have hSA := sameAll_any la ma lc mc its mi w4 HG4.out.at hmE (by show _ = _; rw [HG4.out.evs, hmev]) (by have := HG4.out.len; omega)
      clear hR hI hmE hmev hml hb4 HG3 HB3
      go_wp2_with fail
      refine hSA.mono ?_
      rintro e w5 ⟨rfl, hb5⟩
      have HG5 := hide0 (HG4.out.below hb5)
      have hs5 := hb5.size
      have HB5 := hide0 (HB4.out.trans (hb5.mono (by omega)))
      have HBK5 := hide0 (HB.out.below HB5.out)
      have HP5 : Hid (Pend w2.heap.size tv ev xs ys w5 (.slice la its.length lc) its 0) := HG5.out.made.pend (by omega) (fun q hq => HB.out.clear hq)
      have hlen := HG5.out.len
      have hl5 : its.length ≤ 200 := hlen.1
      have HLE : Hid (its.length ≤ s.size) := by show _ ≤ _; have : s.data.toList.length = s.size := by simp
                                                 omega
      have HF5 : Hid (∀ it ∈ its, it.ev.tags.length ≤ 4) := HG5.out.four
      clear hSA hb5 HG4 HB4 hlen
      go_wp2_with fail
      refine (keep_any w2.heap.size r i tv ev xs ys (.slice la its.length lc) its w5 HBK5 HP5 hl5 HF5 ⟨HX.out.1, by have := HX.out; have := HCU.out; have := HCM.out; have := HLE.out; omega⟩ ⟨HX.out.2.2, by omega⟩).mono ?_
      rintro e w6 ⟨rfl, tv', ev', xs', ys', HBK6, HX6, hb6⟩
      have hs6 := hb6.size
      have HW6 := hide0 ((HW.out.trans (HB5.out.mono hsr)).trans (hb6.mono hs2))
      have HX7 : Hid (xs'.length = 4 * (r + its.length) ∧ r + its.length ≤ cumT ts (i + 1) ∧ ys'.length = 4 * (i + 1)) := ⟨HX6.out.1, by have := HX.out; have := HCU.out; have := HLE.out; omega, HX6.out.2⟩
      clear hb6 HBK5 HP5 HB5 HG5
      go_wp2_with fail
      refine (whole2_any w2.heap.size tv' ev' xs' ys' w6 HBK6 (by have := HX7.out; have := HCM.out; omega) (by have := HX7.out; omega)).mono ?_
      rintro e w7 ⟨rfl, hb7⟩
      have HBK7 := hide0 (HBK6.out.below hb7)
      have HW7 := hide0 (HW6.out.trans (hb7.mono HW6.out.size))
      have hfg : (er != er) = false := by simp
      clear hb7 HBK6 HW6
      go_wp2
      go_roundw
      case rel => exact ⟨i + 1, r + its.length, tv', ev', xs', ys', by omega, by go_num, rfl, HX7, HBK7, HW7⟩
      case measure => simp [intOf]; omega
    · have hlti : 2 * (ts.length : Int) ≤ (i : Int) := by omega
      clear hcum hsm
      go_wp2_with fail
      refine (whole2_any w2.heap.size tv ev xs ys wr HB (by have := HX.out; have := cum_le ts hi; have := hsum.out; omega) (by have := HX.out; omega)).mono ?_
      rintro e w9 ⟨rfl, hb9⟩
      go_wp2
      go_ret
      exact ⟨rfl, HW.out.trans (hb9.mono hsr)⟩
end Go.Proofs.YtodlcnbknjldnaaGreatDoor
namespace Go.Proofs.YtodlcnbknjldnaaGreatDoor
open Go.ChangeShapes Go.WideShapes Go.ChangeAt Go.WideMaps Go.WideElems Go.RowKit Chron
theorem giKinds : Tryz.prog.globalNamed "chronicle/canon.kinds" = some 1 := by kernel_rfl
theorem tiKinds : (Tryz.prog.globals[1]?).map (·.type) = some 90 := by kernel_rfl
theorem gNames : Tryz.prog.globalNamed "chronicle/canon.names" = some 0 := by kernel_rfl
theorem tNames : (Tryz.prog.globals[0]?).map (·.type) = some 73 := by kernel_rfl
theorem gErr : Tryz.prog.globalNamed "strconv.ErrSyntax" = some 8 := by kernel_rfl
theorem tErr : (Tryz.prog.globals[8]?).map (·.type) = some 85 := by kernel_rfl
/- what stands in a table of texts -/
theorem texts_table {W : World} {name : String} {g t n : Nat} {l : List (List UInt8)} (hg0 : Tryz.prog.globalNamed name = some g) (ht0 : (Tryz.prog.globals[g]?).map (·.type) = some t) (hu : Tryz.prog.underlying t = some (.array n 9))
    (h : Lib.VarReads Tryz.prog W name (.agg (l.map fun s => .lit (.string s)))) : l.length = n ∧ ∀ i s, l[i]? = some s → W.cell? ⟨g, i, none⟩ = some (.string (ba s)) := by
  obtain ⟨g', t', cs, fuel, p, hg, ht, hv, hd⟩ := h
  obtain rfl := Option.some.inj (hg0.symm.trans hg)
  obtain rfl := Option.some.inj (ht0.symm.trans ht)
  obtain ⟨xs, m1, rfl, hx1, hlen, hn4, hel⟩ := DataW.trod_array hu hd
  simp only [Prod.mk.injEq, DataW.agg.injEq] at hx1
  have hxl : l.length = xs.length := by have := congrArg List.length hx1.1; simpa using this
  refine ⟨by omega, fun i s hi => ?_⟩
  have hil := (List.getElem?_eq_some_iff.1 hi).1
  have he := hel i (by omega)
  obtain ⟨x, hx⟩ : ∃ x, xs[i]? = some x := ⟨_, List.getElem?_eq_getElem (by omega)⟩
  rw [hx] at he
  obtain ⟨s0, e0, f0, _⟩ := DataW.trod_string Tryz.underlying9 he
  rw [cellsStr] at e0
  have hlx := congrArg (·[i]?) hx1.1
  simp only [List.getElem?_map, hi, hx, Option.map_some, Option.some.injEq] at hlx
  rw [f0] at hlx
  simp only [DataW.lit.injEq, Lit.string.injEq] at hlx
  rw [World.var?_cell hg hv i]
  have h9 := congrArg (·[0]?) e0
  have h10 : cs[i]? = some (.string s0) := by simpa [List.getElem?_take, List.getElem?_drop] using h9
  rw [h10]
  exact congrArg (fun s => some (Value.string s)) (Chron.bytes_inj (by rw [← hlx]; simp [ba]))
set_option maxRecDepth 100000 in
theorem err_table {W : World} {n : String} {d : DataW Unit} (h : Lib.VarReads Tryz.prog W "strconv.ErrSyntax" (.iface n d)) : ErrV W := by
  obtain ⟨g', t', cs, fuel, p, hg, ht, hv, hd⟩ := h
  obtain rfl := Option.some.inj (gErr.symm.trans hg)
  obtain rfl := Option.some.inj (tErr.symm.trans ht)
  have key : ∃ te pe, cs.toList = [.iface te pe] := by
    cases fuel with
    | zero => simp [DataW.trod] at hd
    | succ k =>
      unfold DataW.trod at hd
      rw [Tryz.underlying85] at hd
      split at hd <;> simp_all
  obtain ⟨te, pe, hc⟩ := key
  refine ⟨te, pe, ?_⟩
  rw [World.var?_cell hg hv 0]
  have := congrArg (·[0]?) hc
  simpa using this
set_option maxRecDepth 100000 in
theorem glob_of {W : World} (h : laidMetH Tryz.prog Rows.importsUptoRow.laid W) : Glob W.heap.size W := by
  rw [MakeChecks.laidMetH_plain _ _ _ (by kernel_rfl)] at h
  have hk := texts_table (l := [wordB 1, wordB 2, wordB 3, wordB 4]) giKinds tiKinds Tryz.underlying90 (Lib.laidMet.reads h (n := "chronicle/canon.kinds") (d := Rows.laid_chronicle_canon_kinds) (by simp [Rows.importsUptoRow]))
  have hn := texts_table (l := namesL) gNames tNames Tryz.underlying73 (Lib.laidMet.reads h (n := "chronicle/canon.names") (d := Rows.laid_chronicle_canon_names) (by simp [Rows.importsUptoRow]))
  have he := err_table (Lib.laidMet.reads h (n := "strconv.ErrSyntax") (d := Rows.laid_strconv_ErrSyntax) (by simp [Rows.importsUptoRow]))
  have hkinds : Kinds W := by
    intro i hi
    have h4 : i = 0 ∨ i = 1 ∨ i = 2 ∨ i = 3 := by omega
    rcases h4 with rfl | rfl | rfl | rfl
    · exact hk.2 0 _ rfl
    · exact hk.2 1 _ rfl
    · exact hk.2 2 _ rfl
    · exact hk.2 3 _ rfl
  have hnames : ∀ i, i < 5 → W.cell? ⟨0, i, none⟩ = some (.string (ba (nameAt i))) := by
    intro i hi
    have h5 : i = 0 ∨ i = 1 ∨ i = 2 ∨ i = 3 ∨ i = 4 := by omega
    rcases h5 with rfl | rfl | rfl | rfl | rfl
    · exact hn.2 0 _ rfl
    · exact hn.2 1 _ rfl
    · exact hn.2 2 _ rfl
    · exact hn.2 3 _ rfl
    · exact hn.2 4 _ rfl
  obtain ⟨te, pe, hc⟩ := he
  exact ⟨⟨te, pe, hc⟩, hkinds, hnames, Nat.le_refl _, World.block_lt_of_cell? W _ hc, World.block_lt_of_cell? W _ (hkinds 0 (by decide)), World.block_lt_of_cell? W _ (hnames 0 (by decide))⟩
end Go.Proofs.YtodlcnbknjldnaaGreatDoor
