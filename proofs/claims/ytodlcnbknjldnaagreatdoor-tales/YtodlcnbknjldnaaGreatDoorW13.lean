/- Walks and plain facts, in the order in which they lean on one another. -/
import Derived.Test.YtodlcnbknjldnaaGreatDoorW11
import Derived.Test.YtodlcnbknjldnaaGreatDoorW12
import Derived.Test.YtodlcnbknjldnaaGreatDoorRows
import Derived.WalkKit
import Derived.ProofKit
import Derived.OpenShut
import Derived.ChangeOld
import Derived.Lib.LaidU8
import Derived.SevenTiedAt
import Derived.Test.YtodlcnbknjldnaaGreatDoorW07
import Derived.Test.YtodlcnbknjldnaaGreatDoorW09
namespace Go.Proofs.YtodlcnbknjldnaaGreatDoor
open Go.RowKit Chron
def impFirst : List UInt8 := [32, 91, 32, 123, 32, 34, 116, 105, 109, 101, 34, 32, 58, 32, 48, 44, 34, 116, 97, 115, 107, 34, 58, 34, 97, 92, 117, 48, 48, 54, 50, 34, 44, 34, 116, 97, 103, 115, 34, 58, 91, 32, 93, 44, 34, 107, 105, 110, 100, 34, 58, 34, 102, 97, 105, 108, 101, 100, 34, 44, 34, 98, 111, 100, 121, 34, 58, 34, 120, 34, 32, 125, 32, 93, 32]
def firstEv : Ev := ⟨3, ⟨#[97, 98]⟩, 0, ⟨#[120]⟩, []⟩
def isFirst : Option (List Ev) → Bool
  | some [e] => decide (e.kind = 3) && (decide (e.task.data.toList = [97, 98]) && (decide (e.time = 0) && (decide (e.body.data.toList = [120]) && e.tags.isEmpty)))
  | _ => false
theorem isFirst_eq {o : Option (List Ev)} (h : isFirst o = true) : o = some [firstEv] := by
  match o, h with
  | some [⟨k, t, m, b, ts⟩], h =>
    simp only [isFirst, Bool.and_eq_true, decide_eq_true_eq, List.isEmpty_iff] at h
    obtain ⟨h1, h2, h3, h4, h5⟩ := h
    subst h1 h3 h5
    have e1 : t = ⟨#[97, 98]⟩ := bytes_inj h2
    have e2 : b = ⟨#[120]⟩ := bytes_inj h4
    rw [e1, e2]; rfl
theorem first_all : allL impFirst = some [firstEv] := isFirst_eq (by decide +kernel)
theorem first_imp : impB impFirst = ([firstEv], 0) := by
  have h1 : (expB [firstEv]).2 = 0 := by
    rw [expB, if_neg (by decide), if_pos (by decide +kernel)]
  rw [impB, if_neg (by decide), first_all]
  simp only [h1, if_true]
theorem imp_ok (L : List UInt8) : (∀ e ∈ (impB L).1, isB e = true) ∧ (impB L).1.length ≤ 200 ∧ (impB L).1.length ≤ L.length := by
  unfold impB
  split
  · simp
  · split
    · simp
    · rename_i es hes
      split
      · rename_i h0
        unfold expB at h0
        split at h0
        · simp at h0
        · rename_i hfew
          split at h0
          · rename_i hall
            exact ⟨fun e he => List.all_eq_true.1 hall e he, by simpa using hfew, all_len hes⟩
          · simp at h0
      · simp
/- how many bytes the first texts have, one round behind the other -/
def sz (ts : List ByteArray) (i : Nat) : Nat := (ts[i]?.getD ByteArray.empty).size
def cumT (ts : List ByteArray) : Nat → Nat
  | 0 => 0
  | i + 1 => cumT ts i + sz ts (i % ts.length)
def sumT (ts : List ByteArray) : Nat := (ts.map ByteArray.size).sum
theorem sum_take (ts : List ByteArray) (k : Nat) : sumT (ts.take (k + 1)) = sumT (ts.take k) + sz ts k := by
  by_cases h : k < ts.length
  · rw [List.take_succ_eq_append_getElem h, sumT, sumT, List.map_append, List.sum_append, sz, List.getElem?_eq_getElem h]; simp
  · rw [List.take_of_length_le (by omega), List.take_of_length_le (by omega), sz, List.getElem?_eq_none (by omega)]
    rfl
theorem cum_first (ts : List ByteArray) : ∀ k, k ≤ ts.length → cumT ts k = sumT (ts.take k)
  | 0, _ => by simp [cumT, sumT]
  | k + 1, h => by rw [cumT, cum_first ts k (by omega), sum_take, Nat.mod_eq_of_lt (by omega)]
theorem cum_second (ts : List ByteArray) : ∀ k, k ≤ ts.length → cumT ts (ts.length + k) = sumT ts + sumT (ts.take k)
  | 0, _ => by rw [Nat.add_zero, cum_first ts _ (Nat.le_refl _), List.take_length]; simp [sumT]
  | k + 1, h => by
    rw [← Nat.add_assoc, cumT, cum_second ts k (by omega), sum_take, Nat.add_mod_left, Nat.mod_eq_of_lt (by omega)]; omega
theorem sum_le_take (ts : List ByteArray) (k : Nat) : sumT (ts.take k) ≤ sumT ts := by
  have : sumT ts = sumT (ts.take k) + sumT (ts.drop k) := by
    rw [sumT, sumT, sumT, ← List.sum_append, ← List.map_append, List.take_append_drop]
  omega
theorem cum_le (ts : List ByteArray) {i : Nat} (h : i ≤ 2 * ts.length) : cumT ts i ≤ 2 * sumT ts := by
  by_cases h1 : i ≤ ts.length
  · rw [cum_first ts i h1]; have := sum_le_take ts i; omega
  · obtain ⟨k, rfl⟩ : ∃ k, i = ts.length + k := ⟨i - ts.length, by omega⟩
    rw [cum_second ts k (by omega)]; have := sum_le_take ts k; omega
theorem Glob.grow {B : Nat} {w w' : World} (h : Glob B w) (hb : Below B w w') : Glob w'.heap.size w' := by
  have h2 := h.more hb
  have := h2.below
  exact ⟨h2.err, h2.kinds, h2.names, Nat.le_refl _, Nat.lt_of_lt_of_le h2.e this, Nat.lt_of_lt_of_le h2.k this, Nat.lt_of_lt_of_le h2.n this⟩
theorem Book2.clear {b : Nat} {tv ev : Value} {xs ys : List Value} {w : World} (h : Book2 b tv ev xs ys w) {q : Nat} (hq : w.heap.size ≤ q) : Clear b tv ev xs ys q := by
  have hb := h.lt
  refine ⟨by omega, fun e => by have := (h.tags.lt q e).2; omega, fun e => by have := (h.evts.lt q e).2; omega, fun v hv e => ?_, fun v hv e => ?_⟩
  · obtain ⟨i, hi⟩ := List.getElem?_of_mem hv
    rcases h.full i v hi with rfl | ⟨g, no, cap, ho, _⟩
    · cases e
    · have h1 := ho.blk
      have h2 := ho.lt
      rw [e] at h1
      have := Option.some.inj h1; omega
  · obtain ⟨i, hi⟩ := List.getElem?_of_mem hv
    rcases h.fullE i v hi with rfl | ⟨g, no, cap, ho, _⟩
    · cases e
    · have h1 := ho.blk
      have h2 := ho.lt
      rw [e] at h1
      have := Option.some.inj h1; omega
end Go.Proofs.YtodlcnbknjldnaaGreatDoor
namespace Go.Proofs.YtodlcnbknjldnaaGreatDoor
open Go.RowKit Chron
theorem few_is {e : Ev} (h : isB e = true) : Few 1048576 e := by
  have k := is_known h
  refine ⟨by have := k.few; omega, fun t ht => ?_, by have := k.task; omega, by have := k.body; omega⟩
  have := k.lines t ht
  omega
structure Got (L : List UInt8) (N : Nat) (w : World) (a : Option Addr) (cap : Nat) (its : List Item) : Prop where
  made : MadeO N w (.slice a its.length cap) its
  evs : evs its = (impB L).1
  len : its.length ≤ 200 ∧ its.length ≤ L.length
  few : ∀ it ∈ its, Few 1048576 it.ev
  four : ∀ it ∈ its, it.ev.tags.length ≤ 4
theorem ImpO.got {L : List UInt8} {N : Nat} {w : World} {lv : Value} (h : ImpO L N w lv) : ∃ a cap its, lv = .slice a its.length cap ∧ Got L N w a cap its := by
  obtain ⟨its, hM, hev⟩ := h
  obtain ⟨h1, h2, h3⟩ := imp_ok L
  rw [← hev] at h1 h2 h3
  have hm : ∀ it ∈ its, isB it.ev = true := fun it hi => h1 _ (List.mem_map.2 ⟨it, hi, rfl⟩)
  have hl : (evs its).length = its.length := by simp [evs]
  obtain ⟨a, cap, hlv, _⟩ := hM.made.evs (fun it hi => few_is (hm it hi))
  exact ⟨a, cap, its, hlv, by rw [← hlv]; exact hM, hev, ⟨by omega, by omega⟩, fun it hi => few_is (hm it hi), fun it hi => (is_known (hm it hi)).few⟩
theorem Got.at {L : List UInt8} {N : Nat} {w : World} {a : Option Addr} {cap : Nat} {its : List Item} (h : Got L N w a cap its) : EvsAt w a its := by
  obtain ⟨a', cap', hv, he⟩ := h.made.made.evs h.few
  cases hv
  exact he
theorem Got.below {L : List UInt8} {N : Nat} {w w' : World} {a : Option Addr} {cap : Nat} {its : List Item} (h : Got L N w a cap its) (hb : Below w.heap.size w w') : Got L N w' a cap its :=
  ⟨h.made.keep (fun q _ hq => hb.block q hq), h.evs, h.len, h.few, h.four⟩
theorem evs_first (X : World) : EvsAt (X.alloc (.cells #[.int .i64 3, .string ⟨#[97, 98]⟩, .int .i64 0, .string ⟨#[120]⟩, .slice none 0 0] 29)) (some ⟨X.heap.size, 0, none⟩) [⟨firstEv, none, 0⟩] := by
  intro _
  refine ⟨X.heap.size, 0, rfl, fun k i hk => ?_⟩
  have hk0 : k = 0 := by
    have := (List.getElem?_eq_some_iff.1 hk).1
    simp at this; exact this
  subst hk0
  simp only [List.getElem?_cons_zero, Option.some.injEq] at hk
  subst hk
  obtain ⟨c0, c1, c2, c3, c4, _⟩ := res_cells (heap_alloc_new X (.cells #[.int .i64 3, .string ⟨#[97, 98]⟩, .int .i64 0, .string ⟨#[120]⟩, .slice none 0 0] 29))
  refine ⟨⟨c0, c1, c2, c3, c4⟩, ⟨(fun h => by cases h), (fun k hk => by cases hk), by decide, by decide, by decide⟩⟩
set_option maxRecDepth 100000 in
set_option maxHeartbeats 4000000 in
theorem imports_any (a : Option Addr) (cap : Nat) (ts : List ByteArray) (w : World) (ht : Hid (TagsAt w a ts)) (hs : Hid (Low ts)) (hl : ts.length ≤ 1048576) (hsum : Hid (sumT ts ≤ 1048576)) (G : Hid (Glob w.heap.size w)) :
    Calls Tryz.prog 3 #[.slice a ts.length cap] w fun e w' => e = .returned (.bool true) ∧ Below w.heap.size w w' := by
  have hI0 := import_any ⟨impFirst.toArray⟩ w G (by decide)
  rw [show (⟨impFirst.toArray⟩ : ByteArray).data.toList = impFirst from rfl, first_imp] at hI0
  go_enter Tryz.func3, Tryz.ntmps3
  go_wp2_with fail
  refine hI0.mono ?_
  rintro e w1 ⟨lv, rfl, hO, hb1⟩
  obtain ⟨fa, fc, fi, rfl, hG⟩ := hO.out.got
  have HG := hide0 hG
  have hfe := hG.evs
  rw [first_imp] at hfe
  have hSA := sameAll_any fa (some ⟨w1.heap.size, 0, none⟩) fc 1 fi [⟨firstEv, none, 0⟩] (w1.alloc (.cells #[.int .i64 3, .string ⟨#[97, 98]⟩, .int .i64 0, .string ⟨#[120]⟩, .slice none 0 0] 29)) ((hG.at.below ((Below.refl _ _).alloc (Nat.le_refl _) _) (Nat.le_refl _))) (evs_first w1) hfe (by have := hG.len; omega)
  have hs1 := hb1.size
  clear hI0 hfe hG hO
  go_wp2_with fail
  refine hSA.mono ?_
  rintro e w2 ⟨rfl, hb2⟩
  have HW2 := hide0 ((hb1.alloc hs1 _).trans (hb2.mono (by rw [World.size_alloc]; omega)))
  have hs2 := HW2.out.size
  clear hb1 hb2 hSA HG hs1
  go_wp2_with fail
  go_loopw [5, 7] (fun okv iv wx => ∃ (i r : Nat) (tv ev : Value) (xs ys : List Value), i ≤ 2 * ts.length ∧ iv = .int .i64 i ∧ okv = .bool true ∧ Hid (xs.length = 4 * r ∧ r ≤ cumT ts i ∧ ys.length = 4 * i) ∧ Hid (Book2 w2.heap.size tv ev xs ys wx) ∧ Hid (Below w.heap.size w wx)) (fun _ iv _ => 2 * ts.length - (intOf iv).toNat)
  case atStart => exact ⟨0, 0, .slice none 0 0, .slice none 0 0, [], [], Nat.zero_le _, rfl, rfl, ⟨rfl, Nat.le_refl _, rfl⟩, ⟨heap_alloc_new _ _, World.ownsRow_nil _ _ _ _, World.ownsRow_nil _ _ _ _, (fun q hq => by cases hq), (fun i v hv => by simp at hv), (fun i v hv => by simp at hv)⟩, HW2.out.alloc hs2 _⟩
  case round =>
    obtain ⟨i, r, tv, ev, xs, ys, hi, rfl, rfl, HX, HB, HW⟩ := hrel
    have hsr := HW.out.size
    have hcum := cum_le ts hi
    have hsm := hsum.out
    by_cases hlt : i < 2 * ts.length
    · have hlti : (i : Int) < 2 * (ts.length : Int) := by omega
      have hn0 : ((ts.length : Int) == 0) = false := beq_eq_false_iff_ne.2 (by omega)
      have hn1 : ((ts.length : Int) == -1) = false := beq_eq_false_iff_ne.2 (by omega)
      have hpl : i % ts.length < ts.length := Nat.mod_lt _ (by omega)
      obtain ⟨p, hp, hpn, HPI⟩ : ∃ p : Nat, (i : Int) % (ts.length : Int) = p ∧ p < ts.length ∧ Hid (p = i % ts.length) := ⟨i % ts.length, by simp, hpl, rfl⟩
      obtain ⟨q, off, rfl, hcx⟩ := ht.out (by omega)
      have hck := hcx p hpn
      have hqlt := World.block_lt_of_cell? w _ hck
      have hss := hs.out p hpn
      have HCU : Hid (cumT ts (i + 1) = cumT ts i + (ts[p]?.getD ByteArray.empty).size) := by rw [Hid, cumT, sz, HPI.out]
      have hcum2 := cum_le ts (i := i + 1) (by omega)
      have HCM : Hid (cumT ts (i + 1) ≤ 2097152) := by show _ ≤ _; omega
      generalize ts[p]?.getD ByteArray.empty = s at hck hss HCU
      have hcs : wr.cell? ⟨q, off + p, none⟩ = some (.string s) := (HW.out.cell (p := ⟨q, off + p, none⟩) hqlt).trans hck
      have G0 := hide0 (G.out.grow HW.out)
      have hC := import_any s wr G0 (by unfold maxLen; omega)
      have hR := fun X => importRef_any s X (by unfold maxLen; omega)
      generalize hZ : (impB s.data.toList).2 = er at hC hR
      have hb2 : w2.heap.size < wr.heap.size := HB.out.lt
      clear hcx hck hpl hZ hcum hcum2 hsm
      go_wp2_with fail
      refine hC.mono ?_
      rintro e w3 ⟨lv, rfl, hO, hb3⟩
      obtain ⟨la, lc, its, rfl, hG⟩ := hO.out.got
      have HG3 := hide0 hG
      have HB3 := hide0 hb3
      have hs3 := hb3.size
      clear hC hG hO hcs hb3
      go_wp2_with fail
      refine (hR _).mono ?_
      rintro e w4 ⟨mv, rfl, hI, hb4⟩
      obtain ⟨ma, mc, mi, rfl, hmE, hmev, hml⟩ := hI.out
      have HG4 := hide0 (HG3.out.below hb4)
      have HB4 := hide0 (HB3.out.trans (hb4.mono hs3))
      have hs4 := hb4.size
      have hSA := sameAll_any la ma lc mc its mi w4 HG4.out.at hmE (by show _ = _; rw [HG4.out.evs, hmev]) (by have := HG4.out.len; omega)
      clear hR hI hmE hmev hml hb4 HG3 HB3
      go_wp2_with fail
      refine hSA.mono ?_
      rintro e w5 ⟨rfl, hb5⟩
      have HG5 := hide0 (HG4.out.below hb5)
      have hs5 := hb5.size
      have HB5 := hide0 (HB4.out.trans (hb5.mono (by omega)))
      have HBK5 := hide0 (HB.out.below HB5.out)
      have HP5 : Hid (Pend w2.heap.size tv ev xs ys w5 (.slice la its.length lc) its 0) := HG5.out.made.pend (by omega) (fun q hq => HB.out.clear hq)
      have hlen := HG5.out.len
      have hl5 : its.length ≤ 200 := hlen.1
      have HLE : Hid (its.length ≤ s.size) := by show _ ≤ _; have : s.data.toList.length = s.size := by simp
                                                 omega
      have HF5 : Hid (∀ it ∈ its, it.ev.tags.length ≤ 4) := HG5.out.four
      clear hSA hb5 HG4 HB4 hlen
      go_wp2_with fail
      refine (keep_any w2.heap.size r i tv ev xs ys (.slice la its.length lc) its w5 HBK5 HP5 hl5 HF5 ⟨HX.out.1, by have := HX.out; have := HCU.out; have := HCM.out; have := HLE.out; omega⟩ ⟨HX.out.2.2, by omega⟩).mono ?_
      rintro e w6 ⟨rfl, tv', ev', xs', ys', HBK6, HX6, hb6⟩
      have hs6 := hb6.size
      have HW6 := hide0 ((HW.out.trans (HB5.out.mono hsr)).trans (hb6.mono hs2))
      have HX7 : Hid (xs'.length = 4 * (r + its.length) ∧ r + its.length ≤ cumT ts (i + 1) ∧ ys'.length = 4 * (i + 1)) := ⟨HX6.out.1, by have := HX.out; have := HCU.out; have := HLE.out; omega, HX6.out.2⟩
      clear hb6 HBK5 HP5 HB5 HG5
      go_wp2_with fail
      refine (whole2_any w2.heap.size tv' ev' xs' ys' w6 HBK6 (by have := HX7.out; have := HCM.out; omega) (by have := HX7.out; omega)).mono ?_
      rintro e w7 ⟨rfl, hb7⟩
      have HBK7 := hide0 (HBK6.out.below hb7)
      have HW7 := hide0 (HW6.out.trans (hb7.mono HW6.out.size))
      have hfg : (er != er) = false := by simp
      clear hb7 HBK6 HW6
      go_wp2
      go_roundw
      case rel => exact ⟨i + 1, r + its.length, tv', ev', xs', ys', by omega, by go_num, rfl, HX7, HBK7, HW7⟩
      case measure => simp [intOf]; omega
    · have hlti : 2 * (ts.length : Int) ≤ (i : Int) := by omega
      clear hcum hsm
      go_wp2_with fail
      refine (whole2_any w2.heap.size tv ev xs ys wr HB (by have := HX.out; have := cum_le ts hi; have := hsum.out; omega) (by have := HX.out; omega)).mono ?_
      rintro e w9 ⟨rfl, hb9⟩
      go_wp2
      go_ret
      exact ⟨rfl, HW.out.trans (hb9.mono hsr)⟩
end Go.Proofs.YtodlcnbknjldnaaGreatDoor
namespace Go.Proofs.YtodlcnbknjldnaaGreatDoor
open Go.ChangeShapes Go.WideShapes Go.ChangeAt Go.WideMaps Go.WideElems Go.RowKit Chron
theorem giKinds : Tryz.prog.globalNamed "chronicle/canon.kinds" = some 1 := by kernel_rfl
theorem tiKinds : (Tryz.prog.globals[1]?).map (·.type) = some 90 := by kernel_rfl
theorem gNames : Tryz.prog.globalNamed "chronicle/canon.names" = some 0 := by kernel_rfl
theorem tNames : (Tryz.prog.globals[0]?).map (·.type) = some 73 := by kernel_rfl
theorem gErr : Tryz.prog.globalNamed "strconv.ErrSyntax" = some 8 := by kernel_rfl
theorem tErr : (Tryz.prog.globals[8]?).map (·.type) = some 85 := by kernel_rfl
/- what stands in a table of texts -/
theorem texts_table {W : World} {name : String} {g t n : Nat} {l : List (List UInt8)} (hg0 : Tryz.prog.globalNamed name = some g) (ht0 : (Tryz.prog.globals[g]?).map (·.type) = some t) (hu : Tryz.prog.underlying t = some (.array n 9))
    (h : Lib.VarReads Tryz.prog W name (.agg (l.map fun s => .lit (.string s)))) : l.length = n ∧ ∀ i s, l[i]? = some s → W.cell? ⟨g, i, none⟩ = some (.string (ba s)) := by
  obtain ⟨g', t', cs, fuel, p, hg, ht, hv, hd⟩ := h
  obtain rfl := Option.some.inj (hg0.symm.trans hg)
  obtain rfl := Option.some.inj (ht0.symm.trans ht)
  obtain ⟨xs, m1, rfl, hx1, hlen, hn4, hel⟩ := DataW.trod_array hu hd
  simp only [Prod.mk.injEq, DataW.agg.injEq] at hx1
  have hxl : l.length = xs.length := by have := congrArg List.length hx1.1; simpa using this
  refine ⟨by omega, fun i s hi => ?_⟩
  have hil := (List.getElem?_eq_some_iff.1 hi).1
  have he := hel i (by omega)
  obtain ⟨x, hx⟩ : ∃ x, xs[i]? = some x := ⟨_, List.getElem?_eq_getElem (by omega)⟩
  rw [hx] at he
  obtain ⟨s0, e0, f0, _⟩ := DataW.trod_string Tryz.underlying9 he
  rw [cellsStr] at e0
  have hlx := congrArg (·[i]?) hx1.1
  simp only [List.getElem?_map, hi, hx, Option.map_some, Option.some.injEq] at hlx
  rw [f0] at hlx
  simp only [DataW.lit.injEq, Lit.string.injEq] at hlx
  rw [World.var?_cell hg hv i]
  have h9 := congrArg (·[0]?) e0
  have h10 : cs[i]? = some (.string s0) := by simpa [List.getElem?_take, List.getElem?_drop] using h9
  rw [h10]
  exact congrArg (fun s => some (Value.string s)) (Chron.bytes_inj (by rw [← hlx]; simp [ba]))
set_option maxRecDepth 100000 in
theorem err_table {W : World} {n : String} {d : DataW Unit} (h : Lib.VarReads Tryz.prog W "strconv.ErrSyntax" (.iface n d)) : ErrV W := by
  obtain ⟨g', t', cs, fuel, p, hg, ht, hv, hd⟩ := h
  obtain rfl := Option.some.inj (gErr.symm.trans hg)
  obtain rfl := Option.some.inj (tErr.symm.trans ht)
  have key : ∃ te pe, cs.toList = [.iface te pe] := by
    cases fuel with
    | zero => simp [DataW.trod] at hd
    | succ k =>
      unfold DataW.trod at hd
      rw [Tryz.underlying85] at hd
      split at hd <;> simp_all
  obtain ⟨te, pe, hc⟩ := key
  refine ⟨te, pe, ?_⟩
  rw [World.var?_cell hg hv 0]
  have := congrArg (·[0]?) hc
  simpa using this
set_option maxRecDepth 100000 in
theorem glob_of {W : World} (h : laidMetH Tryz.prog Rows.importsUptoRow.laid W) : Glob W.heap.size W := by
  rw [MakeChecks.laidMetH_plain _ _ _ (by kernel_rfl)] at h
  have hk := texts_table (l := [wordB 1, wordB 2, wordB 3, wordB 4]) giKinds tiKinds Tryz.underlying90 (Lib.laidMet.reads h (n := "chronicle/canon.kinds") (d := Rows.laid_chronicle_canon_kinds) (by simp [Rows.importsUptoRow]))
  have hn := texts_table (l := namesL) gNames tNames Tryz.underlying73 (Lib.laidMet.reads h (n := "chronicle/canon.names") (d := Rows.laid_chronicle_canon_names) (by simp [Rows.importsUptoRow]))
  have he := err_table (Lib.laidMet.reads h (n := "strconv.ErrSyntax") (d := Rows.laid_strconv_ErrSyntax) (by simp [Rows.importsUptoRow]))
  have hkinds : Kinds W := by
    intro i hi
    have h4 : i = 0 ∨ i = 1 ∨ i = 2 ∨ i = 3 := by omega
    rcases h4 with rfl | rfl | rfl | rfl
    · exact hk.2 0 _ rfl
    · exact hk.2 1 _ rfl
    · exact hk.2 2 _ rfl
    · exact hk.2 3 _ rfl
  have hnames : ∀ i, i < 5 → W.cell? ⟨0, i, none⟩ = some (.string (ba (nameAt i))) := by
    intro i hi
    have h5 : i = 0 ∨ i = 1 ∨ i = 2 ∨ i = 3 ∨ i = 4 := by omega
    rcases h5 with rfl | rfl | rfl | rfl | rfl
    · exact hn.2 0 _ rfl
    · exact hn.2 1 _ rfl
    · exact hn.2 2 _ rfl
    · exact hn.2 3 _ rfl
    · exact hn.2 4 _ rfl
  obtain ⟨te, pe, hc⟩ := he
  exact ⟨⟨te, pe, hc⟩, hkinds, hnames, Nat.le_refl _, World.block_lt_of_cell? W _ hc, World.block_lt_of_cell? W _ (hkinds 0 (by decide)), World.block_lt_of_cell? W _ (hnames 0 (by decide))⟩
end Go.Proofs.YtodlcnbknjldnaaGreatDoor
namespace Chron
open Go Go.RowKit Go.Proofs.YtodlcnbknjldnaaGreatDoor
def isSign (c : UInt8) : Bool := c == 44 || c == 58 || c == 91 || c == 93 || c == 123 || c == 125
def blanksL (l : List UInt8) : Prop := ∀ c ∈ l, isBlank c = true
/- s within (or outside) quotes, and what it may have become -/
def Sp : Bool → List UInt8 → List UInt8 → Prop
  | false, [], o => o = []
  | true, [], _ => False
  | false, c :: s, o => (isSign c = true ∧ ∃ b1 b2 o', blanksL b1 ∧ blanksL b2 ∧ o = b1 ++ c :: (b2 ++ o') ∧ Sp false s o') ∨ (c = 34 ∧ ∃ o', o = 34 :: o' ∧ Sp true s o') ∨ (isSign c = false ∧ c ≠ 34 ∧ ∃ o', o = c :: o' ∧ Sp false s o')
  | true, c :: s, o => (c = 34 ∧ ∃ o', o = 34 :: o' ∧ Sp false s o') ∨ (c = 92 ∧ match s with
      | [] => False
      | d :: s2 => ∃ o', o = 92 :: d :: o' ∧ Sp true s2 o') ∨ (c ≠ 34 ∧ c ≠ 92 ∧ ∃ a b o', (∃ m n, hexD a = some m ∧ hexD b = some n ∧ 16 * m + n = c.toNat) ∧ o = 92 :: 117 :: 48 :: 48 :: a :: b :: o' ∧ Sp true s o') ∨ (c = 47 ∧ ∃ o', o = 92 :: 47 :: o' ∧ Sp true s o') ∨ (c ≠ 34 ∧ c ≠ 92 ∧ ∃ o', o = c :: o' ∧ Sp true s o')
theorem Sp.nil : Sp false [] [] := by rw [Sp]
theorem Sp.sign (c : UInt8) (b1 b2 s o : List UInt8) (h1 : isSign c = true) (h2 : blanksL b1) (h3 : blanksL b2) (h4 : Sp false s o) : Sp false (c :: s) (b1 ++ c :: (b2 ++ o)) := by rw [Sp]; exact .inl ⟨h1, b1, b2, o, h2, h3, rfl, h4⟩
theorem Sp.opens (s o : List UInt8) (h : Sp true s o) : Sp false (34 :: s) (34 :: o) := by rw [Sp]; exact .inr (.inl ⟨rfl, o, rfl, h⟩)
theorem Sp.other (c : UInt8) (s o : List UInt8) (h1 : isSign c = false) (h2 : c ≠ 34) (h : Sp false s o) : Sp false (c :: s) (c :: o) := by rw [Sp]; exact .inr (.inr ⟨h1, h2, o, rfl, h⟩)
theorem Sp.shuts (s o : List UInt8) (h : Sp false s o) : Sp true (34 :: s) (34 :: o) := by unfold Sp; exact .inl ⟨rfl, o, rfl, h⟩
theorem Sp.esc (c : UInt8) (s o : List UInt8) (h : Sp true s o) : Sp true (92 :: c :: s) (92 :: c :: o) := by unfold Sp; exact .inr (.inl ⟨rfl, o, rfl, h⟩)
theorem Sp.hex (c a b : UInt8) (s o : List UInt8) (h1 : c ≠ 34) (h2 : c ≠ 92) (h3 : ∃ m n, hexD a = some m ∧ hexD b = some n ∧ 16 * m + n = c.toNat) (h : Sp true s o) : Sp true (c :: s) (92 :: 117 :: 48 :: 48 :: a :: b :: o) := by unfold Sp; exact .inr (.inr (.inl ⟨h1, h2, a, b, o, h3, rfl, h⟩))
theorem Sp.slash (s o : List UInt8) (h : Sp true s o) : Sp true (47 :: s) (92 :: 47 :: o) := by unfold Sp; exact .inr (.inr (.inr (.inl ⟨rfl, o, rfl, h⟩)))
theorem Sp.plain (c : UInt8) (s o : List UInt8) (h1 : c ≠ 34) (h2 : c ≠ 92) (h : Sp true s o) : Sp true (c :: s) (c :: o) := by unfold Sp; exact .inr (.inr (.inr (.inr ⟨h1, h2, o, rfl, h⟩)))
theorem Sp.out {c : UInt8} {s o : List UInt8} (h : Sp false (c :: s) o) : (isSign c = true ∧ ∃ b1 b2 o', blanksL b1 ∧ blanksL b2 ∧ o = b1 ++ c :: (b2 ++ o') ∧ Sp false s o') ∨ (c = 34 ∧ ∃ o', o = 34 :: o' ∧ Sp true s o') ∨ (isSign c = false ∧ c ≠ 34 ∧ ∃ o', o = c :: o' ∧ Sp false s o') := by rw [Sp] at h; exact h
theorem Sp.inn {c : UInt8} {s o : List UInt8} (h : Sp true (c :: s) o) : (c = 34 ∧ ∃ o', o = 34 :: o' ∧ Sp false s o') ∨ (c = 92 ∧ ∃ d s2 o', s = d :: s2 ∧ o = 92 :: d :: o' ∧ Sp true s2 o') ∨ (c ≠ 34 ∧ c ≠ 92 ∧ ∃ a b o', (∃ m n, hexD a = some m ∧ hexD b = some n ∧ 16 * m + n = c.toNat) ∧ o = 92 :: 117 :: 48 :: 48 :: a :: b :: o' ∧ Sp true s o') ∨ (c = 47 ∧ ∃ o', o = 92 :: 47 :: o' ∧ Sp true s o') ∨ (c ≠ 34 ∧ c ≠ 92 ∧ ∃ o', o = c :: o' ∧ Sp true s o') := by
  unfold Sp at h
  rcases h with h | ⟨h1, h2⟩ | h
  · exact .inl h
  · cases s with
    | nil => exact absurd h2 id
    | cons d s2 => obtain ⟨o', h3, h4⟩ := h2; exact .inr (.inl ⟨h1, d, s2, o', rfl, h3, h4⟩)
  · exact .inr (.inr h)
/- blanks ahead -/
def SpB (s o : List UInt8) : Prop := ∃ b r, blanksL b ∧ o = b ++ r ∧ Sp false s r
theorem Sp.b {s o : List UInt8} (h : Sp false s o) : SpB s o := ⟨[], o, (fun c h => by cases h), rfl, h⟩
theorem skip_blanks {b r : List UInt8} (h : blanksL b) : skipL (b ++ r) = skipL r := by
  induction b with
  | nil => rfl
  | cons x b ih =>
    unfold skipL at *
    rw [List.cons_append, List.dropWhile_cons_of_pos (h x (by simp))]
    exact ih (fun c hc => h c (by simp [hc]))
theorem skip_other {c : UInt8} {r : List UInt8} (h : isBlank c = false) : skipL (c :: r) = c :: r := by
  unfold skipL
  rw [List.dropWhile_cons_of_neg (by simp [h])]
theorem sign_blank {c : UInt8} (h : isSign c = true) : isBlank c = false := by
  simp only [isSign, Bool.or_eq_true, beq_iff_eq] at h
  rcases h with ((((rfl | rfl) | rfl) | rfl) | rfl) | rfl <;> decide
theorem SpB.skip {c : UInt8} {s o : List UInt8} (hc : isSign c = true) (h : SpB (c :: s) o) : ∃ o', skipL o = c :: o' ∧ SpB s o' := by
  obtain ⟨b, r, hb, rfl, hr⟩ := h
  rw [skip_blanks hb]
  rcases hr.out with ⟨_, b1, b2, o, h2, h3, rfl, h4⟩ | ⟨rfl, _⟩ | ⟨h1, _⟩
  · exact ⟨b2 ++ o, by rw [skip_blanks h2, skip_other (sign_blank hc)], b2, o, h3, rfl, h4⟩
  · simp [isSign] at hc
  · rw [hc] at h1; cases h1
theorem SpB.sign {c : UInt8} {s o : List UInt8} (hc : isSign c = true) (h : SpB (c :: s) o) : ∃ o', signL c o = some o' ∧ (∀ d, d ≠ c → signL d o = none) ∧ SpB s o' := by
  obtain ⟨o', h1, h2⟩ := h.skip hc
  refine ⟨o', by unfold signL; rw [h1]; simp, fun d hd => ?_, h2⟩
  unfold signL; rw [h1]; simp [Ne.symm hd]
theorem SpB.nil {o : List UInt8} (h : SpB [] o) : skipL o = [] := by
  obtain ⟨b, r, hb, rfl, hr⟩ := h
  rw [Sp] at hr
  subst hr
  rw [skip_blanks hb]; rfl
theorem SpB.open {s o : List UInt8} (h : SpB (34 :: s) o) : ∃ o', signL 34 o = some o' ∧ (∀ d, d ≠ 34 → signL d o = none) ∧ Sp true s o' := by
  obtain ⟨b, r, hb, rfl, hr⟩ := h
  have hs : ∃ o', r = 34 :: o' ∧ Sp true s o' := by
    rcases hr.out with ⟨h1, _⟩ | ⟨_, h⟩ | ⟨_, h2, _⟩
    · simp [isSign] at h1
    · exact h
    · exact absurd rfl h2
  obtain ⟨o', rfl, h2⟩ := hs
  have hk : skipL (b ++ 34 :: o') = 34 :: o' := by rw [skip_blanks hb, skip_other (by decide)]
  refine ⟨o', by unfold signL; rw [hk]; simp, fun d hd => ?_, h2⟩
  unfold signL; rw [hk]; simp [Ne.symm hd]
/- a letter in quotes -/
theorem letter_plain {c : UInt8} {o : List UInt8} (hb : byteOk c = true) (h92 : c ≠ 92) : letterL (c :: o) = some (c, o) := by
  rw [letter_esc, if_neg h92, plainL]; simp [hb]
theorem letter_pair {c : UInt8} {o : List UInt8} (hc : c = 34 ∨ c = 92 ∨ c = 47) : letterL (92 :: c :: o) = some (c, o) := by
  rw [letter_esc, if_pos rfl, escL, if_pos hc]
theorem letter_hex {c a b : UInt8} {o : List UInt8} (hb : byteOk c = true) (h : ∃ m n, hexD a = some m ∧ hexD b = some n ∧ 16 * m + n = c.toNat) : letterL (92 :: 117 :: 48 :: 48 :: a :: b :: o) = some (c, o) := by
  obtain ⟨m, n, h1, h2, h3⟩ := h
  have hc : UInt8.ofNat (16 * m + n) = c := by rw [h3]; simp
  rw [letter_esc, if_pos rfl, escL, if_neg (by decide), if_pos rfl, codedL]
  simp only [h1, h2, if_true, and_self, hc, plainL, hb]
theorem Sp.quoted : ∀ {body s o : List UInt8}, (∀ c ∈ body, byteOk c = true) → Sp true (inQ body ++ 34 :: s) o → ∃ o', inL o = some (body, o') ∧ Sp false s o'
  | [], s, o, _, h => by
    rcases Sp.inn (c := 34) h with ⟨_, o', rfl, h1⟩ | ⟨h1, _⟩ | ⟨h1, _⟩ | ⟨h1, _⟩ | ⟨h1, _⟩
    · exact ⟨o', in_end o', h1⟩
    · exact absurd h1 (by decide)
    · exact absurd rfl h1
    · exact absurd h1 (by decide)
    · exact absurd rfl h1
  | c :: body, s, o, hb, h => by
    have hbc := hb c (by simp)
    have hbs : ∀ x ∈ body, byteOk x = true := fun x hx => hb x (by simp [hx])
    have fin : ∀ {x : UInt8} {o1 o2 : List UInt8}, x ≠ 34 → letterL (x :: o1) = some (c, o2) → (∃ o', inL o2 = some (body, o') ∧ Sp false s o') → ∃ o', inL (x :: o1) = some (c :: body, o') ∧ Sp false s o' := by
      rintro x o1 o2 hx hl ⟨o', h1, h2⟩
      exact ⟨o', by rw [in_step hx hl, h1]; rfl, h2⟩
    by_cases he : c = 34 ∨ c = 92
    · have e1 : inQ (c :: body) ++ 34 :: s = 92 :: c :: (inQ body ++ 34 :: s) := by simp [inQ, escB, he]
      rw [e1] at h
      rcases h.inn with ⟨h1, _⟩ | ⟨_, d, s2, o', e2, rfl, h1⟩ | ⟨_, h1, _⟩ | ⟨h1, _⟩ | ⟨_, h1, _⟩
      · exact absurd h1 (by decide)
      · obtain ⟨rfl, rfl⟩ := List.cons.inj e2
        exact fin (by decide) (letter_pair (by rcases he with rfl | rfl <;> simp)) (Sp.quoted hbs h1)
      · exact absurd rfl h1
      · exact absurd h1 (by decide)
      · exact absurd rfl h1
    · have e1 : inQ (c :: body) ++ 34 :: s = c :: (inQ body ++ 34 :: s) := by simp [inQ, escB, he]
      rw [e1] at h
      have n34 : c ≠ 34 := fun e => he (.inl e)
      have n92 : c ≠ 92 := fun e => he (.inr e)
      have next : ∀ {o : List UInt8}, Sp true (inQ body ++ 34 :: s) o → ∃ o', inL o = some (body, o') ∧ Sp false s o' := fun h => Sp.quoted hbs h
      generalize inQ body ++ 34 :: s = z at h next
      rcases h.inn with ⟨h1, _⟩ | ⟨h1, _⟩ | ⟨_, _, a, b, o', h1, rfl, h2⟩ | ⟨rfl, o', rfl, h1⟩ | ⟨_, _, o', rfl, h1⟩
      · exact absurd h1 n34
      · exact absurd h1 n92
      · exact fin (by decide) (letter_hex hbc h1) (next h2)
      · exact fin (by decide) (letter_pair (by simp)) (next h1)
      · exact fin n34 (letter_plain hbc n92) (next h1)
theorem SpB.quote {body s o : List UInt8} (hb : ∀ c ∈ body, byteOk c = true) (h : SpB (qB body ++ s) o) : ∃ o', quoteL o = some (body, o') ∧ SpB s o' ∧ ∀ d, d ≠ 34 → signL d o = none := by
  have e1 : qB body ++ s = 34 :: (inQ body ++ 34 :: s) := by simp [qB]
  rw [e1] at h
  obtain ⟨o1, h1, h2, h3⟩ := h.open
  obtain ⟨o', h4, h5⟩ := h3.quoted hb
  exact ⟨o', by rw [quoteL, h1]; exact h4, h5.b, h2⟩
end Chron
namespace Chron
open Go Go.RowKit Go.Proofs.YtodlcnbknjldnaaGreatDoor
theorem dig_of (k : Nat) (h : k < 10) : isDig (UInt8.ofNat (48 + k)) = true ∧ (UInt8.ofNat (48 + k)).toNat - 48 = k ∧ (UInt8.ofNat (48 + k) = 48 → k = 0) := by
  have : k = 0 ∨ k = 1 ∨ k = 2 ∨ k = 3 ∨ k = 4 ∨ k = 5 ∨ k = 6 ∨ k = 7 ∨ k = 8 ∨ k = 9 := by omega
  rcases this with rfl | rfl | rfl | rfl | rfl | rfl | rfl | rfl | rfl | rfl <;> decide
theorem digits_all (n : Nat) : (∀ d ∈ Lib.decDigits n, isDig d = true) ∧ Lib.decDigits n ≠ [] ∧ ((Lib.decDigits n).head? = some 48 → Lib.decDigits n = [48]) ∧ numL (Lib.decDigits n) = min n 1125899906842625 := by
  induction n using Nat.strongRecOn with
  | ind n ih =>
    rw [Lib.decDigits]
    split
    · rename_i h
      obtain ⟨h1, h2, h3⟩ := dig_of n h
      refine ⟨by simpa using h1, by simp, fun e => ?_, ?_⟩
      · simp only [List.head?_cons, Option.some.injEq] at e
        rw [e]
      · simp only [numL, List.foldl_cons, List.foldl_nil, capN, h2]; omega
    · rename_i h
      obtain ⟨i1, i2, i3, i4⟩ := ih (n / 10) (by omega)
      obtain ⟨h1, h2, h3⟩ := dig_of (n % 10) (by omega)
      refine ⟨fun d hd => ?_, by simp, fun e => ?_, ?_⟩
      · rcases List.mem_append.1 hd with hd | hd
        · exact i1 d hd
        · simp only [List.mem_singleton] at hd; rw [hd]; exact h1
      · have hh : (Lib.decDigits (n / 10)).head? = some 48 := by
          cases hz : Lib.decDigits (n / 10) with
          | nil => exact absurd hz i2
          | cons x r => rw [hz] at e; simpa using e
        have h48 := i3 hh
        rw [h48] at i4
        have : numL [48] = 0 := by decide
        rw [this] at i4
        omega
      · rw [numL_snoc, i4, capN, h2]; omega
theorem digits_bad (n : Nat) : badNum (Lib.decDigits n) = false := by
  obtain ⟨_, h2, h3, _⟩ := digits_all n
  unfold badNum
  cases hz : Lib.decDigits n with
  | nil => exact absurd hz h2
  | cons x r =>
    rw [hz] at h3
    simp only [List.isEmpty_cons, Bool.false_or, List.head?_cons]
    by_cases hx : x = 48
    · have := h3 (by rw [hx]; rfl)
      rw [this]; simp
    · simp [hx]
theorem Sp.digits : ∀ {ds s o : List UInt8}, (∀ d ∈ ds, isDig d = true) → Sp false (ds ++ s) o → ∃ o', o = ds ++ o' ∧ Sp false s o'
  | [], s, o, _, h => ⟨o, rfl, h⟩
  | d :: ds, s, o, hd, h => by
    have h1 := hd d (by simp)
    have ns : isSign d = false := by
      cases hs : isSign d with
      | false => rfl
      | true =>
        simp only [isSign, Bool.or_eq_true, beq_iff_eq] at hs
        rcases hs with ((((rfl | rfl) | rfl) | rfl) | rfl) | rfl <;> simp [isDig] at h1
    have n34 : d ≠ 34 := by rintro rfl; simp [isDig] at h1
    have next : ∀ {o : List UInt8}, Sp false (ds ++ s) o → ∃ o', o = ds ++ o' ∧ Sp false s o' := fun h => Sp.digits (fun x hx => hd x (by simp [hx])) h
    rw [List.cons_append] at h
    generalize ds ++ s = z at h next
    rcases h.out with ⟨h2, _⟩ | ⟨h2, _⟩ | ⟨_, _, o, rfl, h2⟩
    · rw [ns] at h2; cases h2
    · exact absurd h2 n34
    · obtain ⟨o', rfl, h3⟩ := next h2
      exact ⟨o', rfl, h3⟩
theorem Sp.first {c : UInt8} {s o : List UInt8} (hc : isSign c = true) (h : Sp false (c :: s) o) : o = [] ∨ ∃ x l, o = x :: l ∧ isDig x = false := by
  rcases h.out with ⟨_, b1, b2, o, h2, h3, rfl, h4⟩ | ⟨rfl, _⟩ | ⟨h1, _⟩
  · cases b1 with
    | nil =>
      refine .inr ⟨c, b2 ++ o, rfl, ?_⟩
      simp only [isSign, Bool.or_eq_true, beq_iff_eq] at hc
      rcases hc with ((((rfl | rfl) | rfl) | rfl) | rfl) | rfl <;> decide
    | cons y b1 =>
      refine .inr ⟨y, b1 ++ c :: (b2 ++ o), rfl, ?_⟩
      have hy := h2 y (by simp)
      simp only [isBlank, Bool.or_eq_true, beq_iff_eq] at hy
      rcases hy with ((rfl | rfl) | rfl) | rfl <;> decide
  · simp [isSign] at hc
  · rw [hc] at h1; cases h1
theorem SpB.count {n : Nat} {c : UInt8} {s o : List UInt8} (hn : n ≤ 1125899906842624) (hc : isSign c = true) (h : SpB (Lib.decDigits n ++ c :: s) o) : ∃ o', countL o = some (n, o') ∧ SpB (c :: s) o' := by
  obtain ⟨b, r, hb, rfl, hr⟩ := h
  obtain ⟨d1, d2, _, d4⟩ := digits_all n
  obtain ⟨o', rfl, h2⟩ := hr.digits d1
  have hsk : skipL (b ++ (Lib.decDigits n ++ o')) = Lib.decDigits n ++ o' := by
    rw [skip_blanks hb]
    cases hz : Lib.decDigits n with
    | nil => exact absurd hz d2
    | cons x l =>
      rw [hz] at d1
      have hx := d1 x (by simp)
      rw [List.cons_append, skip_other]
      cases hbk : isBlank x with
      | false => rfl
      | true =>
        simp only [isBlank, Bool.or_eq_true, beq_iff_eq] at hbk
        rcases hbk with ((rfl | rfl) | rfl) | rfl <;> simp [isDig] at hx
  have ho := h2.first hc
  obtain ⟨t1, t2⟩ := take_dig d1 ho
  refine ⟨o', ?_, h2.b⟩
  unfold countL
  simp only [hsk, t1, t2, digits_bad, d4]
  rw [Nat.min_eq_left (by omega)]
  rfl
/- things with a comma between two -/
theorem SpB.items {α : Type} {one : List UInt8 → Option (α × List UInt8)} {hone : ∀ l x r, one l = some (x, r) → r.length < l.length} {tx : α → List UInt8} {ok : α → Prop} {R : List UInt8}
    (h1 : ∀ x c s o, ok x → isSign c = true → SpB (tx x ++ c :: s) o → ∃ o', one o = some (x, o') ∧ SpB (c :: s) o') (hend : ∀ x o, ok x → R = [] → SpB (tx x ++ R) o → ∃ o', one o = some (x, o') ∧ SpB R o') (hR : R = [] ∨ ∃ s, R = 93 :: s) :
    ∀ {xs : List α} {x : α} {o : List UInt8}, (∀ y ∈ x :: xs, ok y) → SpB (jn ((x :: xs).map tx) ++ R) o → ∃ o', itemsL one hone o = (signL 93 o').map (fun r => (x :: xs, r)) ∧ SpB R o'
  | [], x, o, hok, h => by
    have hx := hok x (by simp)
    simp only [List.map_cons, List.map_nil, jn_one] at h
    obtain ⟨o', h2, h3⟩ : ∃ o', one o = some (x, o') ∧ SpB R o' := by
      rcases hR with hR | ⟨s, hR⟩
      · exact hend x o hx hR h
      · subst hR; exact h1 x 93 s o hx (by decide) h
    have h44 : signL 44 o' = none := by
      rcases hR with hR | ⟨s, hR⟩
      · subst hR
        unfold signL; rw [h3.nil]
      · subst hR
        obtain ⟨_, _, h5, _⟩ := h3.sign (by decide)
        exact h5 44 (by decide)
    exact ⟨o', by rw [items_last h2 h44], h3⟩
  | y :: xs, x, o, hok, h => by
    have hx := hok x (by simp)
    have e1 : jn ((x :: y :: xs).map tx) ++ R = tx x ++ 44 :: (jn ((y :: xs).map tx) ++ R) := by simp [jn]
    rw [e1] at h
    obtain ⟨o1, h2, h3⟩ := h1 x 44 _ o hx (by decide) h
    obtain ⟨o2, h4, _, h5⟩ := h3.sign (by decide)
    obtain ⟨o', h6, h7⟩ := SpB.items h1 hend hR (xs := xs) (x := y) (fun z hz => hok z (by simp [List.mem_cons.1 hz])) h5
    refine ⟨o', ?_, h7⟩
    rw [items_more h2 h4, h6]
    cases signL 93 o' <;> rfl
end Chron
namespace Chron
open Go Go.RowKit Go.Proofs.YtodlcnbknjldnaaGreatDoor
theorem line_bytes {s : ByteArray} (h : lineB s = true) : ∀ c ∈ s.data.toList, byteOk c = true := by
  simp only [lineB, Bool.and_eq_true, List.all_eq_true] at h
  exact h.2
theorem name_bytes {s : ByteArray} (h : nameB s = true) : ∀ c ∈ s.data.toList, byteOk c = true := by
  simp only [nameB, Bool.and_eq_true] at h
  exact line_bytes h.2
theorem tagsT_q (ts : List ByteArray) : tagsT ts = (ts.map bt).map qB := by simp [tagsT, bt]
theorem jn_cons_first (x : List UInt8) (xs : List (List UInt8)) (R : List UInt8) : ∃ z, jn (x :: xs) ++ R = x ++ z := ⟨_, by rw [jn, List.append_assoc]⟩
theorem SpB.tags {ts : List ByteArray} {s o : List UInt8} (hb : ∀ t ∈ ts, ∀ c ∈ t.data.toList, byteOk c = true) (h : SpB (listB (tagsT ts) ++ s) o) : ∃ o', tagsL o = some (ts.map bt, o') ∧ SpB s o' := by
  have e1 : listB (tagsT ts) ++ s = 91 :: (jn (tagsT ts) ++ 93 :: s) := by simp [listB]
  rw [e1] at h
  obtain ⟨o1, h1, _, h2⟩ := h.sign (by decide)
  rw [tagsT_q] at h2
  rw [tagsL, listL, h1]
  simp only
  cases ts with
  | nil =>
    obtain ⟨o2, h3, _, h4⟩ := SpB.sign (c := 93) (by decide) h2
    exact ⟨o2, by rw [h3]; rfl, h4⟩
  | cons t ts =>
    rw [List.map_cons] at h2 ⊢
    have hone : ∀ x s o, (∀ c ∈ x, byteOk c = true) → SpB (qB x ++ s) o → ∃ o', quoteL o = some (x, o') ∧ SpB s o' := fun x s o hx h => by
      obtain ⟨o', a, b, _⟩ := SpB.quote hx h
      exact ⟨o', a, b⟩
    have hall : ∀ y ∈ bt t :: ts.map bt, ∀ c ∈ y, byteOk c = true := by
      intro y hy
      rw [← List.map_cons] at hy
      obtain ⟨z, hz, rfl⟩ := List.mem_map.1 hy
      exact hb z hz
    have h93 : signL 93 o1 = none := by
      obtain ⟨z, hz⟩ := jn_cons_first (qB (bt t)) ((ts.map bt).map qB) (93 :: s)
      have h3 := h2
      rw [List.map_cons, hz] at h3
      obtain ⟨_, _, _, h4⟩ := SpB.quote (hall (bt t) (by simp)) h3
      exact h4 93 (by decide)
    obtain ⟨o2, h3, h4⟩ := SpB.items (one := quoteL) (hone := quote_one) (tx := qB) (ok := fun x => ∀ c ∈ x, byteOk c = true) (R := 93 :: s) (fun x c s o hx _ h => hone x _ o hx h) (fun x o hx _ h => hone x _ o hx h) (.inr ⟨s, rfl⟩) (xs := ts.map bt) (x := bt t) hall h2
    obtain ⟨o3, h5, _, h6⟩ := h4.sign (by decide)
    exact ⟨o3, by rw [h93, h3, h5]; rfl, h6⟩
theorem step_of {c : UInt8} {e e' : Ev} {o o1 o2 o3 o4 nm : List UInt8} (h1 : signL c o = some o1) (h2 : quoteL o1 = some (nm, o2)) (h3 : signL 58 o2 = some o3) (h4 : fieldL nm e o3 = some (e', o4)) : stepL c e o = some (nm, e', o4) := by
  unfold stepL
  rw [h1]; simp only
  rw [h2]; simp only
  rw [h3]; simp only
  rw [h4]; rfl
/- a sign, a name in quotes, and a colon -/
theorem SpB.name {c : UInt8} {nm s o : List UInt8} (hc : isSign c = true) (hn : ∀ x ∈ nm, byteOk x = true) (h : SpB (c :: (qB nm ++ 58 :: s)) o) : ∃ o1 o2 o3, signL c o = some o1 ∧ quoteL o1 = some (nm, o2) ∧ signL 58 o2 = some o3 ∧ SpB s o3 := by
  obtain ⟨o1, h1, _, h2⟩ := h.sign hc
  obtain ⟨o2, h3, h4, _⟩ := SpB.quote hn h2
  obtain ⟨o3, h5, _, h6⟩ := h4.sign (by decide)
  exact ⟨o1, o2, o3, h1, h3, h5, h6⟩
theorem kind_word {k : Int} (h1 : 1 ≤ k) (h4 : k ≤ 4) : kindW (wordB k) = some k := by
  have : k = 1 ∨ k = 2 ∨ k = 3 ∨ k = 4 := by omega
  rcases this with rfl | rfl | rfl | rfl <;> decide
theorem word_bytes (k : Int) : ∀ c ∈ wordB k, byteOk c = true := by
  unfold wordB
  split; · decide
  split; · decide
  split <;> decide
theorem SpB.event {e : Ev} {s o : List UInt8} (hk : Known e) (hbd : ∀ c ∈ e.body.data.toList, byteOk c = true) (htk : ∀ c ∈ e.task.data.toList, byteOk c = true) (htg : ∀ t ∈ e.tags, ∀ c ∈ t.data.toList, byteOk c = true) (h : SpB (tellB e ++ s) o) : ∃ o', eventL o = some (e, o') ∧ SpB s o' := by
  have e1 : tellB e ++ s = 123 :: (qB nBody ++ 58 :: (qB e.body.data.toList ++ 44 :: (qB nKind ++ 58 :: (qB (wordB e.kind) ++ 44 :: (qB nTags ++ 58 :: (listB (tagsT e.tags) ++ 44 :: (qB nTask ++ 58 :: (qB e.task.data.toList ++ 44 :: (qB nTime ++ 58 :: (Lib.itoa e.time ++ 125 :: s)))))))))) := by
    have a1 : lit1 = 123 :: (qB nBody ++ [58]) := by decide
    have a2 : lit2 = 44 :: (qB nKind ++ [58]) := by decide
    have a3 : lit3 = 44 :: (qB nTags ++ [58]) := by decide
    have a4 : lit4 = 44 :: (qB nTask ++ [58]) := by decide
    have a5 : lit5 = 44 :: (qB nTime ++ [58]) := by decide
    rw [tellB, a1, a2, a3, a4, a5]
    simp
  rw [e1] at h
  obtain ⟨a1, a2, a3, ha1, ha2, ha3, h⟩ := SpB.name (by decide) (by decide) h
  obtain ⟨a4, ha4, h, _⟩ := SpB.quote hbd h
  obtain ⟨b1, b2, b3, hb1, hb2, hb3, h⟩ := SpB.name (by decide) (by decide) h
  obtain ⟨b4, hb4, h, _⟩ := SpB.quote (word_bytes _) h
  obtain ⟨c1, c2, c3, hc1, hc2, hc3, h⟩ := SpB.name (by decide) (by decide) h
  obtain ⟨c4, hc4, h⟩ := SpB.tags htg h
  obtain ⟨d1, d2, d3, hd1, hd2, hd3, h⟩ := SpB.name (by decide) (by decide) h
  obtain ⟨d4, hd4, h, _⟩ := SpB.quote htk h
  obtain ⟨f1, f2, f3, hf1, hf2, hf3, h⟩ := SpB.name (by decide) (by decide) h
  have ht0 := hk.t0
  have ht1 := hk.t1
  rw [Lib.itoa, if_neg (by omega)] at h
  obtain ⟨f4, hf4, h⟩ := SpB.count (n := e.time.toNat) (by omega) (by decide) h
  obtain ⟨g1, hg1, _, h⟩ := h.sign (by decide)
  have s1 := step_of (e := evZero) (e' := { evZero with body := ba e.body.data.toList }) ha1 ha2 ha3 (by rw [fieldL, if_pos rfl, ha4]; rfl)
  have s2 := step_of (e := { evZero with body := ba e.body.data.toList }) (e' := { evZero with body := ba e.body.data.toList, kind := e.kind }) hb1 hb2 hb3 (by rw [fieldL, if_neg (by decide), if_pos rfl, hb4]; simp only [Option.bind_some, kind_word hk.k1 hk.k4]; rfl)
  have s3 := step_of (e := { evZero with body := ba e.body.data.toList, kind := e.kind }) (e' := { evZero with body := ba e.body.data.toList, kind := e.kind, tags := (e.tags.map bt).map ba }) hc1 hc2 hc3 (by rw [fieldL, if_neg (by decide), if_neg (by decide), if_pos rfl, hc4]; rfl)
  have s4 := step_of (e := { evZero with body := ba e.body.data.toList, kind := e.kind, tags := (e.tags.map bt).map ba }) (e' := { evZero with body := ba e.body.data.toList, kind := e.kind, tags := (e.tags.map bt).map ba, task := ba e.task.data.toList }) hd1 hd2 hd3 (by rw [fieldL, if_neg (by decide), if_neg (by decide), if_neg (by decide), if_pos rfl, hd4]; rfl)
  have s5 := step_of (e := { evZero with body := ba e.body.data.toList, kind := e.kind, tags := (e.tags.map bt).map ba, task := ba e.task.data.toList }) (e' := { evZero with body := ba e.body.data.toList, kind := e.kind, tags := (e.tags.map bt).map ba, task := ba e.task.data.toList, time := (e.time.toNat : Int) }) hf1 hf2 hf3 (by rw [fieldL, if_neg (by decide), if_neg (by decide), if_neg (by decide), if_neg (by decide), if_pos rfl, hf4]; rfl)
  have hfin : ({ evZero with body := ba e.body.data.toList, kind := e.kind, tags := (e.tags.map bt).map ba, task := ba e.task.data.toList, time := (e.time.toNat : Int) } : Ev) = e := by
    obtain ⟨k, tk, tm, bd, ts⟩ := e
    have x1 : ba bd.data.toList = bd := ba_bt bd
    have x2 : ba tk.data.toList = tk := ba_bt tk
    have x3 : (ts.map bt).map ba = ts := (map_ba_bt rfl).symm
    have x4 : (tm.toNat : Int) = tm := by simp only at ht0; omega
    simp only [x1, x2, x3, x4]
  refine ⟨g1, ?_, h⟩
  unfold eventL
  simp only [stepsL, s1, s2, s3, s4, s5, List.nil_append]
  rw [if_pos (by decide), hg1, hfin]; rfl
end Chron
namespace Chron
open Go Go.RowKit Go.Proofs.YtodlcnbknjldnaaGreatDoor
theorem is_parts {e : Ev} (h : isB e = true) : (∀ c ∈ e.body.data.toList, byteOk c = true) ∧ (∀ c ∈ e.task.data.toList, byteOk c = true) ∧ ∀ t ∈ e.tags, ∀ c ∈ t.data.toList, byteOk c = true := by
  simp only [isB, Bool.and_eq_true] at h
  obtain ⟨_, _, h3, _, _, h6, h7⟩ := h
  refine ⟨line_bytes h6, name_bytes h3, fun t ht => ?_⟩
  simp only [tagsB, Bool.and_eq_true, List.all_eq_true, List.mem_range] at h7
  obtain ⟨i, hi, rfl⟩ := List.getElem_of_mem ht
  have h8 := h7.2 i hi
  have h9 : nameB (e.tags[i]?.getD ByteArray.empty) = true := by
    simp only [tagOk, Bool.and_eq_true] at h8
    exact h8.1
  rw [List.getElem?_eq_getElem hi] at h9
  exact name_bytes h9
theorem SpB.told {e : Ev} {s o : List UInt8} (h : isB e = true) (hs : SpB (tellB e ++ s) o) : ∃ o', eventL o = some (e, o') ∧ SpB s o' := by
  obtain ⟨h1, h2, h3⟩ := is_parts h
  exact SpB.event (is_known h) h1 h2 h3 hs
theorem tell_first (e : Ev) (s : List UInt8) : ∃ z, tellB e ++ s = 123 :: z := ⟨_, by rw [tellB, lit1]; rfl⟩
theorem SpB.list {es : List Ev} {R o : List UInt8} (he : ∀ e ∈ es, isB e = true) (hR : R = [] ∨ ∃ s, R = 93 :: s) (h : SpB (91 :: (jn (es.map tellB) ++ R)) o) : ∃ o', listL eventL event_one o = (signL 93 o').map (fun r => (es, r)) ∧ SpB R o' := by
  obtain ⟨o1, h1, _, h2⟩ := h.sign (by decide)
  rw [listL, h1]
  simp only
  cases es with
  | nil =>
    refine ⟨o1, ?_, h2⟩
    simp only [List.map_nil, jn, List.nil_append] at h2
    rcases hR with rfl | ⟨s, rfl⟩
    · have h3 : signL 93 o1 = none := by unfold signL; rw [h2.nil]
      have h4 : eventL o1 = none := by
        have h5 : signL 123 o1 = none := by unfold signL; rw [h2.nil]
        unfold eventL
        rw [steps_mem, h5]; rfl
      rw [h3]
      simp only [items_none h4, Option.map_none]
    · obtain ⟨o2, h3, _, _⟩ := h2.sign (by decide)
      rw [h3]; rfl
  | cons e es =>
    have h93 : signL 93 o1 = none := by
      obtain ⟨z, hz⟩ := jn_cons_first (tellB e) (es.map tellB) R
      obtain ⟨y, hy⟩ := tell_first e z
      have h3 := h2
      rw [List.map_cons, hz, hy] at h3
      obtain ⟨_, _, h4, _⟩ := h3.sign (by decide)
      exact h4 93 (by decide)
    obtain ⟨o2, h3, h4⟩ := SpB.items (one := eventL) (hone := event_one) (tx := tellB) (ok := fun e => isB e = true) (R := R) (fun x c s o hx _ h => SpB.told hx h) (fun x o hx _ h => SpB.told hx h) hR (xs := es) (x := e) he h2
    exact ⟨o2, by rw [h93, h3], h4⟩
theorem SpB.all {es : List Ev} {o : List UInt8} (he : ∀ e ∈ es, isB e = true) (h : SpB (listB (es.map tellB)) o) : allL o = some es := by
  obtain ⟨o', h1, h2⟩ := SpB.list (R := [93]) he (.inr ⟨[], rfl⟩) h
  obtain ⟨o2, h3, _, h4⟩ := h2.sign (by decide)
  rw [allL, h1, h3]
  simp only [Option.map_some, h4.nil, if_true]
theorem SpB.cut {es : List Ev} {o : List UInt8} (he : ∀ e ∈ es, isB e = true) (h : SpB (91 :: jn (es.map tellB)) o) : allL o = none := by
  obtain ⟨o', h1, h2⟩ := SpB.list (R := []) he (.inl rfl) (by simpa using h)
  have h3 : signL 93 o' = none := by unfold signL; rw [h2.nil]
  rw [allL, h1, h3]; rfl
/- quotes that are shut -/
def wf : Bool → List UInt8 → Bool
  | q, [] => !q
  | false, c :: s => if c = 34 then wf true s else wf false s
  | true, [c] => if c = 34 then true else false
  | true, c :: d :: s => if c = 34 then wf false (d :: s) else if c = 92 then wf true s else wf true (d :: s)
theorem wf_shut (s : List UInt8) : wf true (34 :: s) = wf false s := by
  cases s with
  | nil => rfl
  | cons d s =>
    show (if (34 : UInt8) = 34 then wf false (d :: s) else if (34 : UInt8) = 92 then wf true s else wf true (d :: s)) = wf false (d :: s)
    rw [if_pos rfl]
theorem wf_esc (d : UInt8) (s : List UInt8) : wf true (92 :: d :: s) = wf true s := by rw [wf, if_neg (by decide), if_pos rfl]
theorem wf_in {c : UInt8} {s : List UInt8} (h1 : c ≠ 34) (h2 : c ≠ 92) : wf true (c :: s) = wf true s := by
  cases s with
  | nil => simp [wf, h1]
  | cons d s => rw [wf, if_neg h1, if_neg h2]
theorem wf_out {c : UInt8} {s : List UInt8} (h : c ≠ 34) : wf false (c :: s) = wf false s := by rw [wf, if_neg h]
theorem wf_open (s : List UInt8) : wf false (34 :: s) = wf true s := by rw [wf, if_pos rfl]
theorem wf_inQ (b s : List UInt8) : wf true (inQ b ++ 34 :: s) = wf false s := by
  induction b with
  | nil => exact wf_shut s
  | cons c b ih =>
    by_cases he : c = 34 ∨ c = 92
    · have e1 : inQ (c :: b) ++ 34 :: s = 92 :: c :: (inQ b ++ 34 :: s) := by simp [inQ, escB, he]
      rw [e1, wf_esc, ih]
    · have e1 : inQ (c :: b) ++ 34 :: s = c :: (inQ b ++ 34 :: s) := by simp [inQ, escB, he]
      rw [e1, wf_in (fun e => he (.inl e)) (fun e => he (.inr e)), ih]
theorem wf_q (b s : List UInt8) : wf false (qB b ++ s) = wf false s := by
  have e1 : qB b ++ s = 34 :: (inQ b ++ 34 :: s) := by simp [qB]
  rw [e1, wf_open, wf_inQ]
theorem wf_digits {ds s : List UInt8} (h : ∀ d ∈ ds, isDig d = true) : wf false (ds ++ s) = wf false s := by
  induction ds with
  | nil => rfl
  | cons d ds ih =>
    have h1 := h d (by simp)
    rw [List.cons_append, wf_out (by rintro rfl; simp [isDig] at h1), ih (fun x hx => h x (by simp [hx]))]
theorem wf_jn {α : Type} {tx : α → List UInt8} (h : ∀ x s, wf false (tx x ++ s) = wf false s) (xs : List α) (s : List UInt8) : wf false (jn (xs.map tx) ++ s) = wf false s := by
  have key : ∀ (xs : List α) (s : List UInt8), wf false ((xs.map tx).flatMap (fun y => 44 :: y) ++ s) = wf false s := by
    intro xs
    induction xs with
    | nil => intro s; rfl
    | cons x xs ih =>
      intro s
      simp only [List.map_cons, List.flatMap_cons, List.cons_append, List.append_assoc]
      rw [wf_out (by decide), h, ih]
  cases xs with
  | nil => rfl
  | cons x xs =>
    rw [List.map_cons, jn, List.append_assoc, h, key]
theorem wf_tell {e : Ev} (ht : 0 ≤ e.time) (s : List UInt8) : wf false (tellB e ++ s) = wf false s := by
  have l1 : lit1 = 123 :: (qB nBody ++ [58]) := by decide
  have l2 : lit2 = 44 :: (qB nKind ++ [58]) := by decide
  have l3 : lit3 = 44 :: (qB nTags ++ [58]) := by decide
  have l4 : lit4 = 44 :: (qB nTask ++ [58]) := by decide
  have l5 : lit5 = 44 :: (qB nTime ++ [58]) := by decide
  have out : ∀ (c : UInt8) (s : List UInt8), c ≠ 34 → wf false (c :: s) = wf false s := fun c s h => wf_out h
  rw [tellB, l1, l2, l3, l4, l5, Lib.itoa, if_neg (by omega), listB, tagsT_q]
  simp only [List.append_assoc, List.cons_append, List.nil_append]
  rw [out _ _ (by decide), wf_q, out _ _ (by decide), wf_q, out _ _ (by decide), wf_q, out _ _ (by decide), wf_q, out _ _ (by decide), wf_q, out _ _ (by decide), out _ _ (by decide), wf_jn (fun x s => wf_q x s), out _ _ (by decide), out _ _ (by decide), wf_q, out _ _ (by decide), wf_q, out _ _ (by decide), wf_q, out _ _ (by decide), wf_digits (digits_all _).1, out _ _ (by decide)]
theorem wf_tells {es : List Ev} (he : ∀ e ∈ es, isB e = true) (s : List UInt8) : wf false (jn (es.map tellB) ++ s) = wf false s := by
  have key : ∀ (es : List Ev) (s : List UInt8), (∀ e ∈ es, isB e = true) → wf false ((es.map tellB).flatMap (fun y => 44 :: y) ++ s) = wf false s := by
    intro es
    induction es with
    | nil => intro s _; rfl
    | cons e es ih =>
      intro s h
      simp only [List.map_cons, List.flatMap_cons, List.cons_append, List.append_assoc]
      rw [wf_out (by decide), wf_tell (is_known (h e (by simp))).t0, ih s (fun x hx => h x (by simp [hx]))]
  cases es with
  | nil => rfl
  | cons e es =>
    rw [List.map_cons, jn, List.append_assoc, wf_tell (is_known (he e (by simp))).t0, key es _ (fun x hx => he x (by simp [hx]))]
theorem wf_list {es : List Ev} (he : ∀ e ∈ es, isB e = true) : wf false (listB (es.map tellB)) = true := by
  rw [listB, wf_out (by decide), wf_tells he]; rfl
theorem sp_self : ∀ (n : Nat) (q : Bool) (s : List UInt8), s.length ≤ n → wf q s = true → Sp q s s
  | _, false, [], _, _ => .nil
  | _, true, [], _, h => by cases h
  | 0, _, c :: s, hn, _ => by simp at hn
  | n + 1, false, c :: s, hn, h => by
    have hl : s.length ≤ n := by simpa using hn
    by_cases h34 : c = 34
    · subst h34
      rw [wf_open] at h
      exact .opens _ _ (sp_self n true s hl h)
    · rw [wf_out h34] at h
      have ih := sp_self n false s hl h
      cases hs : isSign c with
      | true => exact .sign c [] [] s s hs (fun x hx => by cases hx) (fun x hx => by cases hx) ih
      | false => exact .other c s s hs h34 ih
  | n + 1, true, c :: s, hn, h => by
    have hl : s.length ≤ n := by simpa using hn
    by_cases h34 : c = 34
    · subst h34
      rw [wf_shut] at h
      exact .shuts _ _ (sp_self n false s hl h)
    · by_cases h92 : c = 92
      · subst h92
        cases s with
        | nil => simp [wf] at h
        | cons d s =>
          rw [wf_esc] at h
          exact .esc d s s (sp_self n true s (by simp at hl; omega) h)
      · rw [wf_in h34 h92] at h
        exact .plain c s s h34 h92 (sp_self n true s hl h)
theorem told_read {es : List Ev} (he : ∀ e ∈ es, isB e = true) : allL (listB (es.map tellB)) = some es := SpB.all he (sp_self _ false _ (Nat.le_refl _) (wf_list he)).b
theorem cut_none {es : List Ev} (he : ∀ e ∈ es, isB e = true) : allL (91 :: jn (es.map tellB)) = none := by
  refine SpB.cut he (sp_self _ false _ (Nat.le_refl _) ?_).b
  have h := wf_tells he []
  rw [List.append_nil] at h
  rw [wf_out (by decide), h]; rfl
end Chron
