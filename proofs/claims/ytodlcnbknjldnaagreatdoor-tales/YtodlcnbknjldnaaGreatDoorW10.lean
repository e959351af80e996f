/- Walks and plain facts, in the order in which they lean on one another. -/
import Derived.Test.YtodlcnbknjldnaaGreatDoorW09
import Derived.Test.YtodlcnbknjldnaaGreatDoorW02
import Derived.Deep.QuietTactic
import Derived.BigQuiet
import Derived.Test.YtodlcnbknjldnaaGreatDoorW03
namespace Go.Proofs.YtodlcnbknjldnaaGreatDoor
open Go.RowKit Chron
theorem MadeO.lts {N : Nat} {w : World} {lv : Value} {its : List Item} (h : MadeO N w lv its) : (∀ q, lv.ownBlock = some q → q < w.heap.size) ∧ ∀ q ∈ tagBs its, q < w.heap.size := ⟨fun q hq => (h.row.lt q hq).2, fun _ hq => (h.tag_lt hq).2⟩
theorem len_event (l : List UInt8) : (stL (oneR (eventL l))).length ≤ l.length := by
  cases hq : eventL l with
  | none => simp [oneR, stL]
  | some p => have := (event_suf (e := p.1) (r := p.2) hq).2; simp only [oneR, Option.map_some, stL]; omega
theorem take_len {c : UInt8} {l : List UInt8} (h : signL c l = none) : (takeL c l).length ≤ l.length := by rw [take_skip h]; exact (skip_suf l).length_le
set_option maxRecDepth 100000 in
set_option maxHeartbeats 4000000 in
theorem revents_any (B R : Nat) (l : List UInt8) (b : Bool) (w : World) (G : Hid (Glob B w)) (hBR : Hid (B ≤ R)) (h : Hid (Rd R w l b)) (hl : l.length ≤ 1048576) :
    Calls Tryz.prog 27 #[.pointer (some ⟨R, 0, none⟩), .func (.func 28) #[.pointer (some ⟨R, 0, none⟩)] #[]] w fun e w' => ∃ (lv : Value) (its : List Item), e = .returned lv ∧ Hid (St R w' b (lisR (listL eventL event_one l))) ∧ Hid (MadeO w.heap.size w' lv its) ∧ Hid (∀ p, listL eventL event_one l = some p → its.map ie = p.1) ∧ Hid (Far w w' [some R]) := by
  obtain ⟨i0, hi, hz0, hz1, hz2⟩ := info_parts infoEvent5
  have hRw := h.out.lt
  have hS : (stL (signL 91 l)).length ≤ 1048576 := Nat.le_trans (len_sign 91 l) hl
  have hST := fun (h93 : signL 93 (stL (signL 91 l)) = none) (v : Item) => ListR.start eventL event_one (l := l) (b := b) (f := ie) (v := v) event_skip h93
  have HST := hide0 hST
  have HTL : Hid (∀ r r2, signL 91 l = some r → signL 93 r = some r2 → listL eventL event_one l = some ([], r2)) := by
    intro r r2 h1 h2
    rw [listL, h1]; simp only [h2]
  have HNL : Hid (signL 91 l = none → signL 93 (stL (signL 91 l)) = none) := fun h1 => by rw [h1]; rfl
  have hN := need_any R l b 91 91 rfl w h hl
  clear hST
  go_enter Tryz.func27, Tryz.ntmps27
  go_wp2_with fail
  refine hN.mono ?_
  rintro e w1 ⟨rfl, H1, HF1⟩
  have hT := take_any R _ _ 93 93 rfl w1 H1 hS
  cases hq : signL 93 (stL (signL 91 l)) with
  | some r2 =>
    obtain ⟨r, hr⟩ : ∃ r, signL 91 l = some r := by
      cases h91 : signL 91 l with
      | none => have := HNL.out h91; rw [hq] at this; cases this
      | some r => exact ⟨r, rfl⟩
    have hq2 := hq
    rw [hr] at hq2
    have HQ := hide0 (HTL.out r r2 hr hq2)
    rw [hq, st_take hq] at hT
    have e1 : (some r2 : Option (List UInt8)).isSome = true := rfl
    rw [e1] at hT
    have HB : Hid (stB b (signL 91 l) = b) := by rw [Hid, hr]; rfl
    clear hq2 hr hq e1
    go_wp2_with fail
    refine hT.mono ?_
    rintro e w2 ⟨rfl, H2, HF2⟩
    rw [HB.out] at H2
    go_wp2
    go_ret
    exact ⟨_, [], rfl, by rw [HQ.out]; exact H2, MadeO.nil _ _, (by rw [HQ.out]; intro p hp; rw [← Option.some.inj hp]; rfl), HF1.out.trans HF2.out⟩
  | none =>
    rw [hq, take_skip hq] at hT
    have e1 : (none : Option (List UInt8)).isSome = false := rfl
    rw [e1] at hT
    have HST2 := hide0 (HST.out hq)
    have hsk := (skip_suf (stL (signL 91 l))).length_le
    clear hq e1 HST HTL HNL
    generalize stL (signL 91 l) = l1 at hS hT HST2 hsk H1
    generalize stB b (signL 91 l) = b1 at hT HST2 H1
    go_wp2_with fail
    refine hT.mono ?_
    rintro e w2 ⟨rfl, H2, HF2⟩
    have HF2' : Hid (Far w w2 [some R]) := HF1.out.trans HF2.out
    have G2 := hide0 (G.out.far hBR.out HF2'.out)
    clear HF1 HF2
    go_wp2_with fail
    refine (revent_any B R _ _ _ G2 hBR H2 (by omega)).mono ?_
    rintro e w3 ⟨E, x, rfl, H3, HV3, HO3, HF3⟩
    obtain ⟨va, vc, hve, _⟩ := own_tags HO3.out
    subst hve
    obtain ⟨E0, E1, E2, E3, E4⟩ := E
    simp only [evVal]
    have hs2 := HF2'.out.size
    have hs3 := HF3.out.size
    have HL0 := hide0 (HST2.out ⟨⟨E0, E1, E2, E3, E4⟩, va, vc⟩ (fun p hp => HV3.out p hp))
    have hR0 := len_event (skipL l1)
    have H4 : Hid (Rd R (w3.alloc (.cells #[.int .i64 E0, .string E1, .int .i64 E2, .string E3, .slice va E4.length vc] 29)) (stL (oneR (eventL (skipL l1)))) (stB b1 (oneR (eventL (skipL l1))))) := Rd.more H3.out ((Below.refl _ _).alloc (Nat.le_refl _) _)
    have HF4 : Hid (Far w (w3.alloc (.cells #[.int .i64 E0, .string E1, .int .i64 E2, .string E3, .slice va E4.length vc] 29)) [some R]) := (HF2'.out.trans HF3.out).alloc _
    have HO4 : Hid (MadeO w.heap.size (w3.alloc (.cells #[.int .i64 E0, .string E1, .int .i64 E2, .string E3, .slice va E4.length vc] 29)) (.slice (some ⟨w3.heap.size, 0, none⟩) 1 1) [⟨⟨E0, E1, E2, E3, E4⟩, va, vc⟩]) := by
      refine ⟨World.ownsRow_lit w3 #[.int .i64 E0, .string E1, .int .i64 E2, .string E3, .slice va E4.length vc] 1 (by omega) (by decide) rfl, fun it hit => ?_, fun q hq => ?_, ?_⟩
      · simp only [List.mem_singleton] at hit
        subst hit
        exact own_mono (HO3.out.alloc _) (by omega)
      · obtain ⟨it, hit, hb⟩ := tagBs_mem.1 hq
        simp only [List.mem_singleton] at hit
        subst hit
        have := (HO3.out.lt _ hb).2
        simp only [Value.ownBlock, ne_eq, Option.some.injEq]; omega
      · simp only [tagBs, List.filterMap_cons, List.filterMap_nil]
        split <;> simp
    clear HST2 H1 H2 HF2' G2 H3 HV3 HF3 hT hN HO3
    generalize stL (oneR (eventL (skipL l1))) = lr0 at HL0 H4 hR0
    generalize stB b1 (oneR (eventL (skipL l1))) = br0 at HL0 H4
    go_wp2_with fail
    go_loopw [5] (fun v wx => ∃ (vs : List Item) (lr : List UInt8) (br : Bool), 0 < vs.length ∧ vs.length + lr.length ≤ 1048577 ∧ lr.length ≤ 1048576 ∧ Hid (ListR eventL event_one (listL eventL event_one l) b ie vs lr br) ∧ Hid (Rd R wx lr br) ∧ Hid (MadeO w.heap.size wx v vs) ∧ Hid (Far w wx [some R])) (fun _ wx => restLen R wx)
    case atStart => exact ⟨[⟨⟨E0, E1, E2, E3, E4⟩, va, vc⟩], lr0, br0, by simp, by simp only [List.length_singleton]; omega, by omega, HL0, H4, HO4, HF4⟩
    case round =>
      obtain ⟨vs, lr, br, hvs, hsum, hlr, HL, HR, HO, HF⟩ := hrel
      have hT := take_any R lr br 44 44 rfl wr HR hlr
      cases hq : signL 44 lr with
      | none =>
        rw [hq, take_skip hq] at hT
        have e1 : (none : Option (List UInt8)).isSome = false := rfl
        rw [e1] at hT
        obtain ⟨d1, d2, d3⟩ := HL.out.done _ _ hq
        have HD1 := hide0 d1
        have HD2 := hide0 d2
        have HD3 := hide0 d3
        have hsk := (skip_suf lr).length_le
        clear d1 d2 d3 hq e1
        go_wp2_with fail
        refine hT.mono ?_
        rintro e w5 ⟨rfl, H5, HF5⟩
        go_wp2_with fail
        refine (need_any R _ _ 93 93 rfl _ H5 (by omega)).mono ?_
        rintro e w6 ⟨rfl, H6, HF6⟩
        rw [HD1.out, HD2.out] at H6
        have HO6 := hide0 ((HO.out.far HF5.out hRw).far HF6.out hRw)
        go_wp2
        go_ret
        exact ⟨_, vs, rfl, H6, HO6, HD3, (HF.out.trans HF5.out).trans HF6.out⟩
      | some r2 =>
        rw [hq, st_take hq] at hT
        have e1 : (some r2 : Option (List UInt8)).isSome = true := rfl
        rw [e1] at hT
        have hr2 := (sign_suf hq).2
        have hST := fun (v : Item) => HL.out.step eventL event_one (v := v) hq
        have HST := hide0 hST
        have hsh := len_event r2
        clear hq e1 hST
        go_wp2_with fail
        refine hT.mono ?_
        rintro e w5 ⟨rfl, H5, HF5⟩
        have HF5' := hide0 (HF.out.trans HF5.out)
        have G5 := hide0 (G.out.far hBR.out HF5'.out)
        have HO5 := hide0 (HO.out.far HF5.out hRw)
        go_wp2_with fail
        refine (revent_any B R _ _ _ G5 hBR H5 (by omega)).mono ?_
        rintro e w6 ⟨E, x, rfl, H6, HV6, HX6, HF6⟩
        obtain ⟨xa, xc, hve, _⟩ := own_tags HX6.out
        subst hve
        obtain ⟨F0, F1, F2, F3, F4⟩ := E
        simp only [evVal]
        have HF6' := hide0 (HF5'.out.trans HF6.out)
        have HO6 := hide0 (HO5.out.far HF6.out hRw)
        have hs5 := HF5'.out.size
        have hs6 := HF6.out.size
        have HL6 := hide0 (HST.out ⟨⟨F0, F1, F2, F3, F4⟩, xa, xc⟩ (fun p hp => HV6.out p hp))
        have H6' : Hid (Rd R w6 (stL (oneR (eventL r2))) (stB br (oneR (eventL r2)))) := H6
        have HLV := hide0 HO5.out.lts
        have hNew := five_new w6 ⟨⟨F0, F1, F2, F3, F4⟩, xa, xc⟩
        have hbase : w.heap.size ≤ (w6.alloc (.cells #[.int .i64 F0, .string F1, .int .i64 F2, .string F3, .slice xa F4.length xc] 29)).heap.size := by simp only [World.size_alloc]; omega
        have hrow := HO6.out.row
        clear HST H5 HF5 HF5' G5 H6 HV6 HF6 hT
        generalize stL (oneR (eventL r2)) = lr6 at HL6 H6' hsh
        generalize stB br (oneR (eventL r2)) = br6 at HL6 H6'
        go_wp2_with (first
          | (at_builtin; go_must (refine wpList_append_lies _ rfl _ _ 23 rfl w.heap.size 29 i0 (.agg #[.int .i64 0, .string ⟨#[]⟩, .int .i64 0, .string ⟨#[]⟩, .slice none 0 0]) 5 72 Tryz.underlying23 hi hz0 hz1 hz2 rfl (by decide) _ vs.length (fives vs) rfl (hrow.alloc _) ⟨w6.heap.size, 0, none⟩ 1 1 (Item.five ⟨⟨F0, F1, F2, F3, F4⟩, xa, xc⟩) rfl rfl hNew (five_one _) Nat.one_pos (by unfold maxLen; omega) (by omega) hbase _ rfl ?_)
             intro g cap wa hown hgr hat hlt))
        have HO7 := hide0 (HO6.out.push (i := ⟨⟨F0, F1, F2, F3, F4⟩, xa, xc⟩) HX6.out (by omega) HLV.out.1 HLV.out.2 hgr hown hat)
        have HF7 : Hid (Far w wa [some R]) := (HF6'.out.alloc _).grown hgr (fun q hq => .inr (hrow.lt _ hq).1)
        have H7 : Hid (Rd R wa lr6 br6) := by
          have h1 : Rd R (w6.alloc (.cells #[.int .i64 F0, .string F1, .int .i64 F2, .string F3, .slice xa F4.length xc] 29)) lr6 br6 := Rd.more H6'.out ((Below.refl _ _).alloc (Nat.le_refl _) _)
          refine (hgr.block R h1.lt ?_).trans h1
          intro e
          have := (hrow.lt _ e.symm).1
          omega
        clear hown hgr hat hlt hrow hNew hbase
        go_wp2
        go_roundw
        case rel => exact ⟨vs ++ [⟨⟨F0, F1, F2, F3, F4⟩, xa, xc⟩], lr6, br6, by simp, by simp only [List.length_append, List.length_singleton]; omega, by omega, HL6, H7, HO7, HF7⟩
        case measure => rw [restLen_of HR.out, restLen_of H7.out]; omega
end Go.Proofs.YtodlcnbknjldnaaGreatDoor
namespace Go.Proofs.YtodlcnbknjldnaaGreatDoor
open Go.RowKit Chron
theorem isB_cap (e : Ev) : isB (capE e) = isB e := by
  unfold isB capE
  simp only
  rw [Bool.eq_iff_iff]
  simp only [Bool.and_eq_true, decide_eq_true_eq]
  constructor
  · rintro ⟨h1, h2, h3, h4, h5, h6⟩; exact ⟨h1, h2, h3, by omega, by omega, h6⟩
  · rintro ⟨h1, h2, h3, h4, h5, h6⟩; exact ⟨h1, h2, h3, by omega, by omega, h6⟩
theorem cap_same {e : Ev} (h : isB e = true) : capE e = e := by
  have := (is_known h).t1
  obtain ⟨a, b, c, d, f⟩ := e
  simp only [capE, Ev.mk.injEq, true_and, and_true]
  simp only at this
  omega
theorem caps_bad (l : List Item) : (caps l).all isB = (evs l).all isB := by
  induction l with
  | nil => rfl
  | cons x l ih => simp only [caps, evs, List.map_cons, List.all_cons, isB_cap] at *; rw [ih]
theorem caps_exp (l : List Item) : (expB (caps l)).2 = (expB (evs l)).2 := by
  unfold expB
  have e : (caps l).length = (evs l).length := by simp [caps, evs]
  rw [e, caps_bad]
  split
  · rfl
  · split <;> rfl
theorem caps_evs {l : List Item} (h : (expB (evs l)).2 = 0) : caps l = evs l := by
  unfold expB at h
  split at h
  · simp at h
  · split at h
    · rename_i hall
      rw [List.all_eq_true] at hall
      unfold caps evs at *
      apply List.map_congr_left
      intro x hx
      exact cap_same (hall _ (List.mem_map.2 ⟨x, hx, rfl⟩))
    · simp at h
theorem all_len {l : List UInt8} {es : List Ev} (h : allL l = some es) : es.length ≤ l.length := by
  unfold allL at h
  split at h
  · cases h
  · rename_i es' r hl
    split at h
    · simp only [Option.some.injEq] at h
      rw [← h]
      exact (list_suf (fun l x r h => (event_suf h).1) hl).2.2
    · cases h
def ImpR (L : List UInt8) (w : World) (lv : Value) : Prop := ∃ a cap its, lv = .slice a its.length cap ∧ EvsAt w a its ∧ evs its = (impB L).1 ∧ its.length ≤ 200
theorem ImpR.nil {L : List UInt8} {w : World} (h : (impB L).1 = []) : ImpR L w (.slice none 0 0) := ⟨none, 0, [], rfl, (fun h0 => by simp at h0), by rw [h]; rfl, by simp⟩
set_option maxRecDepth 100000 in
set_option maxHeartbeats 2000000 in
theorem importRef_any (s : ByteArray) (w : World) (hs : s.size ≤ maxLen) :
    Calls Tryz.prog 7 #[.string s] w fun e w' => ∃ lv, e = .returned (.tuple #[lv, .int .i64 (impB s.data.toList).2]) ∧ Hid (ImpR s.data.toList w' lv) ∧ Below w.heap.size w w' := by
  unfold maxLen at hs
  have hlen : s.data.toList.length = s.size := by simp
  by_cases hbig : 1048576 < s.size
  · have HI : Hid (impB s.data.toList = ([], 4)) := by rw [Hid, impB, if_pos (by omega)]
    clear hlen
    go_enter Tryz.func7, Tryz.ntmps7
    go_wp2
    go_ret2
    exact ⟨_, by rw [HI.out]; rfl, ImpR.nil (by rw [HI.out]), Below.refl _ _⟩
  · have hsm : s.size ≤ 1048576 := by omega
    have HI0 : Hid (impB s.data.toList = match allL s.data.toList with | none => ([], 4) | some es => if (expB es).2 = 0 then (es, 0) else ([], (expB es).2)) := by rw [Hid, impB, if_neg (by omega)]; rfl
    clear hlen
    go_enter Tryz.func7, Tryz.ntmps7
    go_wp2_with fail
    refine (allRef_any s w hsm).mono ?_
    rintro e w1 ⟨lv, z, rfl, ⟨ok, rfl, hA⟩, hb1⟩
    have HB1 := hide0 hb1
    clear hb1
    cases hal : allL s.data.toList with
    | none =>
      rw [AllR, hal] at hA
      have hok : ok = false := hA
      subst hok
      have HI : Hid (impB s.data.toList = ([], 4)) := by rw [HI0.out, hal]; exact rfl
      go_wp2
      go_ret2
      exact ⟨_, by rw [HI.out]; rfl, ImpR.nil (by rw [HI.out]), HB1.out⟩
    | some es =>
      rw [AllR, hal] at hA
      obtain ⟨rfl, its, hM, hcap, hfew⟩ := hA
      obtain ⟨a, cap, rfl, hE⟩ := hM.evs hfew
      have HE := hide0 hE
      have HI : Hid (impB s.data.toList = if (expB (evs its)).2 = 0 then (evs its, 0) else ([], (expB (evs its)).2)) := by
        rw [HI0.out, hal, ← hcap]
        simp only [caps_exp]
        show _ = _
        split
        · rename_i h0; rw [caps_evs h0]
        · rfl
      have hlI : its.length ≤ 1048576 := by
        have h1 := all_len hal
        have h2 : es.length = its.length := by rw [← hcap]; simp [caps]
        have h3 : s.data.toList.length = s.size := by simp
        omega
      clear hM hcap hfew hE HI0 hal
      by_cases hmany : 200 < its.length
      · have HF : Hid (impB s.data.toList = ([], 5)) := by
          rw [HI.out]
          have : (expB (evs its)).2 = 5 := by rw [expB, if_pos (by simpa [evs] using hmany)]
          rw [this]; exact rfl
        go_wp2
        go_ret2
        exact ⟨_, by rw [HF.out]; rfl, ImpR.nil (by rw [HF.out]), HB1.out⟩
      · go_wp2
        go_loopw [6] (fun iv wx => ∃ k : Nat, k ≤ its.length ∧ iv = .int .i64 k ∧ Hid (∀ x ∈ (evs its).take k, isB x = true) ∧ Hid (Below w1.heap.size w1 wx)) (fun iv _ => its.length - (intOf iv).toNat)
        case atStart => exact ⟨0, Nat.zero_le _, rfl, by intro x hx; simp at hx, Below.refl _ _⟩
        case round =>
          obtain ⟨k, hk, rfl, HA, HW⟩ := hrel
          have hsz1 := HB1.out.size
          by_cases hlt : k < its.length
          · have hltI : (k : Int) < (its.length : Int) := by omega
            obtain ⟨b1, o1, rfl, hc1⟩ := HE.out.below HW.out (Nat.le_refl _) (by omega)
            obtain ⟨⟨⟨kd, tk, tm, bd, ts⟩, ta, tc⟩, hx⟩ : ∃ x, its[k]? = some x := ⟨_, List.getElem?_eq_getElem hlt⟩
            obtain ⟨⟨c0, c1, c2, c3, c4⟩, hok⟩ := hc1 k _ hx
            simp only at c0 c1 c2 c3 c4
            have HOK := hide0 hok
            have HX := hide0 hx
            have hG := good_any kd tk tm bd ta tc ts wr HOK.out.tags HOK.out.short (by have := HOK.out.few; unfold maxLen; simp only at this; omega) HOK.out.task HOK.out.body
            have hsz := HW.out.size
            generalize hq : isB ⟨kd, tk, tm, bd, ts⟩ = q at hG
            have HQ : Hid _ := hq
            have hev : (evs its)[k]? = some ⟨kd, tk, tm, bd, ts⟩ := by rw [evs, List.getElem?_map, HX.out]; rfl
            clear hc1 hok hx hq
            cases q
            · have HF : Hid (impB s.data.toList = ([], 2)) := by
                rw [HI.out]
                have : (expB (evs its)).2 = 2 := by
                  rw [expB, if_neg (by simpa [evs] using hmany), if_neg]
                  rw [List.all_eq_true]
                  intro h
                  have := h _ (List.mem_of_getElem? hev)
                  rw [HQ.out] at this
                  cases this
                rw [this]; exact rfl
              clear hev
              go_wp2_with fail
              refine hG.mono ?_
              rintro e w2 ⟨rfl, hb2⟩
              go_wp2
              go_ret2
              exact ⟨_, by rw [HF.out]; rfl, ImpR.nil (by rw [HF.out]), (HB1.out.trans (HW.out.mono hsz1)).trans (hb2.mono (by omega))⟩
            · have HA2 : Hid (∀ x ∈ (evs its).take (k + 1), isB x = true) := by
                intro x hx
                have hk' := (List.getElem?_eq_some_iff.1 hev).1
                rw [List.take_succ_eq_append_getElem hk', List.mem_append] at hx
                rcases hx with hx | hx
                · exact HA.out x hx
                · simp only [List.mem_singleton] at hx
                  rw [List.getElem?_eq_getElem hk'] at hev
                  rw [hx, Option.some.inj hev]; exact HQ.out
              clear hev
              go_wp2_with fail
              refine hG.mono ?_
              rintro e w2 ⟨rfl, hb2⟩
              have HW2 := hide0 (HW.out.trans (hb2.mono hsz))
              clear hb2 hG c0 c1 c2 c3 c4
              go_wp2
              go_roundw
              case rel => exact ⟨k + 1, by omega, by go_num, HA2, HW2⟩
              case measure => simp [intOf]; omega
          · have hltI : ¬ (k : Int) < (its.length : Int) := by omega
            have HF : Hid (impB s.data.toList = (evs its, 0)) := by
              rw [HI.out]
              have : (expB (evs its)).2 = 0 := by
                rw [expB, if_neg (by simpa [evs] using hmany), if_pos]
                rw [List.all_eq_true]
                intro x hx
                refine HA.out x ?_
                rwa [List.take_of_length_le (by simp [evs]; omega)]
              rw [if_pos this]; exact rfl
            go_wp2
            go_ret2
            exact ⟨_, by rw [HF.out]; rfl, ⟨a, cap, its, rfl, HE.out.below HW.out (Nat.le_refl _), by rw [HF.out], by omega⟩, HB1.out.trans (HW.out.mono hsz1)⟩
end Go.Proofs.YtodlcnbknjldnaaGreatDoor
namespace Go.Proofs.YtodlcnbknjldnaaGreatDoor
open Go.RowKit Chron
theorem few_weak {n m : Nat} {e : Ev} (h : Few n e) (hm : n ≤ m) : Few m e := ⟨Nat.le_trans h.tags hm, fun t ht => Nat.le_trans (h.each t ht) hm, Nat.le_trans h.task hm, Nat.le_trans h.body hm⟩
theorem items_few : ∀ (n : Nat) {l r : List UInt8} {xs : List Ev}, l.length ≤ n → itemsL eventL event_one l = some (xs, r) → ∀ x ∈ xs, Few n x
  | n, l, r, xs, hn, h => by
    cases ho : eventL l with
    | none => rw [items_none ho] at h; cases h
    | some p =>
      obtain ⟨x, r0⟩ := p
      have h0 := (event_suf ho).2
      have f0 := few_weak (event_few ho) hn
      cases hs : signL 44 r0 with
      | none =>
        rw [items_last ho hs] at h
        cases h3 : signL 93 r0 with
        | none => rw [h3] at h; cases h
        | some r3 =>
          rw [h3] at h
          simp only [Option.map_some, Option.some.injEq, Prod.mk.injEq] at h
          obtain ⟨rfl, rfl⟩ := h
          intro y hy
          simp only [List.mem_singleton] at hy
          rw [hy]; exact f0
      | some r2 =>
        rw [items_more ho hs] at h
        have hl2 := (sign_suf hs).2
        cases hi : itemsL eventL event_one r2 with
        | none => rw [hi] at h; cases h
        | some q =>
          obtain ⟨ys, r3⟩ := q
          rw [hi] at h
          simp only [Option.map_some, Option.some.injEq, Prod.mk.injEq] at h
          obtain ⟨rfl, rfl⟩ := h
          match n, hn with
          | 0, hn => omega
          | n + 1, hn =>
            have ih := items_few n (by omega) hi
            intro y hy
            rcases List.mem_cons.1 hy with rfl | hy
            · exact f0
            · exact few_weak (ih y hy) (by omega)
theorem list_few {l r : List UInt8} {xs : List Ev} (h : listL eventL event_one l = some (xs, r)) : ∀ x ∈ xs, Few l.length x := by
  unfold listL at h
  split at h
  · cases h
  · rename_i r0 e0
    have h0 := (sign_suf e0).2
    split at h
    · simp only [Option.some.injEq, Prod.mk.injEq] at h
      obtain ⟨rfl, rfl⟩ := h
      intro x hx; cases hx
    · intro x hx; exact few_weak (items_few _ (Nat.le_refl _) h x hx) (by omega)
def ReadR (L : List UInt8) (N : Nat) (w : World) (lv : Value) (ok : Bool) : Prop :=
  match allL L with
  | some es => ok = true ∧ ∃ its, MadeO N w lv its ∧ evs its = es ∧ ∀ it ∈ its, Few L.length it.ev
  | none => ok = false
set_option maxRecDepth 100000 in
set_option maxHeartbeats 4000000 in
theorem canonRead_any (s : ByteArray) (w : World) (G : Hid (Glob w.heap.size w)) (hs : s.size ≤ 1048576) :
    Calls Tryz.prog 14 #[.string s] w fun e w' => ∃ (lv : Value) (ok : Bool), e = .returned (.tuple #[lv, .bool ok]) ∧ Hid (ReadR s.data.toList (w.heap.size + 1) w' lv ok) ∧ Below w.heap.size w w' := by
  have hlen : s.data.toList.length = s.size := by simp
  have hbs : ba s.data.toList = s := by apply bytes_inj; simp [ba]
  have hb0 : Below w.heap.size w (w.alloc (.cells #[.string s, .bool false] 60)) := (Below.refl _ _).alloc (Nat.le_refl _) _
  have H0 : Hid (Rd w.heap.size (w.alloc (.cells #[.string s, .bool false] 60)) s.data.toList false) := by
    show _ = _
    rw [hbs]; exact heap_alloc_new _ _
  have G0 := hide0 (G.out.more hb0)
  have HB0 := hide0 hb0
  have HLE := hide0 hlen
  generalize s.data.toList = L at H0 HLE
  have hL : L.length ≤ 1048576 := by rw [HLE.out]; exact hs
  clear hb0 hlen hbs
  go_enter Tryz.func14, Tryz.ntmps14
  go_wp2_with fail
  refine (revents_any w.heap.size w.heap.size L false _ G0 (Nat.le_refl _) H0 hL).mono ?_
  rintro e w1 ⟨lv, its, rfl, H1, HM1, HV1, HF1⟩
  rw [World.size_alloc] at HM1
  have HF1' : Hid (Far w w1 [some w.heap.size]) := (Far.of_below HB0.out (Nat.le_refl _)).trans HF1.out
  go_wp2_with fail
  refine (skip_any w.heap.size _ _ _ H1).mono ?_
  rintro e w2 ⟨rfl, H2, HF2⟩
  have HM2 := hide0 (HM1.out.far HF2.out (by omega))
  have HB2 := hide0 ((HF1'.out.trans HF2.out).below (Nat.le_refl _) (fun q hq => by simp at hq; omega))
  clear H1 HM1 HF1 HF1' HF2
  cases hq : listL eventL event_one L with
  | none =>
    have HR : Hid (∀ n, ReadR L (w.heap.size + 1) (w2.drewN n) lv false) := by
      intro n
      unfold ReadR allL; rw [hq]
    rw [hq] at H2
    have H2' : Hid (Rd w.heap.size w2 (skipL []) true) := H2
    obtain ⟨c0, c1, cf⟩ := H2'.out.cells
    go_wp2_with fail
    go_quiet (fail)
    go_wp2
    go_ret2
    exact ⟨lv, false, rfl, HR.out _, below_drewN HB2.out _⟩
  | some p =>
    obtain ⟨es, r⟩ := p
    have hev := HV1.out _ hq
    rw [hq] at H2
    have H2' : Hid (Rd w.heap.size w2 (skipL r) false) := H2
    have hfew := list_few hq
    have HR : Hid (∀ n, ReadR L (w.heap.size + 1) (w2.drewN n) lv (decide (skipL r = []))) := by
      intro n
      unfold ReadR allL; rw [hq]
      simp only
      by_cases hr : skipL r = []
      · simp only [hr, if_true, decide_true]
        refine ⟨trivial, its, HM2.out.keep (fun _ _ _ => rfl), hev, fun it hi => hfew _ ?_⟩
        simp only at hev
        rw [← hev]
        exact List.mem_map.2 ⟨it, hi, rfl⟩
      · simp [hr]
    obtain ⟨c0, c1, cf⟩ := H2'.out.cells
    have he : ((ba (skipL r)).toList == []) = decide (skipL r = []) := by
      rw [ba_toList, Bool.eq_iff_iff]; simp
    generalize hS : ba (skipL r) = S at c0 he
    generalize decide (skipL r = []) = ok at he HR
    have he2 : S.toList.isEmpty = ok := by
      rw [← he]
      cases S.toList <;> rfl
    clear hS hev hfew H2 H2'
    go_wp2_with fail
    go_quiet (fail)
    go_wp2
    go_ret2
    exact ⟨lv, ok, rfl, HR.out _, below_drewN HB2.out _⟩
def ImpO (L : List UInt8) (N : Nat) (w : World) (lv : Value) : Prop := ∃ its, MadeO N w lv its ∧ evs its = (impB L).1
set_option maxRecDepth 100000 in
set_option maxHeartbeats 4000000 in
theorem import_any (s : ByteArray) (w : World) (G : Hid (Glob w.heap.size w)) (hs : s.size ≤ maxLen) :
    Calls Tryz.prog 5 #[.string s] w fun e w' => ∃ lv, e = .returned (.tuple #[lv, .int .i64 (impB s.data.toList).2]) ∧ Hid (ImpO s.data.toList w.heap.size w' lv) ∧ Below w.heap.size w w' := by
  unfold maxLen at hs
  have hlen : s.data.toList.length = s.size := by simp
  by_cases hbig : 1048576 < s.size
  · have HI : Hid (impB s.data.toList = ([], 4)) := by rw [Hid, impB, if_pos (by omega)]
    clear hlen
    go_enter Tryz.func5, Tryz.ntmps5
    go_wp2
    go_ret2
    exact ⟨_, by rw [HI.out]; rfl, ⟨[], MadeO.nil _ _, by rw [HI.out]; rfl⟩, Below.refl _ _⟩
  · have hsm : s.size ≤ 1048576 := by omega
    have HI0 : Hid (impB s.data.toList = match allL s.data.toList with | none => ([], 4) | some es => if (expB es).2 = 0 then (es, 0) else ([], (expB es).2)) := by rw [Hid, impB, if_neg (by omega)]; rfl
    have HLE := hide0 hlen
    clear hlen
    go_enter Tryz.func5, Tryz.ntmps5
    go_wp2_with fail
    refine (canonRead_any s w G hsm).mono ?_
    rintro e w1 ⟨lv, ok, rfl, hA, hb1⟩
    have HB1 := hide0 hb1
    clear hb1
    cases hal : allL s.data.toList with
    | none =>
      have hA2 := hA.out
      rw [ReadR, hal] at hA2
      have hok : ok = false := hA2
      subst hok
      have HI : Hid (impB s.data.toList = ([], 4)) := by rw [HI0.out, hal]; exact rfl
      clear hA2
      go_wp2
      go_ret2
      exact ⟨_, by rw [HI.out]; rfl, ⟨[], MadeO.nil _ _, by rw [HI.out]; rfl⟩, HB1.out⟩
    | some es =>
      have hA2 := hA.out
      rw [ReadR, hal] at hA2
      obtain ⟨rfl, its, hM, hev, hfew⟩ := hA2
      have hL2 := HLE.out
      obtain ⟨a, cap, rfl, hE⟩ := hM.made.evs (fun it hi => few_weak (hfew it hi) (by omega))
      have HE := hide0 hE
      have HM := hide0 hM
      have HI : Hid (impB s.data.toList = if (expB (evs its)).2 = 0 then (evs its, 0) else ([], (expB (evs its)).2)) := by
        rw [Hid, HI0.out, hal, hev]
      have hlI : its.length ≤ 1048576 := by
        have h1 := all_len hal
        have h2 : es.length = its.length := by rw [← hev]; simp [evs]
        omega
      clear hM hev hfew hE HI0 hal hA hL2
      have hR := refuse_any a cap its w1 HE (by omega)
      cases hx : decide ((expB (evs its)).2 = 0) with
      | true =>
        have hx2 : (expB (evs its)).2 = 0 := of_decide_eq_true hx
        rw [if_pos hx2] at HI
        rw [hx2] at hR
        clear hx hx2
        go_wp2_with fail
        refine hR.mono ?_
        rintro e w2 ⟨rfl, hb2⟩
        have HM2 : Hid (MadeO w.heap.size w2 (.slice a its.length cap) its) := by
          have := HM.out.keep (fun q _ h2 => hb2.block q h2)
          exact ⟨own_mono this.row (by omega), fun it hi => own_mono (this.tags it hi) (by omega), this.apart, this.dist⟩
        have HB2 := hide0 (HB1.out.trans (hb2.mono HB1.out.size))
        clear hb2
        go_wp2
        go_ret2
        exact ⟨_, by rw [HI.out]; rfl, ⟨its, HM2.out, by rw [HI.out]⟩, HB2.out⟩
      | false =>
        have hx2 : ¬ (expB (evs its)).2 = 0 := of_decide_eq_false hx
        rw [if_neg hx2] at HI
        generalize (expB (evs its)).2 = z at hR hx2 HI
        have hz : (z == 0) = false := by simp [hx2]
        clear hx hx2
        go_wp2_with fail
        refine hR.mono ?_
        rintro e w2 ⟨rfl, hb2⟩
        have HB2 := hide0 (HB1.out.trans (hb2.mono HB1.out.size))
        clear hb2
        go_wp2
        go_ret2
        exact ⟨_, by rw [HI.out]; rfl, ⟨[], MadeO.nil _ _, by rw [HI.out]; rfl⟩, HB2.out⟩
end Go.Proofs.YtodlcnbknjldnaaGreatDoor
namespace Go.Proofs.YtodlcnbknjldnaaGreatDoor
open Go.RowKit Chron
theorem run_append_keptG {P : Program} (w : World) (t ty : TypeId) (base : Nat) (e : TypeId) (i : TypeInfo) (z : Value) (size bytes : Nat) (ht : P.underlying t = some (.slice e)) (hi : P.info? e = some i) (hz : i.zero = some z)
    (hsize : i.size = size) (hby : i.bytes = bytes) (hzs : z.cells.size = size) (hpos : 0 < size)
    (v : Value) (n : Nat) (xs : List Value) (hown : w.ownsRow base e size v n xs)
    (ad : Addr) (m c : Nat) (news : List Value) (hl : news.length = m * size) (hnews : ∀ j u, news[j]? = some u → w.cell? (ad.add j) = some u) (h1 : ∀ u ∈ news, u.oneCell' = true)
    (hm : 0 < m) (h63 : n + m ≤ maxLen) (hbytes : (n + m) * bytes ≤ 140737488355328) (hbase : base ≤ w.heap.size) :
    ∃ g cap w', (Builtin.append_ #[t, t] ty #[v, .slice (some ad) m c]).run P w = .ok (.slice (some ⟨g, 0, none⟩) (n + m) cap) w' ∧
      w'.ownsRow base e size (.slice (some ⟨g, 0, none⟩) (n + m) cap) (n + m) (xs ++ news) ∧ w'.ownsRow base e size v n xs ∧ Lay w w' v g w.heap.size := by
  rcases hown.2 with ⟨rfl, rfl⟩ | ⟨g0, cap0, cur, rfl, a2, a3, a4, a5, a6, a7⟩
  · obtain ⟨g, cap, w', hr, h2, h3, h4, h5⟩ := run_append_lies (P := P) w t ty base e i z size bytes ht hi hz hsize hby hzs hpos (.slice none 0 0) 0 xs hown ad m c news hl hnews h1 hm h63 hbytes hbase w.heap.size rfl
    refine ⟨g, cap, w', hr, h2, ?_, .inr ⟨?_, h3⟩⟩
    · obtain rfl : xs = [] := List.eq_nil_of_length_eq_zero (by simpa using hown.1)
      exact World.ownsRow_nil _ _ _ _
    · rcases h4 with h4 | h4
      · cases h4
      · omega
  · by_cases hr : n + m ≤ cap0
    · obtain ⟨w', hrun, h2, h3⟩ := run_append_own_spare (P := P) w base t ty e i size ht hi hsize g0 n cap0 xs hown ad m c news hl hnews h1 hr
      refine ⟨g0, cap0, w', hrun, h2, ?_, .inl ⟨rfl, h3⟩⟩
      obtain ⟨b1, ⟨b2, _⟩ | ⟨g', cap', cur', hv, c2, c3, c4, c5, c6, c7⟩⟩ := h2
      · cases b2
      · cases hv
        refine ⟨hown.1, .inr ⟨g0, cap0, cur', rfl, c2, c3, a4, c5, c6, ?_⟩⟩
        have hxl := hown.1
        have : (cur'.toList.take ((n + m) * size)).take (n * size) = (xs ++ news).take (n * size) := by rw [c7]
        rw [List.take_take, Nat.min_eq_left (Nat.mul_le_mul_right _ (by omega))] at this
        rw [this, ← hxl, List.take_left]
    · have hxl := hown.1
      obtain ⟨v', w', hrun, h2, h3⟩ := run_append_arg_grows (P := P) w t ty e i z size bytes ht hi hz hsize hby hzs hpos ⟨g0, 0, none⟩ n cap0 xs hxl (fun j u hu => by
        rw [Addr.add_lit, Nat.zero_add]
        rw [← a7] at hu
        have hj := (List.getElem?_eq_some_iff.1 hu).1
        rw [List.getElem?_take_of_lt (by simp at hj; omega)] at hu
        simpa [World.cell?, a3] using hu) ad m c news hl hnews (by omega) h63 hbytes
      obtain ⟨g, cap, rfl, hg1, hg2⟩ := h2.form (by omega)
      exact ⟨g, cap, w', hrun, own_mono h2 hbase, hown.kept (row := none) h3 (Classical.em _), .inr ⟨hg1, h3⟩⟩
theorem wpList_append_keptG {P : Program} (w : World) {ops : Array Oper} {rest : List Oper} {o : Oper} {a : Act} {Q : Exit → Act → World → Prop} (hgd : o.guard = none) (s x : Operand) (t : TypeId)
    (ho : o.op = .call { callee := .builtin .append, args := #[s, x], argTypes := #[t, t] })
    (base : Nat) (e : TypeId) (i : TypeInfo) (z : Value) (size bytes : Nat) (ht : P.underlying t = some (.slice e)) (hi : P.info? e = some i) (hz : i.zero = some z)
    (hsize : i.size = size) (hby : i.bytes = bytes) (hzs : z.cells.size = size) (hpos : 0 < size)
    (v : Value) (n : Nat) (xs : List Value) (hs : a.eval s = v) (hown : w.ownsRow base e size v n xs)
    (ad : Addr) (m c : Nat) (news : List Value) (hx : a.eval x = .slice (some ad) m c) (hl : news.length = m * size) (hnews : ∀ j u, news[j]? = some u → w.cell? (ad.add j) = some u) (h1 : ∀ u ∈ news, u.oneCell' = true)
    (hm : 0 < m) (h63 : n + m ≤ maxLen) (hbytes : (n + m) * bytes ≤ 140737488355328) (hbase : base ≤ w.heap.size)
    (h : ∀ g cap w', w'.ownsRow base e size (.slice (some ⟨g, 0, none⟩) (n + m) cap) (n + m) (xs ++ news) → w'.ownsRow base e size v n xs → Lay w w' v g w.heap.size → wpList P ops Q rest (a.put o.dst (.slice (some ⟨g, 0, none⟩) (n + m) cap)) w') : wpList P ops Q (o :: rest) a w := by
  refine wpList_plain hgd fun K hK => ?_
  obtain ⟨g, cap, w', hr, h2, h3, h4⟩ := run_append_keptG (P := P) w t o.type base e i z size bytes ht hi hz hsize hby hzs hpos v n xs hown ad m c news hl hnews h1 hm h63 hbytes hbase
  unfold Oper.wp execOp
  simp only [ho, resolve, invoke, builtin, Sem.run_bind, Sem.run_pure, Result.andThen_ok, List.map_toArray, List.map_cons, List.map_nil, hs, hx, hr]
  exact hK _ _ (h g cap w' h2 h3 h4)
def reps (n : Nat) (mc : List Value) : List Value := (List.replicate n mc).flatten
theorem reps_len (n : Nat) (mc : List Value) : (reps n mc).length = n * mc.length := by simp [reps]
theorem reps_add (n m : Nat) (mc : List Value) : reps n mc ++ reps m mc = reps (n + m) mc := by simp [reps, ← List.replicate_append_replicate]
theorem reps_pre {n m : Nat} {mc : List Value} (h : n ≤ m) {j : Nat} {u : Value} (hj : (reps n mc)[j]? = some u) : (reps m mc)[j]? = some u := by
  obtain ⟨k, rfl⟩ : ∃ k, m = n + k := ⟨m - n, by omega⟩
  rw [← reps_add, List.getElem?_append_left (List.getElem?_eq_some_iff.1 hj).1]; exact hj
theorem reps_one (n : Nat) (u : Value) : reps n [u] = List.replicate n u := by
  induction n with
  | zero => rfl
  | succ n ih => simp only [reps, List.replicate_succ, List.flatten_cons] at *; rw [ih]; rfl
structure OutG (w : World) (B most : Nat) (mc : List Value) (v : Value) (g no cap : Nat) : Prop where
  val : v = .slice (some ⟨g, 0, none⟩) no cap
  few : no ≤ most
  room : no ≤ cap
  base : B ≤ g
  lt : g < w.heap.size
  cells : ∀ j u, (reps no mc)[j]? = some u → w.cell? ⟨g, j, none⟩ = some u
theorem OutG.keep {w w' : World} {B most : Nat} {mc : List Value} {v : Value} {g no cap : Nat} (h : OutG w B most mc v g no cap) (hs : w.heap.size ≤ w'.heap.size) (hb : w'.heap[g]? = w.heap[g]?) : OutG w' B most mc v g no cap :=
  ⟨h.val, h.few, h.room, h.base, Nat.lt_of_lt_of_le h.lt hs, fun j u hu => by rw [World.cell?_of_block (a := ⟨g, j, none⟩) hb]; exact h.cells j u hu⟩
theorem OutG.blk {w : World} {B most : Nat} {mc : List Value} {v : Value} {g no cap : Nat} (h : OutG w B most mc v g no cap) : v.ownBlock = some g := by rw [h.val]; rfl
structure MarksG (w : World) (B : Nat) (T sz : Nat) (l : Value) (n : Nat) (mc : List Value) (outs : List Value) (k : Nat) : Prop where
  own : w.ownsRow B T sz l n (reps n mc)
  outs : ∀ o ∈ outs, ∃ g no cap, OutG w B (n + k) mc o g no cap
theorem own_cellsG {w : World} {B g n cap sz : Nat} {e : TypeId} {xs : List Value} (h : w.ownsRow B e sz (.slice (some ⟨g, 0, none⟩) n cap) n xs) : n ≤ cap ∧ ∀ j u, xs[j]? = some u → w.cell? ⟨g, j, none⟩ = some u := by
  obtain ⟨h1, ⟨h2, _⟩ | ⟨g', cap', cur, hv, a2, a3, a4, a5, a6, a7⟩⟩ := h
  · cases h2
  · cases hv
    refine ⟨a4, fun j u hu => ?_⟩
    rw [← a7] at hu
    have hj := (List.getElem?_eq_some_iff.1 hu).1
    rw [List.getElem?_take_of_lt (by simp at hj; omega)] at hu
    simpa [World.cell?, a3] using hu
theorem MarksG.push {w wa : World} {B T sz g cap n k j : Nat} {l : Value} {mc outs : List Value} {o : Obj} (h : MarksG w B T sz l n mc outs k) (hj : k ≤ j)
    (hnew : wa.ownsRow B T sz (.slice (some ⟨g, 0, none⟩) (n + j) cap) (n + j) (reps n mc ++ reps j mc)) (hold : wa.ownsRow B T sz l n (reps n mc))
    (hlay : Lay (w.alloc o) wa l g (w.alloc o).heap.size) : MarksG wa B T sz l n mc (outs ++ [.slice (some ⟨g, 0, none⟩) (n + j) cap]) j := by
  rw [reps_add] at hnew
  obtain ⟨hcap, hcells⟩ := own_cellsG hnew
  have hg := hnew.lt g rfl
  refine ⟨hold, fun x hx => ?_⟩
  rcases List.mem_append.1 hx with hx | hx
  · obtain ⟨g1, no, c1, ho⟩ := h.outs x hx
    have hlt := ho.lt
    have hfew := ho.few
    have same : wa.heap[g1]? = (w.alloc o).heap[g1]? → ∀ q u, (reps no mc)[q]? = some u → wa.cell? ⟨g1, q, none⟩ = some u := fun he q u hq => by
      rw [World.cell?_of_block (a := ⟨g1, q, none⟩) (he.trans (Below.heap_alloc _ _ _ hlt))]; exact ho.cells q u hq
    have hsz : w.heap.size ≤ wa.heap.size := by
      have h1 : (w.alloc o).heap.size = w.heap.size + 1 := World.size_alloc _ _
      rcases hlay with ⟨_, hgr⟩ | ⟨_, hgr⟩ <;> (have := hgr.size; omega)
    refine ⟨g1, no, c1, ho.val, by omega, ho.room, ho.base, by omega, ?_⟩
    rcases hlay with ⟨_, hgr⟩ | ⟨_, hgr⟩
    · by_cases he : g1 = g
      · subst he; exact fun q u hq => hcells q u (reps_pre (by omega) hq)
      · exact same (hgr.block g1 (by rw [World.size_alloc]; omega) (fun e => he (Option.some.inj e)))
    · exact same (hgr.block g1 (by rw [World.size_alloc]; omega) (fun e => by cases e))
  · simp only [List.mem_singleton] at hx
    subst hx
    exact ⟨g, n + j, cap, rfl, Nat.le_refl _, hcap, hg.1, hg.2, hcells⟩
end Go.Proofs.YtodlcnbknjldnaaGreatDoor
namespace Go.Proofs.YtodlcnbknjldnaaGreatDoor
open Go.RowKit Chron
def callerB : ByteArray := ⟨#[116, 104, 101, 32, 99, 97, 108, 108, 101, 114, 39, 115]⟩
def badV (r : Nat) : List Value := [.int .i64 (-1000 - (r : Int)), .string ⟨#[]⟩, .int .i64 0, .string callerB, .slice none 0 0]
def EntG (w : World) (b : Nat) (tv ev : Value) (most : Nat) (mc : List Value) (v : Value) : Prop :=
  v = .slice none 0 0 ∨ ∃ g no cap, OutG w (b + 1) most mc v g no cap ∧ tv.ownBlock ≠ some g ∧ ev.ownBlock ≠ some g
structure Book2 (b : Nat) (tv ev : Value) (xs ys : List Value) (w : World) : Prop where
  blk : w.heap[b]? = some (.cells #[tv, ev] 34)
  tags : w.ownsRow (b + 1) 22 1 tv xs.length xs
  evts : w.ownsRow (b + 1) 23 1 ev ys.length ys
  te : ∀ q, tv.ownBlock = some q → ev.ownBlock ≠ some q
  full : ∀ i v, xs[i]? = some v → EntG w b tv ev 7 [.string (badB (i / 4))] v
  fullE : ∀ i v, ys[i]? = some v → EntG w b tv ev 203 (badV (i / 4)) v
def Clear (b : Nat) (tv ev : Value) (xs ys : List Value) (q : Nat) : Prop := q ≠ b ∧ tv.ownBlock ≠ some q ∧ ev.ownBlock ≠ some q ∧ (∀ v ∈ xs, v.ownBlock ≠ some q) ∧ ∀ v ∈ ys, v.ownBlock ≠ some q
theorem Book2.lt {b : Nat} {tv ev : Value} {xs ys : List Value} {w : World} (h : Book2 b tv ev xs ys w) : b < w.heap.size := (Array.getElem?_eq_some_iff.1 h.blk).1
theorem Book2.keep {b : Nat} {tv ev : Value} {xs ys : List Value} {w w' : World} (h : Book2 b tv ev xs ys w) (hs : w.heap.size ≤ w'.heap.size) (hb : ∀ q, q < w.heap.size → ¬ Clear b tv ev xs ys q → w'.heap[q]? = w.heap[q]?) : Book2 b tv ev xs ys w' := by
  have ent : ∀ (most : Nat) (mc : List Value) (v : Value), (v ∈ xs ∨ v ∈ ys) → EntG w b tv ev most mc v → EntG w' b tv ev most mc v := by
    intro most mc v hv he
    rcases he with he | ⟨g, no, cap, ho, h2, h3⟩
    · exact .inl he
    · refine .inr ⟨g, no, cap, ho.keep hs (hb g ho.lt (fun hc => ?_)), h2, h3⟩
      rcases hv with hv | hv
      · exact hc.2.2.2.1 v hv ho.blk
      · exact hc.2.2.2.2 v hv ho.blk
  refine ⟨(hb b h.lt (fun hc => hc.1 rfl)).trans h.blk, ?_, ?_, h.te, fun i v hv => ent _ _ v (.inl (List.mem_of_getElem? hv)) (h.full i v hv), fun i v hv => ent _ _ v (.inr (List.mem_of_getElem? hv)) (h.fullE i v hv)⟩
  · exact own_of_block h.tags fun q hq => hb q (h.tags.lt _ hq).2 (fun hc => hc.2.1 hq)
  · exact own_of_block h.evts fun q hq => hb q (h.evts.lt _ hq).2 (fun hc => hc.2.2.1 hq)
theorem Book2.far {b : Nat} {tv ev : Value} {xs ys : List Value} {w w' : World} {R : List (Option Nat)} (h : Book2 b tv ev xs ys w) (hf : Far w w' R) (hR : ∀ q, some q ∈ R → q < w.heap.size → Clear b tv ev xs ys q) : Book2 b tv ev xs ys w' :=
  h.keep hf.size fun q hq hc => hf.block q hq fun _ hr e => hc (hR q (e ▸ hr) hq)
theorem Book2.below {b : Nat} {tv ev : Value} {xs ys : List Value} {w w' : World} (h : Book2 b tv ev xs ys w) (hb : Below w.heap.size w w') : Book2 b tv ev xs ys w' :=
  h.keep hb.size fun q hq _ => hb.block q hq
/- where the blocks of an append lie -/
theorem Lay.facts {w wa : World} {v : Value} {g : Nat} {o : Obj} (h : Lay (w.alloc o) wa v g (w.alloc o).heap.size) : w.heap.size ≤ wa.heap.size ∧ (v.ownBlock = some g ∨ w.heap.size < g) ∧ Far w wa [v.ownBlock] := by
  have hsa : (w.alloc o).heap.size = w.heap.size + 1 := World.size_alloc _ _
  rcases h with ⟨h1, hgr⟩ | ⟨h1, hgr⟩
  · have hs := hgr.size
    refine ⟨by omega, .inl h1, hgr.os, hgr.tape, hgr.output, by omega, fun q hq hR => ?_⟩
    exact (hgr.block q (by omega) (fun e => hR v.ownBlock (by simp) (h1.trans e.symm))).trans (Below.heap_alloc _ _ _ hq)
  · have hs := hgr.size
    refine ⟨by omega, .inr (by omega), hgr.os, hgr.tape, hgr.output, by omega, fun q hq _ => ?_⟩
    exact (hgr.block q (by omega) (fun e => by cases e)).trans (Below.heap_alloc _ _ _ hq)
theorem Far.set_out {a b : World} {R : List (Option Nat)} (h : Far a b R) (p : Nat) (i : Nat) (u : Value) : Far a (b.setCell ⟨p, i, none⟩ u) (some p :: R) :=
  (h.wide (fun r hr => List.mem_cons_of_mem _ hr)).setCell (p := ⟨p, i, none⟩) (.inl (by simp)) u
/- four more entries of texts -/
theorem Book2.pushT {b : Nat} {tv ev : Value} {xs ys zs : List Value} {g cap r : Nat} {w wa : World} {o : Obj} (h : Book2 b tv ev xs ys w) (hx : xs.length = 4 * r) (hz4 : zs.length = 4)
    (hzs : ∀ v ∈ zs, EntG w b tv ev 7 [.string (badB r)] v)
    (hnew : wa.ownsRow (b + 1) 22 1 (.slice (some ⟨g, 0, none⟩) (xs.length + 4) cap) (xs.length + 4) (xs ++ zs)) (hlay : Lay (w.alloc o) wa tv g (w.alloc o).heap.size) :
    wa.heap[b]? = some (.cells #[tv, ev] 34) ∧
    Book2 b (.slice (some ⟨g, 0, none⟩) (xs.length + 4) cap) ev (xs ++ zs) ys (wa.setCell ⟨b, 0, none⟩ (.slice (some ⟨g, 0, none⟩) (xs.length + 4) cap)) ∧
    Far w (wa.setCell ⟨b, 0, none⟩ (.slice (some ⟨g, 0, none⟩) (xs.length + 4) cap)) [some b, tv.ownBlock] ∧
    ∀ q, q < w.heap.size → Clear b tv ev xs ys q → (∀ v ∈ zs, v.ownBlock ≠ some q) → Clear b (.slice (some ⟨g, 0, none⟩) (xs.length + 4) cap) ev (xs ++ zs) ys q := by
  obtain ⟨hsz, hg, hfar⟩ := hlay.facts
  have hblt := h.lt
  have hbt : tv.ownBlock ≠ some b := fun e => by have := (h.tags.lt b e).1; omega
  have hbe : ev.ownBlock ≠ some b := fun e => by have := (h.evts.lt b e).1; omega
  have hgb := (hnew.lt g rfl).1
  have hblk : wa.heap[b]? = some (.cells #[tv, ev] 34) := (hfar.block b hblt (by simp; exact hbt)).trans h.blk
  have same : ∀ q, q < w.heap.size → q ≠ b → tv.ownBlock ≠ some q → (wa.setCell ⟨b, 0, none⟩ (.slice (some ⟨g, 0, none⟩) (xs.length + 4) cap)).heap[q]? = w.heap[q]? := fun q hq hne ht =>
    (set_other hne).trans (hfar.block q hq (by simp; exact ht))
  have hgne : ∀ q, q < w.heap.size → tv.ownBlock ≠ some q → g ≠ q := fun q hq ht e => by
    subst e
    rcases hg with hg | hg
    · exact ht hg
    · omega
  have ent : ∀ (most : Nat) (mc : List Value) (v : Value), EntG w b tv ev most mc v → EntG (wa.setCell ⟨b, 0, none⟩ (.slice (some ⟨g, 0, none⟩) (xs.length + 4) cap)) b (.slice (some ⟨g, 0, none⟩) (xs.length + 4) cap) ev most mc v := by
    intro most mc v he
    rcases he with he | ⟨g1, no, c1, ho, h2, h3⟩
    · exact .inl he
    · refine .inr ⟨g1, no, c1, ho.keep (by rw [size_set]; exact hsz) (same g1 ho.lt (by have := ho.base; omega) h2), ?_, h3⟩
      simp only [Value.ownBlock, ne_eq, Option.some.injEq]
      exact hgne g1 ho.lt h2
  refine ⟨hblk, ⟨book_set hblk, ?_, ?_, ?_, ?_, ?_⟩, ?_, ?_⟩
  · have hl2 : (xs ++ zs).length = xs.length + 4 := by rw [List.length_append, hz4]
    rw [hl2]; exact ownsRow_setCell_below hnew (Nat.lt_succ_self _) _
  · exact own_of_block h.evts fun q hq => same q (h.evts.lt _ hq).2 (fun e => hbe (e ▸ hq)) (fun e => h.te q e hq)
  · intro q hq he
    simp only [Value.ownBlock, Option.some.injEq] at hq
    exact hgne q (h.evts.lt _ he).2 (fun e => h.te q e he) hq
  · intro i v hv
    by_cases hi : i < xs.length
    · rw [List.getElem?_append_left hi] at hv
      exact ent _ _ _ (h.full i v hv)
    · rw [List.getElem?_append_right (by omega)] at hv
      have hi2 := (List.getElem?_eq_some_iff.1 hv).1
      have hm : i / 4 = r := by omega
      rw [hm]
      exact ent _ _ _ (hzs v (List.mem_of_getElem? hv))
  · intro i v hv
    exact ent _ _ _ (h.fullE i v hv)
  · exact hfar.set_out b 0 _
  · intro q hq hc hz
    refine ⟨hc.1, ?_, hc.2.2.1, fun v hv => ?_, hc.2.2.2.2⟩
    · simp only [Value.ownBlock, ne_eq, Option.some.injEq]
      exact hgne q hq hc.2.1
    · rcases List.mem_append.1 hv with hv | hv
      · exact hc.2.2.2.1 v hv
      · exact hz v hv
/- four more entries of events -/
theorem Book2.pushE {b : Nat} {tv ev : Value} {xs ys zs : List Value} {g cap r : Nat} {w wa : World} {o : Obj} (h : Book2 b tv ev xs ys w) (hx : ys.length = 4 * r) (hz4 : zs.length = 4)
    (hzs : ∀ v ∈ zs, EntG w b tv ev 203 (badV r) v)
    (hnew : wa.ownsRow (b + 1) 23 1 (.slice (some ⟨g, 0, none⟩) (ys.length + 4) cap) (ys.length + 4) (ys ++ zs)) (hlay : Lay (w.alloc o) wa ev g (w.alloc o).heap.size) :
    wa.heap[b]? = some (.cells #[tv, ev] 34) ∧
    Book2 b tv (.slice (some ⟨g, 0, none⟩) (ys.length + 4) cap) xs (ys ++ zs) (wa.setCell ⟨b, 1, none⟩ (.slice (some ⟨g, 0, none⟩) (ys.length + 4) cap)) ∧
    Far w (wa.setCell ⟨b, 1, none⟩ (.slice (some ⟨g, 0, none⟩) (ys.length + 4) cap)) [some b, ev.ownBlock] := by
  obtain ⟨hsz, hg, hfar⟩ := hlay.facts
  have hblt := h.lt
  have hbt : tv.ownBlock ≠ some b := fun e => by have := (h.tags.lt b e).1; omega
  have hbe : ev.ownBlock ≠ some b := fun e => by have := (h.evts.lt b e).1; omega
  have hgb := (hnew.lt g rfl).1
  have hblk : wa.heap[b]? = some (.cells #[tv, ev] 34) := (hfar.block b hblt (by simp; exact hbe)).trans h.blk
  have same : ∀ q, q < w.heap.size → q ≠ b → ev.ownBlock ≠ some q → (wa.setCell ⟨b, 1, none⟩ (.slice (some ⟨g, 0, none⟩) (ys.length + 4) cap)).heap[q]? = w.heap[q]? := fun q hq hne ht =>
    (set_other hne).trans (hfar.block q hq (by simp; exact ht))
  have hgne : ∀ q, q < w.heap.size → ev.ownBlock ≠ some q → g ≠ q := fun q hq ht e => by
    subst e
    rcases hg with hg | hg
    · exact ht hg
    · omega
  have ent : ∀ (most : Nat) (mc : List Value) (v : Value), EntG w b tv ev most mc v → EntG (wa.setCell ⟨b, 1, none⟩ (.slice (some ⟨g, 0, none⟩) (ys.length + 4) cap)) b tv (.slice (some ⟨g, 0, none⟩) (ys.length + 4) cap) most mc v := by
    intro most mc v he
    rcases he with he | ⟨g1, no, c1, ho, h2, h3⟩
    · exact .inl he
    · refine .inr ⟨g1, no, c1, ho.keep (by rw [size_set]; exact hsz) (same g1 ho.lt (by have := ho.base; omega) h3), h2, ?_⟩
      simp only [Value.ownBlock, ne_eq, Option.some.injEq]
      exact hgne g1 ho.lt h3
  refine ⟨hblk, ⟨book_set hblk, ?_, ?_, ?_, ?_, ?_⟩, ?_⟩
  · exact own_of_block h.tags fun q hq => same q (h.tags.lt _ hq).2 (fun e => hbt (e ▸ hq)) (fun e => h.te q hq e)
  · have hl2 : (ys ++ zs).length = ys.length + 4 := by rw [List.length_append, hz4]
    rw [hl2]; exact ownsRow_setCell_below hnew (Nat.lt_succ_self _) _
  · intro q hq he
    simp only [Value.ownBlock, Option.some.injEq] at he
    exact hgne q (h.tags.lt _ hq).2 (fun e => h.te q hq e) he
  · intro i v hv
    exact ent _ _ _ (h.full i v hv)
  · intro i v hv
    by_cases hi : i < ys.length
    · rw [List.getElem?_append_left hi] at hv
      exact ent _ _ _ (h.fullE i v hv)
    · rw [List.getElem?_append_right (by omega)] at hv
      have hi2 := (List.getElem?_eq_some_iff.1 hv).1
      have hm : i / 4 = r := by omega
      rw [hm]
      exact ent _ _ _ (hzs v (List.mem_of_getElem? hv))
  · exact hfar.set_out b 1 _
end Go.Proofs.YtodlcnbknjldnaaGreatDoor
namespace Go.Proofs.YtodlcnbknjldnaaGreatDoor
open Go.RowKit Chron
/- where a keeping stands between its appends -/
structure KT (b : Nat) (tv ev : Value) (xs ys : List Value) (w wx : World) (l : Value) (T sz n : Nat) (mc outs : List Value) (k : Nat) : Prop where
  mks : MarksG wx (b + 1) T sz l n mc outs k
  bk : Book2 b tv ev xs ys wx
  far : Far w wx [l.ownBlock]
  new : ∀ o ∈ outs, ∀ q, o.ownBlock = some q → l.ownBlock = some q ∨ w.heap.size ≤ q
  clr : ∀ q, l.ownBlock = some q → Clear b tv ev xs ys q
  low : (∀ q, tv.ownBlock = some q → q < w.heap.size) ∧ ∀ q, ev.ownBlock = some q → q < w.heap.size
theorem KT.push {b : Nat} {tv ev : Value} {xs ys : List Value} {w wx wa : World} {l : Value} {T sz n g cap k j : Nat} {mc outs : List Value} {o : Obj} (h : KT b tv ev xs ys w wx l T sz n mc outs k) (hj : k ≤ j)
    (hnew : wa.ownsRow (b + 1) T sz (.slice (some ⟨g, 0, none⟩) (n + j) cap) (n + j) (reps n mc ++ reps j mc)) (hold : wa.ownsRow (b + 1) T sz l n (reps n mc))
    (hlay : Lay (wx.alloc o) wa l g (wx.alloc o).heap.size) : KT b tv ev xs ys w wa l T sz n mc (outs ++ [.slice (some ⟨g, 0, none⟩) (n + j) cap]) j := by
  obtain ⟨hsz, hg, hfar⟩ := hlay.facts
  have hs := h.far.size
  refine ⟨h.mks.push hj hnew hold hlay, h.bk.far hfar (fun q hq _ => h.clr q (by simpa using (List.mem_singleton.1 hq).symm)), h.far.trans hfar, fun v hv q hq => ?_, h.clr, h.low⟩
  rcases List.mem_append.1 hv with hv | hv
  · exact h.new v hv q hq
  · simp only [List.mem_singleton] at hv
    subst hv
    simp only [Value.ownBlock, Option.some.injEq] at hq
    subst hq
    rcases hg with hg | hg
    · exact .inl hg
    · exact .inr (by omega)
theorem KT.entries {b : Nat} {tv ev : Value} {xs ys : List Value} {w wx : World} {l : Value} {T sz n most k : Nat} {mc outs : List Value} (h : KT b tv ev xs ys w wx l T sz n mc outs k) (h7 : n + k ≤ most) :
    ∀ v ∈ l :: outs, EntG wx b tv ev most mc v := by
  intro v hv
  rcases List.mem_cons.1 hv with rfl | hv
  · rcases h.mks.own.2 with ⟨h1, _⟩ | ⟨g, cap, cur, rfl, a2, a3, a4, a5, a6, a7⟩
    · exact .inl h1
    · have hc := h.clr g rfl
      exact .inr ⟨g, n, cap, ⟨rfl, by omega, a4, a2, (Array.getElem?_eq_some_iff.1 a3).1, (own_cellsG h.mks.own).2⟩, hc.2.1, hc.2.2.1⟩
  · obtain ⟨g, no, cap, ho⟩ := h.mks.outs v hv
    have hne : tv.ownBlock ≠ some g ∧ ev.ownBlock ≠ some g := by
      rcases h.new v hv g ho.blk with h1 | h1
      · have hc := h.clr g h1
        exact ⟨hc.2.1, hc.2.2.1⟩
      · exact ⟨fun e => by have := h.low.1 g e; omega, fun e => by have := h.low.2 g e; omega⟩
    exact .inr ⟨g, no, cap, ⟨ho.val, Nat.le_trans ho.few h7, ho.room, ho.base, ho.lt, ho.cells⟩, hne.1, hne.2⟩
theorem KT.apart {b : Nat} {tv ev : Value} {xs ys : List Value} {w wx : World} {l : Value} {T sz n k : Nat} {mc outs : List Value} (h : KT b tv ev xs ys w wx l T sz n mc outs k) {q : Nat} (hq : q < w.heap.size) (hl : l.ownBlock ≠ some q) : ∀ v ∈ l :: outs, v.ownBlock ≠ some q := by
  intro v hv e
  rcases List.mem_cons.1 hv with rfl | hv
  · exact hl e
  · rcases h.new v hv q e with h1 | h1
    · exact hl h1
    · omega
theorem far_cons {a b c : World} {x y z : Option Nat} (h : Far a b [z]) (k : Far b c [x, y]) : Far a c [x, y, z] :=
  (h.wide (by simp)).trans (k.wide (by simp))
theorem reps_str (n : Nat) (m : ByteArray) : reps n [.string m] = List.replicate n (.string m) := reps_one _ _
set_option maxRecDepth 100000 in
set_option maxHeartbeats 2000000 in
theorem keepTags2_any (b r : Nat) (tv ev : Value) (xs ys : List Value) (l : Value) (ts : List ByteArray) (w : World) (HB : Hid (Book2 b tv ev xs ys w)) (HO : Hid (w.ownsRow (b + 1) 9 1 l ts.length (ts.map Value.string)))
    (HC : Hid (∀ q, l.ownBlock = some q → Clear b tv ev xs ys q)) (h4 : ts.length ≤ 4) (HX : Hid (xs.length = 4 * r ∧ r ≤ 3000000)) :
    Calls Tryz.prog 19 #[.pointer (some ⟨b, 0, none⟩), l] w fun e w' => e = .returned (.tuple #[]) ∧ ∃ tv' xs', Hid (Book2 b tv' ev xs' ys w') ∧ Hid (xs'.length = 4 * (r + 1)) ∧ Hid (Far w w' [some b, tv.ownBlock, l.ownBlock]) ∧ Hid (∀ q, q < w.heap.size → Clear b tv ev xs ys q → l.ownBlock ≠ some q → Clear b tv' ev xs' ys q) := by
  obtain ⟨i0, hi, hz0, hz1, hz2⟩ := info_parts infoText
  obtain ⟨i1, hi1, hy0, hy1, hy2⟩ := info_parts infoTexts
  obtain ⟨ta, tc, htv, htc, _, hT⟩ := row_at HB.out.tags
  subst htv
  obtain ⟨la, lc, rfl, hla⟩ := own_tags HO.out
  obtain ⟨d0, d1, df⟩ := book_cells HB.out.blk
  have hxs : xs.length ≤ 12000000 := by have := HX.out; omega
  have HLOW : Hid ((∀ q, (Value.slice ta xs.length tc).ownBlock = some q → q < w.heap.size) ∧ ∀ q, ev.ownBlock = some q → q < w.heap.size) := ⟨fun q hq => (HB.out.tags.lt q hq).2, fun q hq => (HB.out.evts.lt q hq).2⟩
  clear hT hla
  go_enter Tryz.func19, Tryz.ntmps19
  go_wp2_with fail
  refine (badTag_any _ _ (by omega) (by show Int.toNat _ < _; have := HX.out; omega)).mono ?_
  rintro e w1 ⟨rfl, hb1⟩
  obtain ⟨m, hm, HM⟩ : ∃ m, badB ((xs.length : Int) / 4).toNat = m ∧ Hid (m = badB r) := ⟨_, rfl, by show badB _ = badB r; congr 1; have := HX.out; omega⟩
  have HB1 := hide0 (HB.out.below hb1)
  have HO1 := hide0 (own_below HO.out hb1)
  have HF1 : Hid (Far w w1 [(Value.slice la ts.length lc).ownBlock]) := Far.of_below hb1 (Nat.le_refl _)
  clear hb1 HB HO d0 d1 df
  go_wp2
  go_loopw [5] (fun i wx => ∃ k : Nat, k ≤ ts.length ∧ i = .int .i64 k ∧ Hid (wx.ownsRow (b + 1) 9 1 (.slice la ts.length lc) ts.length (mixed ts m k)) ∧ Hid (Far w1 wx [(Value.slice la ts.length lc).ownBlock])) (fun i _ => ts.length - (intOf i).toNat)
  case atStart => exact ⟨0, Nat.zero_le _, rfl, by rw [mixed_zero]; exact HO1, Far.refl _ _⟩
  case round =>
    obtain ⟨k, hk, rfl, HOk, HBk⟩ := hrel
    by_cases hlt : k < ts.length
    · obtain ⟨g, rfl, hgB, x, hcell, hfr⟩ : ∃ g, la = some ⟨g, 0, none⟩ ∧ b + 1 ≤ g ∧ ∃ x, wr.cell? ⟨g, k, none⟩ = some x ∧ wr.frozen? ⟨g, k, none⟩ = false := by
        obtain ⟨h1, ⟨h2, h3⟩ | ⟨g, cap, cur, he, a2, a3, a4, a5, a6, a7⟩⟩ := HOk.out
        · omega
        · cases he
          exact ⟨g, rfl, a2, cur[k]'(by omega), by simp [World.cell?, a3], by simp [World.frozen?, a3]⟩
      have HS := hide0 (own_set (i := k) (u := .string m) HOk.out)
      rw [mixed_set ts m k hlt] at HS
      have HSB := hide0 (HBk.out.setCell (p := ⟨g, k, none⟩) (.inl (by simp [Value.ownBlock])) (.string m))
      clear hgB
      go_wp2
      go_roundw
      case rel => exact ⟨k + 1, by omega, by go_num, HS, HSB⟩
      case measure => simp [intOf]; omega
    · have hkn : k = ts.length := by omega
      have HOn := hide0 HOk.out
      rw [mixed_end ts m k hkn, ← reps_str] at HOn
      have HK0 : Hid (KT b (.slice ta xs.length tc) ev xs ys w wr (.slice la ts.length lc) 9 1 ts.length [.string m] [] 0) := ⟨⟨HOn.out, fun o ho => by cases ho⟩, HB1.out.far HBk.out (fun q hq _ => HC.out q (by simpa using (List.mem_singleton.1 hq).symm)), HF1.out.trans HBk.out, (fun o ho => by cases ho), HC.out, HLOW.out⟩
      clear HOn HOk HBk HB1 HO1 HF1 hm hkn
      have hmx : ∀ j, j ≤ 3 → ts.length + j ≤ maxLen := fun j hj => by unfold maxLen; omega
      have hby : ∀ j, j ≤ 3 → (ts.length + j) * 16 ≤ 140737488355328 := fun j hj => by omega
      have hxm : xs.length + 4 ≤ maxLen := by unfold maxLen; omega
      have hxb : (xs.length + 4) * 24 ≤ 140737488355328 := by omega
      go_wp2_with (first
        | (have hz := HK3; clear hz; at_builtin; go_must (refine wpList_append_keptG _ rfl _ _ 31 rfl (b + 1) 22 i1 (.slice none 0 0) 1 24 Tryz.underlying31 hi1 hy0 hy1 hy2 rfl Nat.one_pos (.slice ta xs.length tc) xs.length xs rfl (HK3.out.bk.tags.alloc _) ⟨_, 0, none⟩ 4 4 [.slice la ts.length lc, .slice (some ⟨g1, 0, none⟩) (ts.length + 1) cg1, .slice (some ⟨g2, 0, none⟩) (ts.length + 2) cg2, .slice (some ⟨g3, 0, none⟩) (ts.length + 3) cg3] rfl rfl news_of slices_one (by omega) hxm hxb (le_alloc2 HK3.out.bk.lt) ?_)
           intro g4 cg4 w4 hn4 ho4 hl4
           obtain ⟨hblk, HBK, hfar4, hclr4⟩ := HK3.out.bk.pushT HX.out.1 rfl (by rw [← HM.out]; exact HK3.out.entries (by omega)) hn4 hl4
           have HFar := hide0 (far_cons HK3.out.far hfar4)
           have HClr : Hid (∀ q, q < w.heap.size → Clear b (.slice ta xs.length tc) ev xs ys q → (Value.slice la ts.length lc).ownBlock ≠ some q → _) := fun q hq hc hl => hclr4 q (Nat.lt_of_lt_of_le hq HK3.out.far.size) hc (HK3.out.apart hq hl)
           have HBook := hide0 HBK
           obtain ⟨e0, e1, ef⟩ := book_cells hblk
           clear hn4 ho4 hl4 HBK hfar4 hclr4 hblk HK3 d0 d1 df)
        | (have hz := HK2; clear hz; at_builtin; go_must (refine wpList_append_keptG _ rfl _ _ 22 rfl (b + 1) 9 i0 (.string ⟨#[]⟩) 1 16 Tryz.underlying22 hi hz0 hz1 hz2 rfl Nat.one_pos (.slice la ts.length lc) ts.length (reps ts.length [.string m]) rfl (HK2.out.mks.own.alloc _) ⟨_, 0, none⟩ 3 3 (reps 3 [.string m]) rfl rfl news_of (all_one 3 m) (by omega) (hmx 3 (by omega)) (hby 3 (by omega)) (le_alloc2 HK2.out.bk.lt) ?_)
           intro g3 cg3 wg3 hng3 hog3 hlg3
           have HK3 := hide0 (HK2.out.push (j := 3) (by omega) hng3 hog3 hlg3)
           obtain ⟨d0, d1, df⟩ := book_cells HK3.out.bk.blk
           clear hng3 hog3 hlg3 HK2)
        | (have hz := HK1; clear hz; at_builtin; go_must (refine wpList_append_keptG _ rfl _ _ 22 rfl (b + 1) 9 i0 (.string ⟨#[]⟩) 1 16 Tryz.underlying22 hi hz0 hz1 hz2 rfl Nat.one_pos (.slice la ts.length lc) ts.length (reps ts.length [.string m]) rfl (HK1.out.mks.own.alloc _) ⟨_, 0, none⟩ 2 2 (reps 2 [.string m]) rfl rfl news_of (all_one 2 m) (by omega) (hmx 2 (by omega)) (hby 2 (by omega)) (le_alloc2 HK1.out.bk.lt) ?_)
           intro g2 cg2 wg2 hng2 hog2 hlg2
           have HK2 := hide0 (HK1.out.push (j := 2) (by omega) hng2 hog2 hlg2)
           clear hng2 hog2 hlg2 HK1)
        | (have hz := HK0; clear hz; at_builtin; go_must (refine wpList_append_keptG _ rfl _ _ 22 rfl (b + 1) 9 i0 (.string ⟨#[]⟩) 1 16 Tryz.underlying22 hi hz0 hz1 hz2 rfl Nat.one_pos (.slice la ts.length lc) ts.length (reps ts.length [.string m]) rfl (HK0.out.mks.own.alloc _) ⟨_, 0, none⟩ 1 1 (reps 1 [.string m]) rfl rfl news_of (all_one 1 m) (by omega) (hmx 1 (by omega)) (hby 1 (by omega)) (le_alloc2 HK0.out.bk.lt) ?_)
           intro g1 cg1 wg1 hng1 hog1 hlg1
           have HK1 := hide0 (HK0.out.push (j := 1) (by omega) hng1 hog1 hlg1)
           clear hng1 hog1 hlg1 HK0))
      go_end0
      exact ⟨rfl, _, _, HBook, (by have := HX.out; show _ = _; simp; omega), HFar, HClr⟩
end Go.Proofs.YtodlcnbknjldnaaGreatDoor
