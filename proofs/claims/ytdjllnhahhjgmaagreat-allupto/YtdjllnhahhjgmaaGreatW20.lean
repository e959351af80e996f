/- Walks and plain facts, in the order in which they lean on one another. -/
import Derived.Test.YtdjllnhahhjgmaaGreatW19
import Derived.Test.YtdjllnhahhjgmaaGreatW18
import Derived.Test.YtdjllnhahhjgmaaGreatW01
import Derived.ProofKit
import Derived.SizedLaws
import Derived.SliceStrings
import Derived.OpenShut
import Derived.Test.YtdjllnhahhjgmaaGreatW05
import Derived.Deep.Slices
import Derived.Stop.LaidErr
import Derived.MakeChecks
import Derived.Lib.LaidTab
namespace Go.Proofs.YtdjllnhahhjgmaaGreat
open Go.RowKit Go.Shelf Chron
set_option maxRecDepth 100000 in
set_option maxHeartbeats 1000000 in
theorem migr_pair (w0 w : World) (b B : Nat) (r : Pr) (C0 D : List Chunk) (HM : Hid (PairM w0 w B r)) (HL : Hid (PairL true r C0 D)) (HA : Hid (Args b w0 w)) :
    Calls Tryz.prog 17 #[.pointer (some ⟨r.P, 0, none⟩)] w fun e w' => e = .returned (.bool true) ∧ ∃ r' C0' D', r'.P = r.P ∧ Hid (PairM w0 w' B r') ∧ Hid (PairL true r' C0' D') ∧ Hid (Moved w w' r.foot r'.foot) := by
  obtain ⟨c0, c1, c2, c3, c4, cz⟩ := five_cells HM.out.blk
  have hMg := migrate_any B r.p r.fv r.ev r.fl r.js w (hide0 HM.out.arc)
  obtain ⟨la, lc, hlv, hlcap, _⟩ := HM.out.evsAt2 HA.out
  rw [hlv] at c1
  have hPp : r.P ≠ r.p := fun e => HM.out.nP.1 (.inl e)
  have hPl := (HM.out.lt r.P (.inl rfl)).2
  have hl200 : r.its.length ≤ 200 := by
    have h3 := congrArg List.length HL.out.same
    have h4 := HM.out.arc.few
    simp [evs] at h3; omega
  go_enter Tryz.func17, Tryz.ntmps17
  go_wp2_with fail
  refine hMg.mono ?_
  rintro e w1 ⟨rfl, fv', hA1, hM1⟩
  have hF := file_any r.p fv' r.ev B (fileB noB (anewC (evs r.js))) w1 hA1.blk hA1.fil hA1.pf
  have hb1 := hM1.block r.P hPl hPp
  replace c0 := (World.cell?_of_block hb1).trans c0
  replace c1 := (World.cell?_of_block hb1).trans c1
  replace c2 := (World.cell?_of_block hb1).trans c2
  replace c3 := (World.cell?_of_block hb1).trans c3
  replace c4 := (World.cell?_of_block hb1).trans c4
  replace cz : ∀ o, w1.frozen? ⟨r.P, o, none⟩ = false := fun o => (World.frozen?_of_block hb1).trans (cz o)
  have hPl1 : r.P < w1.heap.size := World.block_lt_of_cell? w1 _ c0
  obtain ⟨z1, z2⟩ := migr_mem HM.out hA1 hM1
  obtain ⟨F, hFe⟩ : ∃ F, fileB noB (anewC (evs r.js)) = F := ⟨_, rfl⟩
  obtain ⟨fk, hfk⟩ : ∃ fk : ByteArray, (⟨F.toArray⟩ : ByteArray) = fk := ⟨_, rfl⟩
  obtain ⟨fl, hfl⟩ : ∃ fl, F.length = fl := ⟨_, rfl⟩
  have hfz : fk.size = fl := by rw [← hfk, ← hfl]; rfl
  have hflm : fl ≤ mostB noB (evs r.its) := by
    rw [← hfl, ← hFe, HL.out.same]
    exact anew_most _ _ (fun e he => by
      obtain ⟨it, hi, rfl⟩ := List.mem_map.1 he
      exact HM.out.arc.good it hi) (by decide)
  rw [hFe] at hF z1 z2
  rw [hfk] at hF z1 z2
  rw [hfl] at z1 z2
  have HZ := hide0 (And.intro z1 (And.intro z2 (And.intro hFe (And.intro hfl hfk))))
  clear z1 z2 hFe hfl hfk hA1 hM1 hMg hb1
  go_wp2_with fail
  refine hF.mono ?_
  rintro e w2 ⟨rfl, rfl⟩
  clear hF
  go_wp2_with fail
  obtain ⟨W, hW⟩ : ∃ W, W = migrW w2 r.P (r.its.length : Int) (fl : Int) fk := ⟨_, rfl⟩
  rw [← hW] at HZ
  simp only [migrW] at hW
  rw [← hW]
  have hMv := HZ.out.2.1
  have hPW := HZ.out.1
  have hAW : Args b w0 W := HA.out.step hMv.os hMv.tape hMv.output hMv.size (fun q hq _ => hMv.block q (by have := HA.out.size; omega) (fun hf => by have := (HM.out.lt q hf).1; have := HM.out.w0B; omega))
  obtain ⟨la2, lc2, hlv2, hlcap2, hE⟩ := hPW.evsAt2 hAW
  have hlv3 : r.lv = .slice la2 r.its.length lc2 := hlv2
  rw [hlv] at hlv3
  cases hlv3
  have HE := hide0 (show EvsAt W la r.its from hE)
  obtain ⟨d0, d1, d2, d3, d4, dz⟩ := five_cells hPW.blk
  replace d1 : W.cell? ⟨r.P, 1, none⟩ = some (.slice la r.its.length lc) := by rw [← hlv]; exact d1
  have HD1 := hide0 d1
  have HG : Hid (∀ it ∈ r.its, isB it.ev = true) := fun it hi => by
    have h9 : it.ev ∈ evs r.its := List.mem_map_of_mem hi
    rw [HL.out.same] at h9
    obtain ⟨it2, h8, e8⟩ := List.mem_map.1 h9
    rw [← e8]
    exact HM.out.arc.good it2 h8
  have HD4 := hide0 (show W.cell? ⟨r.P, 4, none⟩ = some (.string fk) by
    rw [← HZ.out.2.2.2.2]
    exact d4)
  clear hW hMv hPW hAW hE c0 c1 c2 c3 c4 cz d0 d2 d3 d4 dz d1 hlv2 hlcap2
  have hm40 : mostB noB [] = 0 := rfl
  go_loopw [3, 4, 5] (fun vm vb vi wr => ∃ i : Nat, i ≤ r.its.length ∧ vi = .int .i64 (i : Int) ∧ vm = .int .i64 ((40 + mostB noB ((evs r.its).take i) : Nat) : Int) ∧ vb = .string (lastB noB ((evs r.its).take i)) ∧ Hid (Below W.heap.size W wr)) (fun _ _ vi _ => r.its.length - (intOf vi).toNat)
  case atStart => exact ⟨0, Nat.zero_le _, rfl, by simp [mostB], rfl, Below.refl _ _⟩
  case round =>
    obtain ⟨i, hil, rfl, rfl, rfl, HB⟩ := hrel
    have HD := hide0 ((HB.out.cell (p := ⟨r.P, 1, none⟩) (World.block_lt_of_cell? W _ HD1.out)).trans HD1.out)
    by_cases hlt : i < r.its.length
    · obtain ⟨g, off, hla, hc⟩ := HE.out.below HB.out (Nat.le_refl _) (by omega)
      obtain ⟨hcell, hitem⟩ := hc i r.its[i] (List.getElem?_eq_getElem hlt)
      have hgood := HG.out r.its[i] (List.getElem_mem hlt)
      have HX : Hid ((evs r.its)[i]? = some r.its[i].ev) := by simp [evs, hlt, Hid]
      generalize r.its[i] = it at hcell hitem hgood HX
      obtain ⟨⟨k, t, m, bd, ts⟩, ia, ic⟩ := it
      obtain ⟨e0, e1, e2, e3, e4⟩ := hcell
      have hK := is_known hgood
      have hsn := mostB_snoc ((evs r.its).take i) noB ⟨k, t, m, bd, ts⟩
      have htk : (evs r.its).take i ++ [⟨k, t, m, bd, ts⟩] = (evs r.its).take (i + 1) := by rw [List.take_add_one, HX.out]; rfl
      rw [htk] at hsn
      have hlast : lastB noB ((evs r.its).take (i + 1)) = bd := by rw [← htk, lastB_append]; rfl
      have hold : (lastB noB ((evs r.its).take i)).size ≤ 60 := lastB_size (by decide) _ (fun e he => by
        obtain ⟨it2, h8, e8⟩ := List.mem_map.1 (List.mem_of_mem_take he)
        rw [← e8]; exact HG.out it2 h8)
      have HSN := hide0 (And.intro hsn hlast)
      obtain ⟨M, hM⟩ : ∃ M, 40 + mostB noB ((evs r.its).take i) = M := ⟨_, rfl⟩
      obtain ⟨old, hold2⟩ : ∃ old, lastB noB ((evs r.its).take i) = old := ⟨_, rfl⟩
      rw [hM, hold2]
      rw [hold2] at hold
      have HMO := hide0 (And.intro hM hold2)
      clear hsn hlast htk hM hold2 hc
      have hd := HD.out
      rw [hla] at hd
      clear hla
      have hiI : (i : Int) < (r.its.length : Int) := by omega
      have hmk := makeRef_any old bd (wr.alloc (.cells #[.int .i64 k, .string t, .int .i64 m, .string bd, .slice ia ts.length ic] 38)) (by unfold maxLen; omega) (by have := hK.body; unfold maxLen; simp only at this; omega)
      have hTg := TagsAt.alloc hitem.tags (.cells #[.int .i64 k, .string t, .int .i64 m, .string bd, .slice ia ts.length ic] 38)
      clear hgood
      go_wp2_with fail
      refine hmk.mono ?_
      rintro e w5 ⟨rfl, hb5⟩
      have hbx : Below wr.heap.size wr w5 := ((Below.refl _ wr).alloc (Nat.le_refl _) _).trans (hb5.mono (by simp))
      have HBX := hide0 (HB.out.trans (hbx.mono HB.out.size))
      have hE5 := (hb5.block wr.heap.size (by simp)).trans (heap_alloc_new wr (.cells #[.int .i64 k, .string t, .int .i64 m, .string bd, .slice ia ts.length ic] 38))
      obtain ⟨p0, p1, p2, p3, p4, _⟩ := res_cells hE5
      have HT5 := hide0 (TagsAt.below hTg hb5 (Nat.le_refl _))
      have hcl : (⟨(makeB old.data.toList bd.data.toList).1.toArray⟩ : ByteArray).size = (chgB old bd).length := rfl
      have hc62 : (chgB old bd).length ≤ 62 := chg_len hold hK.body
      obtain ⟨cg, hcg⟩ : ∃ cg : ByteArray, (⟨(makeB old.data.toList bd.data.toList).1.toArray⟩ : ByteArray) = cg := ⟨_, rfl⟩
      obtain ⟨ce, hce⟩ : ∃ ce : Int, (makeB old.data.toList bd.data.toList).2 = ce := ⟨_, rfl⟩
      obtain ⟨cl, hcl2⟩ : ∃ cl : Nat, (chgB old bd).length = cl := ⟨_, rfl⟩
      simp only [seVal, hcg, hce]
      rw [hcg, hcl2] at hcl
      rw [hcl2] at hc62
      have HCL := hide0 hcl2
      have hMb : M ≤ 100000 := by
        rw [← HMO.out.1]
        have h9 := mostB_le ((evs r.its).take i) noB (fun e he => by
          obtain ⟨it2, h8, e8⟩ := List.mem_map.1 (List.mem_of_mem_take he)
          rw [← e8]; exact HG.out it2 h8) (by decide)
        rw [List.length_take] at h9
        omega
      have ht60 : t.size ≤ 60 := hK.task
      have hfew : ts.length ≤ 4 := hK.few
      have HTS := hide0 (show ∀ j, ((ts.take j).map ByteArray.size).sum ≤ 240 from fun j => by
        have h9 := sum_lines (ts.take j) (fun x hx => hK.lines x (List.mem_of_mem_take hx))
        rw [List.length_take] at h9
        omega)
      clear hmk hb5 hbx hE5 hTg hcg hce hcl2 hitem e0 e1 e2 e3 e4 hd p0 p2 hK
      go_wp2_with fail
      go_loopw [3, 9] (fun vm vk wq => wq = w5 ∧ ∃ j : Nat, j ≤ ts.length ∧ vk = .int .i64 (j : Int) ∧ vm = .int .i64 ((M + 40 + t.size + cl + ((ts.take j).map ByteArray.size).sum : Nat) : Int)) (fun _ vk _ => ts.length - (intOf vk).toNat)
      case atStart => exact ⟨rfl, 0, Nat.zero_le _, rfl, by simp⟩
      case round =>
        obtain ⟨rfl, j, hj, rfl, rfl⟩ := hrel
        by_cases hjl : j < ts.length
        · obtain ⟨tb, toff, hia, hx⟩ := HT5.out (by omega)
          have hxj := hx j hjl
          obtain ⟨s, hs⟩ : ∃ s, ts[j]?.getD ByteArray.empty = s := ⟨_, rfl⟩
          rw [hs] at hxj
          have hsum : ((ts.take (j + 1)).map ByteArray.size).sum = ((ts.take j).map ByteArray.size).sum + s.size := by
            have h9 : ts.take (j + 1) = ts.take j ++ [s] := by rw [List.take_add_one, ← hs, List.getElem?_eq_getElem hjl]; rfl
            rw [h9, List.map_append, List.sum_append]
            simp only [List.map_cons, List.map_nil, List.sum_cons, List.sum_nil, Nat.add_zero]
          have hb1 := HTS.out (j + 1)
          rw [hsum] at hb1
          obtain ⟨T, hT⟩ : ∃ T, M + 40 + t.size + cl + ((ts.take j).map ByteArray.size).sum = T := ⟨_, rfl⟩
          have hT2 : M + 40 + t.size + cl + ((ts.take (j + 1)).map ByteArray.size).sum = T + s.size := by rw [hsum]; omega
          have hTb : T + s.size ≤ 200000 := by omega
          have HT2 := hide0 hT2
          rw [hT]
          have p4' := p4
          rw [hia] at p4'
          have hjI : (j : Int) < (ts.length : Int) := by omega
          clear hsum hb1 hT hT2 hs hx p4 hia
          go_wp2
          go_roundw
          case rel => exact ⟨trivial, j + 1, by omega, by go_num, by rw [HT2.out]; go_num⟩
          case measure => simp [intOf]; omega
        · have hje : j = ts.length := by omega
          subst hje
          have HQ : Hid (M + 40 + t.size + cl + ((ts.take ts.length).map ByteArray.size).sum = 40 + mostB noB ((evs r.its).take (i + 1))) := by
            have h1 := HSN.out.1
            have h2 := HMO.out
            rw [h2.2, HCL.out] at h1
            simp only [tagSum] at h1
            rw [List.take_of_length_le (Nat.le_refl _)]
            show _ = _
            omega
          rw [HQ.out]
          go_wp2
          go_roundw
          case rel => exact ⟨i + 1, by omega, by go_num, rfl, by rw [HSN.out.2], HBX⟩
          case measure => simp [intOf]; omega
    · have hie : i = r.its.length := by omega
      subst hie
      have hle : fl ≤ 40 + mostB noB ((evs r.its).take r.its.length) := by
        rw [List.take_of_length_le (by simp [evs])]; omega
      obtain ⟨M, hM⟩ : ∃ M, 40 + mostB noB ((evs r.its).take r.its.length) = M := ⟨_, rfl⟩
      rw [hM] at hle ⊢
      have hleI : (fl : Int) ≤ (M : Int) := by omega
      have hd := HD.out
      have hd4 := (HB.out.cell (p := ⟨r.P, 4, none⟩) (World.block_lt_of_cell? W _ HD4.out)).trans HD4.out
      clear hM
      go_wp2
      go_ret
      have hlg := migr_log (fv := fv') (cv := .slice (some ⟨w2.heap.size, 0, none⟩) 1 1) (sv := .slice (some ⟨w2.heap.size + 1, 0, none⟩) 1 1) HL.out HM.out.arc.good HM.out.arc.few
      rw [HZ.out.2.2.1] at hlg
      refine ⟨by simp, _, _, [], ?_, hide0 (HZ.out.1.below HB.out), hide0 hlg, hide0 (HZ.out.2.1.trans (Moved.of_below HB.out))⟩
      rfl
theorem migr_world (most : Int) (w0 : World) (b : Nat) (w : World) (pv tv ev : Value) (xs ys : List Value) (ps : List PS) (i : Nat) (p : PS) (HW : WorldOk true most w0 b w pv tv ev xs ys ps) (hp : ps[i]? = some p) :
    Calls Tryz.prog 17 #[.pointer (some ⟨p.r.P, 0, none⟩)] w fun e w' => e = .returned (.bool true) ∧ ∃ p', p'.r.P = p.r.P ∧ Hid (WorldOk true most w0 b w' pv tv ev xs ys (ps.set i p')) := by
  obtain ⟨hM, hL⟩ := HW.mem i p hp
  refine (migr_pair w0 w b w0.heap.size p.r p.C0 p.D (hide0 hM) (hide0 hL) (hide0 HW.args)).mono ?_
  rintro e w' ⟨rfl, r', C0', D', hP, h1, h2, h3⟩
  exact ⟨rfl, ⟨r', C0', D'⟩, hP, hide0 (HW.turn (p' := ⟨r', C0', D'⟩) hp h3.out h1.out h2.out hP)⟩
end Go.Proofs.YtdjllnhahhjgmaaGreat
namespace Go.Proofs.YtdjllnhahhjgmaaGreat
open Go.RowKit Go.Shelf Chron
def Stood8 (w0 : World) (b : Nat) (n : Nat) (W : World) : Prop := ∃ pv tv ev xs ys ps r r2, WorldOk true 8 w0 b W pv tv ev xs ys ps ∧ xs.length = 4 * r ∧ ys.length = 4 * r2 ∧ r + 200 * ps.length ≤ 400 * n ∧ r2 + ps.length ≤ 2 * n ∧ (0 < n → 0 < ps.length)
theorem Stood8.below {w0 W W' : World} {b n : Nat} (h : Stood8 w0 b n W) (hb : Below W.heap.size W W') : Stood8 w0 b n W' := by
  obtain ⟨pv, tv, ev, xs, ys, ps, r, r2, h1, h2⟩ := h
  exact ⟨pv, tv, ev, xs, ys, ps, r, r2, h1.below hb, h2⟩
theorem Stood8.next {w0 W : World} {b n : Nat} (h : Stood8 w0 b n W) (h0 : 0 < n) : Stood8 w0 b (n + 1) W := by
  obtain ⟨pv, tv, ev, xs, ys, ps, r, r2, h1, h2, h3, h4, h5, h6⟩ := h
  exact ⟨pv, tv, ev, xs, ys, ps, r, r2, h1, h2, h3, by omega, by omega, fun _ => h6 h0⟩
set_option maxRecDepth 100000 in
set_option maxHeartbeats 1000000 in
theorem step8_any (w0 : World) (b : Nat) (w : World) (n : Nat) (kind ar nn : Int) (a : Option Addr) (cap : Nat) (ls : List Item) (HS : Hid (Stood8 w0 b n w)) (hn : n ≤ 1100000) (hk : kind = 1 ∨ 0 < n) (har : -9223372036854775808 ≤ ar ∧ ar < 9223372036854775808) (hnn : -9223372036854775808 ≤ nn ∧ nn < 9223372036854775808)
    (hE : Hid (EvsAt w0 a ls)) (hl : ls.length ≤ 1048576) :
    Calls Tryz.prog 6 #[.pointer (some ⟨b, 0, none⟩), .agg #[.int .i64 kind, .int .i64 ar, .int .i64 nn, .slice a ls.length cap]] w fun e w' => e = .returned (.bool true) ∧ Hid (Stood8 w0 b (n + 1) w') := by
  go_enter Tryz.func6, Tryz.ntmps6
  go_wp2_with fail
  have hb1 : Below w.heap.size w (w.alloc (.cells #[.int .i64 kind, .int .i64 ar, .int .i64 nn, .slice a ls.length cap] 35)) := (Below.refl _ w).alloc (Nat.le_refl _) _
  have HO := hide0 (heap_alloc_new w (.cells #[.int .i64 kind, .int .i64 ar, .int .i64 nn, .slice a ls.length cap] 35))
  have hqs : w.heap.size < (w.alloc (.cells #[.int .i64 kind, .int .i64 ar, .int .i64 nn, .slice a ls.length cap] 35)).heap.size := by simp
  generalize w.alloc (.cells #[.int .i64 kind, .int .i64 ar, .int .i64 nn, .slice a ls.length cap] 35) = w1 at hb1 HO hqs ⊢
  obtain ⟨pv, tv, ev, xs, ys, ps, r, r2, hW, hx, hy, hr, hr2, hps⟩ := HS.out.below hb1
  generalize w.heap.size = q at HO hqs ⊢
  have HW := hide0 hW
  have HR := hide0 (And.intro hx (And.intro hy (And.intro hr hr2)))
  have c3 : w1.cell? ⟨b, 3, none⟩ = some (.int .i64 8) := by have h9 := hW.book.blk; simp only [World.cell?, h9]; rfl
  have c0 : w1.cell? ⟨b, 0, none⟩ = some pv := by have h9 := hW.book.blk; simp only [World.cell?, h9]; rfl
  have o0 : w1.cell? ⟨q, 0, none⟩ = some (.int .i64 kind) := by have h9 := HO.out; simp only [World.cell?, h9]; rfl
  have o1 : w1.cell? ⟨q, 1, none⟩ = some (.int .i64 ar) := by have h9 := HO.out; simp only [World.cell?, h9]; rfl
  have o2 : w1.cell? ⟨q, 2, none⟩ = some (.int .i64 nn) := by have h9 := HO.out; simp only [World.cell?, h9]; rfl
  have o3 : w1.cell? ⟨q, 3, none⟩ = some (.slice a ls.length cap) := by have h9 := HO.out; simp only [World.cell?, h9]; rfl
  have hblt := hW.book.lt
  by_cases h1 : kind < 1
  · have HN := hide0 (show Stood8 w0 b (n + 1) w1 from Stood8.next ⟨pv, tv, ev, xs, ys, ps, r, r2, hW, hx, hy, hr, hr2, hps⟩ (by omega))
    clear hW hx hy hr hr2 hps HS hb1
    go_cut [20] (fun v wx => v = .bool true ∧ wx = w1.drew)
    case first =>
      go_region
      all_goals
        go_wp2_with fail
        go_meet
        case rel => exact ⟨rfl, rfl⟩
    case rest =>
      obtain ⟨rfl, rfl⟩ := hcut
      go_wp2
      go_ret
      exact ⟨rfl, hide0 (HN.out.below (Below.refl _ _).drew)⟩
  by_cases h6 : 8 < kind
  · have HN := hide0 (show Stood8 w0 b (n + 1) w1 from Stood8.next ⟨pv, tv, ev, xs, ys, ps, r, r2, hW, hx, hy, hr, hr2, hps⟩ (by omega))
    clear hW hx hy hr hr2 hps HS hb1
    go_cut [20] (fun v wx => v = .bool true ∧ wx = w1.drew)
    case first =>
      go_region
      all_goals
        go_wp2_with fail
        go_meet
        case rel => exact ⟨rfl, rfl⟩
    case rest =>
      obtain ⟨rfl, rfl⟩ := hcut
      go_wp2
      go_ret
      exact ⟨rfl, hide0 (HN.out.below (Below.refl _ _).drew)⟩
  by_cases hone : kind = 1
  · subst hone
    have hO := opened_any true 8 w0 b w1.drew pv tv ev xs ys ps (hide0 (hW.below (Below.refl _ _).drew)) (by omega)
    clear hW hx hy hr hr2 hps HS hb1
    go_cut [20] (fun v wx => v = .bool false ∧ wx = w1.drew)
    case first =>
      go_region
      all_goals
        go_wp2_with fail
        go_meet
        case rel => exact ⟨rfl, rfl⟩
    case rest =>
      obtain ⟨rfl, rfl⟩ := hcut
      go_wp2_with fail
      refine hO.mono ?_
      rintro e w' ⟨rfl, pv', p', HW'⟩
      go_wp2
      go_ret
      have h9 := HR.out
      exact ⟨rfl, hide0 ⟨pv', tv, ev, xs, ys, ps ++ [p'], r, r2, HW'.out, h9.1, h9.2.1, by simp; omega, by simp; omega, fun _ => by simp⟩⟩
  have hn0 : 0 < n := by omega
  have hpl := hps hn0
  rcases hW.prow.2 with ⟨e1, e2⟩ | ⟨g, pcap, cur, e1, _, hg, e3, _, hs, ht⟩
  · omega
  subst e1
  have HG := hide0 (show ∀ (i : Nat), i < ps.length → ∃ p, ps[i]? = some p ∧ w1.cell? ⟨g, i, none⟩ = some (.pointer (some ⟨p.r.P, 0, none⟩)) from fun i hi => by
    obtain ⟨p, hp⟩ : ∃ p, ps[i]? = some p := ⟨_, List.getElem?_eq_getElem hi⟩
    have h9 : (ps.map fun p => Value.pointer (some ⟨p.r.P, 0, none⟩))[i]? = some (.pointer (some ⟨p.r.P, 0, none⟩)) := by rw [List.getElem?_map, hp]; rfl
    refine ⟨p, hp, ?_⟩
    rw [← ht, List.getElem?_take] at h9
    split at h9
    · rw [cell_of_row w1 g _ cur _ (0, 0) hg]
      simpa using h9
    · cases h9)
  have hP := lpick_any ar ps.length w1.drew.drew har ⟨hpl, by omega⟩
  clear hW hx hy hr hr2 hps hg hs ht HS hb1
  go_cut [20] (fun v wx => v = .bool false ∧ wx = w1.drew)
  case first =>
    go_region
    all_goals
      go_wp2_with fail
      go_meet
      case rel => exact ⟨rfl, rfl⟩
  case rest =>
    obtain ⟨rfl, rfl⟩ := hcut
    go_wp2_with fail
    go_cut [5] (fun v wx => (∃ (i : Nat) (p : PS), ps[i]? = some p ∧ v = .pointer (some ⟨p.r.P, 0, none⟩)) ∧ wx = w1.drew.drew)
    case first =>
      clear HO HR hE
      first
        | go_region_with (first
            | (go_at_call 11; refine hP.mono ?_; rintro e w2 ⟨i, rfl, hi, rfl⟩
               obtain ⟨p, hp, hcp⟩ := HG.out i hi
               have hii : (i : Int) < (ps.length : Int) := by omega))
        | fail
      all_goals
        go_wp2_with fail
        go_meet
        case rel => exact ⟨⟨i, p, hp, rfl⟩, rfl⟩
    case rest =>
      obtain ⟨⟨i, p, hp, rfl⟩, rfl⟩ := hcut
      have hb2 : Below w1.heap.size w1 w1.drew.drew := (Below.refl _ _).drew.drew
      have HW2 := hide0 (HW.out.below hb2)
      replace o0 : w1.drew.drew.cell? ⟨q, 0, none⟩ = some (.int .i64 kind) := o0
      replace o2 : w1.drew.drew.cell? ⟨q, 2, none⟩ = some (.int .i64 nn) := o2
      replace o3 : w1.drew.drew.cell? ⟨q, 3, none⟩ = some (.slice a ls.length cap) := o3
      clear o1 c0 c3 HW HO hP hb2 HG hqs hblt
      generalize w1.drew.drew = w2 at *
      have HP2 := hide0 (HW2.out.mem i p hp)
      have HPP := hide0 hp
      obtain ⟨d0, d1, d2, d3, d4, dz⟩ := five_cells HP2.out.1.blk
      clear d2 d3 d4 dz
      have hc3 : ∀ (w' : World) (pv' tv' ev' : Value) (xs' ys' : List Value) (ps' : List PS), WorldOk true 8 w0 b w' pv' tv' ev' xs' ys' ps' → w'.cell? ⟨b, 3, none⟩ = some (.int .i64 8) := fun w' pv' tv' ev' xs' ys' ps' h => by have h9 := h.book.blk; simp only [World.cell?, h9]; rfl
      rcases (show kind = 2 ∨ kind = 3 ∨ kind = 4 ∨ kind = 5 ∨ kind = 6 ∨ kind = 7 ∨ kind = 8 by omega) with rfl | rfl | rfl | rfl | rfl | rfl | rfl
      · have hC := append_world true 8 w0 b w2 _ tv ev xs ys ps i p nn a cap ls (by decide) HW2.out hp (hE.out.args HW2.out.args) (by omega) hE.out.old.1 (fun q off h0 e hf => by have := hE.out.old.2 q off h0 e; have := (HP2.out.1.lt q hf).1; omega)
        clear hp
        go_wp2_with fail
        refine hC.mono ?_
        rintro e w3 ⟨rfl, p', hPq, HW3, _, _, _⟩
        have c3 := hc3 _ _ _ _ _ _ _ HW3.out
        clear hC
        have hSt := stood_world 8 w0 b w3 _ tv ev xs ys (ps.set i p') i p' HW3.out (List.getElem?_set_self (List.getElem?_eq_some_iff.1 HPP.out).1)
        rw [hPq.1] at hSt
        go_wp2_with fail
        refine hSt.mono ?_
        rintro e w9 ⟨rfl, p9, _, HW9⟩
        clear hSt
        go_wp2
        go_ret
        have h9 := HR.out
        exact ⟨rfl, hide0 ⟨_, tv, ev, xs, ys, _, r, r2, HW9.out, h9.1, h9.2.1, by simp only [List.length_set]; omega, by simp only [List.length_set]; omega, fun _ => by simp only [List.length_set]; exact hpl⟩⟩
      · have hC := ltold_any true 8 w0 b w2 _ tv ev xs ys ps i p r r2 HW2 HPP (hide0 ⟨HR.out.1, by have := HR.out; omega⟩) (hide0 ⟨HR.out.2.1, by have := HR.out; omega⟩)
        clear hp
        go_wp2_with fail
        refine hC.mono ?_
        rintro e w3 ⟨rfl, tv', ev', xs', ys', HW3, g2, g3⟩
        have c3 := hc3 _ _ _ _ _ _ _ HW3.out
        clear hC
        have hSt := stood_world 8 w0 b w3 _ tv' ev' xs' ys' ps i p HW3.out HPP.out
        go_wp2_with fail
        refine hSt.mono ?_
        rintro e w9 ⟨rfl, p9, _, HW9⟩
        clear hSt
        go_wp2
        go_ret
        have h9 := HR.out
        obtain ⟨l1, r', l2⟩ := g2.out
        exact ⟨rfl, hide0 ⟨_, tv', ev', xs', ys', _, r', r2 + 1, HW9.out, l2, g3.out, by simp only [List.length_set]; omega, by simp only [List.length_set]; omega, fun _ => by simp only [List.length_set]; exact hpl⟩⟩
      · have hP8 : Calls Tryz.prog 11 #[.int .i64 nn, .int .i64 8] w2 fun e w' => ∃ k : Nat, e = .returned (.int .i64 (k : Int)) ∧ k < 8 ∧ w' = w2 := lpick_any nn 8 w2 hnn ⟨by omega, by omega⟩
        go_wp2_with fail
        refine hP8.mono ?_
        rintro e w3 ⟨k, rfl, hk8, rfl⟩
        have hC := some_any true 8 w0 b w3 _ tv ev xs ys ps i p r r2 k (by decide) HW2 HPP (hide0 ⟨HR.out.1, by have := HR.out; omega⟩) (hide0 ⟨HR.out.2.1, by have := HR.out; omega⟩) hk8
        clear hp hP8
        go_wp2_with fail
        refine hC.mono ?_
        rintro e w4 ⟨rfl, tv', ev', xs', ys', p', hPq, HW3, g2, g3⟩
        have c3 := hc3 _ _ _ _ _ _ _ HW3.out
        clear hC
        have hSt := stood_world 8 w0 b w4 _ tv' ev' xs' ys' (ps.set i p') i p' HW3.out (List.getElem?_set_self (List.getElem?_eq_some_iff.1 HPP.out).1)
        rw [hPq] at hSt
        go_wp2_with fail
        refine hSt.mono ?_
        rintro e w9 ⟨rfl, p9, _, HW9⟩
        clear hSt
        go_wp2
        go_ret
        have h9 := HR.out
        obtain ⟨l1, r', l2⟩ := g2.out
        exact ⟨rfl, hide0 ⟨_, tv', ev', xs', ys', _, r', r2 + 1, HW9.out, l2, g3.out, by simp only [List.length_set]; omega, by simp only [List.length_set]; omega, fun _ => by simp only [List.length_set]; exact hpl⟩⟩
      · obtain ⟨ea, ec, hevv, _, hcap, _⟩ := HP2.out.1.arc.evs.at HP2.out.1.arc.good
        have hab := HP2.out.1.arc.blk
        rw [hevv] at hab
        have hL := len_any p.r.p p.r.fv ea p.r.js.length ec w2 hab
        have hjs : p.r.js.length = p.r.its.length := by have := congrArg List.length HP2.out.2.same; simpa [evs] using this.symm
        rw [hjs] at hL
        obtain ⟨la, lc, hlv, hlcap⟩ : ∃ a c, p.r.lv = .slice a p.r.its.length c ∧ p.r.its.length ≤ c := by
          rcases HP2.out.1.row.2 with ⟨e1, e2⟩ | ⟨g, cap, _, e1, _, _, e3, _⟩
          · exact ⟨none, 0, by rw [e1, e2], by omega⟩
          · exact ⟨_, cap, e1, e3⟩
        rw [hlv] at d1
        clear hab hcap hp
        go_wp2_with fail
        refine hL.mono ?_
        rintro e w3 ⟨rfl, rfl⟩
        have c3 := hc3 _ _ _ _ _ _ _ HW2.out
        clear hL
        have hSt := stood_world 8 w0 b w3 _ tv ev xs ys ps i p HW2.out HPP.out
        go_wp2_with fail
        refine hSt.mono ?_
        rintro e w9 ⟨rfl, p9, _, HW9⟩
        clear hSt
        go_wp2
        go_ret
        have h9 := HR.out
        exact ⟨rfl, hide0 ⟨_, tv, ev, xs, ys, _, r, r2, HW9.out, h9.1, h9.2.1, by simp only [List.length_set]; omega, by simp only [List.length_set]; omega, fun _ => by simp only [List.length_set]; exact hpl⟩⟩
      · have hC := again_any true 8 w0 b w2 _ tv ev xs ys ps i p r r2 (by decide) HW2 HPP (hide0 ⟨HR.out.1, by have := HR.out; omega⟩) (hide0 ⟨HR.out.2.1, by have := HR.out; omega⟩)
        clear hp
        go_wp2_with fail
        refine hC.mono ?_
        rintro e w3 ⟨rfl, tv', ev', xs', ys', p', hPq, HW3, g2, g3⟩
        have c3 := hc3 _ _ _ _ _ _ _ HW3.out
        clear hC
        have hSt := stood_world 8 w0 b w3 _ tv' ev' xs' ys' (ps.set i p') i p' HW3.out (List.getElem?_set_self (List.getElem?_eq_some_iff.1 HPP.out).1)
        rw [hPq] at hSt
        go_wp2_with fail
        refine hSt.mono ?_
        rintro e w9 ⟨rfl, p9, _, HW9⟩
        clear hSt
        go_wp2
        go_ret
        have h9 := HR.out
        obtain ⟨l1, r', l2⟩ := g2.out
        exact ⟨rfl, hide0 ⟨_, tv', ev', xs', ys', _, r', r2 + 2, HW9.out, l2, g3.out, by simp only [List.length_set]; omega, by simp only [List.length_set]; omega, fun _ => by simp only [List.length_set]; exact hpl⟩⟩
      · have hC := crash_world 8 w0 b w2 _ tv ev xs ys ps i p nn HW2.out hp hnn
        clear hp
        go_wp2_with fail
        refine hC.mono ?_
        rintro e w3 ⟨rfl, p', hPq, HW3⟩
        have c3 := hc3 _ _ _ _ _ _ _ HW3.out
        clear hC
        have hSt := stood_world 8 w0 b w3 _ tv ev xs ys (ps.set i p') i p' HW3.out (List.getElem?_set_self (List.getElem?_eq_some_iff.1 HPP.out).1)
        rw [hPq] at hSt
        go_wp2_with fail
        refine hSt.mono ?_
        rintro e w9 ⟨rfl, p9, _, HW9⟩
        clear hSt
        go_wp2
        go_ret
        have h9 := HR.out
        exact ⟨rfl, hide0 ⟨_, tv, ev, xs, ys, _, r, r2, HW9.out, h9.1, h9.2.1, by simp only [List.length_set]; omega, by simp only [List.length_set]; omega, fun _ => by simp only [List.length_set]; exact hpl⟩⟩
      · have hC := migr_world 8 w0 b w2 _ tv ev xs ys ps i p HW2.out hp
        clear hp
        go_wp2_with fail
        refine hC.mono ?_
        rintro e w3 ⟨rfl, p', hPq, HW3⟩
        have c3 := hc3 _ _ _ _ _ _ _ HW3.out
        clear hC
        have hSt := stood_world 8 w0 b w3 _ tv ev xs ys (ps.set i p') i p' HW3.out (List.getElem?_set_self (List.getElem?_eq_some_iff.1 HPP.out).1)
        rw [hPq] at hSt
        go_wp2_with fail
        refine hSt.mono ?_
        rintro e w9 ⟨rfl, p9, _, HW9⟩
        clear hSt
        go_wp2
        go_ret
        have h9 := HR.out
        exact ⟨rfl, hide0 ⟨_, tv, ev, xs, ys, _, r, r2, HW9.out, h9.1, h9.2.1, by simp only [List.length_set]; omega, by simp only [List.length_set]; omega, fun _ => by simp only [List.length_set]; exact hpl⟩⟩
end Go.Proofs.YtdjllnhahhjgmaaGreat
namespace Go.Proofs.YtdjllnhahhjgmaaGreat
open Go.RowKit Go.Shelf Chron
/- a row of the script that lay there is not the world itself -/
theorem Stood8.args {w0 W : World} {b n : Nat} (h : Stood8 w0 b n W) : Args b w0 W := by
  obtain ⟨pv, tv, ev, xs, ys, ps, r, r2, h1, _⟩ := h
  exact h1.args
theorem Stood8.whole {w0 W : World} {b n : Nat} (h : Stood8 w0 b n W) (hn : n ≤ 1100000) : Calls Tryz.prog 7 #[.pointer (some ⟨b, 1, none⟩)] W fun e w' => e = .returned (.bool true) ∧ Hid (Stood8 w0 b n w') := by
  obtain ⟨pv, tv, ev, xs, ys, ps, r, r2, h1, h2, h3, h4, h5, h6⟩ := h
  refine (whole2_any b pv _ tv ev xs ys W (hide0 h1.book) (by omega) (by omega)).mono ?_
  rintro e w' ⟨rfl, hb⟩
  exact ⟨rfl, hide0 ⟨pv, tv, ev, xs, ys, ps, r, r2, h1.below hb, h2, h3, h4, h5, h6⟩⟩
/- the end: the archives are told, one after the other -/
def Ends8 (w0 : World) (b : Nat) (n k j : Nat) (W : World) : Prop := ∃ pv tv ev xs ys ps r r2, WorldOk true 8 w0 b W pv tv ev xs ys ps ∧ ps.length = k ∧ xs.length = 4 * r ∧ ys.length = 4 * r2 ∧ r + 200 * k ≤ 400 * n + 200 * j ∧ r2 + k ≤ 2 * n + j ∧ k ≤ 2 * n
theorem WorldOk.pair_at {crash : Bool} {most : Int} {w0 W : World} {b : Nat} {pv tv ev : Value} {xs ys : List Value} {ps : List PS} {j g cap : Nat} {p : PS} (h : WorldOk crash most w0 b W pv tv ev xs ys ps) (hp : ps[j]? = some p) (he : pv = .slice (some ⟨g, 0, none⟩) ps.length cap) : W.cell? ⟨g, j, none⟩ = some (.pointer (some ⟨p.r.P, 0, none⟩)) := by
  have hjl := (List.getElem?_eq_some_iff.1 hp).1
  rcases h.prow.2 with ⟨e1, e2⟩ | ⟨g', cap', cur, e1, _, hg, e3, _, hs, ht⟩
  · omega
  rw [he] at e1
  have eg : g = g' := by
    have h9 := congrArg Value.ownBlock e1
    exact Option.some.inj h9
  subst eg
  have h9 : (ps.map fun p => Value.pointer (some ⟨p.r.P, 0, none⟩))[j]? = some (.pointer (some ⟨p.r.P, 0, none⟩)) := by rw [List.getElem?_map, hp]; rfl
  rw [← ht, List.getElem?_take] at h9
  split at h9
  · rw [cell_of_row W g _ cur _ (0, 0) hg]
    simpa using h9
  · cases h9
theorem Ends8.told {w0 W : World} {b n k j : Nat} (h : Ends8 w0 b n k j W) (hn : n ≤ 1100000) (hj : j < k) : ∃ P vb vc, W.cell? ⟨b, 0, none⟩ = some (.slice (some ⟨vb, 0, none⟩) k vc) ∧ W.cell? ⟨vb, j, none⟩ = some (.pointer (some ⟨P, 0, none⟩)) ∧ W.cell? ⟨b, 3, none⟩ = some (.int .i64 8) ∧ k ≤ vc ∧ k ≤ 3000000 ∧
    ∀ W', Below W.heap.size W W' → Calls Tryz.prog 8 #[.pointer (some ⟨b, 0, none⟩), .pointer (some ⟨P, 0, none⟩)] W' fun e w' => e = .returned (.bool true) ∧ w'.cell? ⟨b, 0, none⟩ = some (.slice (some ⟨vb, 0, none⟩) k vc) ∧ w'.cell? ⟨vb, j, none⟩ = some (.pointer (some ⟨P, 0, none⟩)) ∧ w'.cell? ⟨b, 3, none⟩ = some (.int .i64 8) ∧ Hid (∀ W'', Below w'.heap.size w' W'' → Calls Tryz.prog 9 #[.pointer (some ⟨P, 0, none⟩), .bool false] W'' fun e w'' => e = .returned (.bool true) ∧ Hid (Ends8 w0 b n k (j + 1) w'')) := by
  obtain ⟨pv, tv, ev, xs, ys, ps, r, r2, h1, h2, h3, h4, h5, h6, h7⟩ := h
  have hjl : j < ps.length := by omega
  obtain ⟨p, hp⟩ : ∃ p, ps[j]? = some p := ⟨_, List.getElem?_eq_getElem hjl⟩
  obtain ⟨g, cap, e1, e3⟩ : ∃ g cap, pv = .slice (some ⟨g, 0, none⟩) ps.length cap ∧ ps.length ≤ cap := by
    rcases h1.prow.2 with ⟨e1, e2⟩ | ⟨g, cap, _, e1, _, _, e3, _⟩
    · omega
    · exact ⟨g, cap, e1, e3⟩
  have hb0 : ∀ (X : World) (tv' ev' : Value) (xs' ys' : List Value) (ps' : List PS), WorldOk true 8 w0 b X pv tv' ev' xs' ys' ps' → X.cell? ⟨b, 0, none⟩ = some (.slice (some ⟨g, 0, none⟩) k cap) ∧ X.cell? ⟨b, 3, none⟩ = some (.int .i64 8) := fun X tv' ev' xs' ys' ps' hX => by
    have h9 := hX.book.blk
    refine ⟨?_, ?_⟩
    · simp only [World.cell?, h9, e1, h2]; rfl
    · simp only [World.cell?, h9]; rfl
  refine ⟨p.r.P, g, cap, (hb0 W _ _ _ _ _ h1).1, h1.pair_at hp e1, (hb0 W _ _ _ _ _ h1).2, by omega, by omega, fun W' hb => ?_⟩
  refine (ltold_any true 8 w0 b W' pv tv ev xs ys ps j p r r2 (hide0 (h1.below hb)) (hide0 hp) (hide0 ⟨h3, by omega⟩) (hide0 ⟨h4, by omega⟩)).mono ?_
  rintro e w' ⟨rfl, tv', ev', xs', ys', g1, g2, g3⟩
  refine ⟨rfl, (hb0 w' _ _ _ _ _ g1.out).1, g1.out.pair_at hp e1, (hb0 w' _ _ _ _ _ g1.out).2, hide0 (fun W'' hb2 => ?_)⟩
  refine (stood_world 8 w0 b W'' pv tv' ev' xs' ys' ps j p (g1.out.below hb2) hp).mono ?_
  rintro e w'' ⟨rfl, p9, _, HW9⟩
  obtain ⟨l1, r', l2⟩ := g2.out
  have l3 := g3.out
  exact ⟨rfl, hide0 ⟨pv, tv', ev', xs', ys', _, r', r2 + 1, HW9.out, by rw [List.length_set]; exact h2, l2, l3, by omega, by omega, h7⟩⟩
theorem upto8_blocks (w : World) : ∃ W, W = ((((w.alloc (.cells #[.slice none 0 0, .slice none 0 0, .slice none 0 0, .int .i64 8] 32)).alloc (.cells #[.string ⟨#[97]⟩] 9)).alloc (.cells #[.int .i64 2, .string ⟨#[116]⟩, .int .i64 300, .string ⟨#[104, 105]⟩, .slice (some ⟨w.heap.size + 1, 0, none⟩) 1 1] 38)).alloc (.cells #[.int .i64 1, .int .i64 0, .int .i64 0, .slice none 0 0, .int .i64 2, .int .i64 0, .int .i64 3, .slice (some ⟨w.heap.size + 1 + 1, 0, none⟩) 1 1, .int .i64 3, .int .i64 0, .int .i64 0, .slice none 0 0] 35)) ∧ Below w.heap.size w W ∧ W.heap.size = w.heap.size + 4 ∧ W.heap[w.heap.size]? = some (.cells #[.slice none 0 0, .slice none 0 0, .slice none 0 0, .int .i64 8] 32) ∧ W.heap[w.heap.size + 1]? = some (.cells #[.string ⟨#[97]⟩] 9) ∧ W.heap[w.heap.size + 1 + 1]? = some (.cells #[.int .i64 2, .string ⟨#[116]⟩, .int .i64 300, .string ⟨#[104, 105]⟩, .slice (some ⟨w.heap.size + 1, 0, none⟩) 1 1] 38) ∧ W.heap[w.heap.size + 1 + 1 + 1]? = some (.cells #[.int .i64 1, .int .i64 0, .int .i64 0, .slice none 0 0, .int .i64 2, .int .i64 0, .int .i64 3, .slice (some ⟨w.heap.size + 1 + 1, 0, none⟩) 1 1, .int .i64 3, .int .i64 0, .int .i64 0, .slice none 0 0] 35) := by
  refine ⟨_, rfl, ((((Below.refl _ w).alloc (Nat.le_refl _) _).alloc (by simp only [World.size_alloc]; omega) _).alloc (by simp only [World.size_alloc]; omega) _).alloc (by simp only [World.size_alloc]; omega) _, by simp, ?_, ?_, ?_, ?_⟩
  · rw [Below.heap_alloc _ _ _ (by simp only [World.size_alloc]; omega), Below.heap_alloc _ _ _ (by simp only [World.size_alloc]; omega), Below.heap_alloc _ _ _ (by simp only [World.size_alloc]; omega)]
    exact heap_alloc_new w _
  · rw [Below.heap_alloc _ _ _ (by simp only [World.size_alloc]; omega), Below.heap_alloc _ _ _ (by simp only [World.size_alloc]; omega)]
    have h9 := heap_alloc_new (w.alloc (.cells #[.slice none 0 0, .slice none 0 0, .slice none 0 0, .int .i64 8] 32)) (.cells #[.string ⟨#[97]⟩] 9)
    simp only [World.size_alloc] at h9; exact h9
  · rw [Below.heap_alloc _ _ _ (by simp only [World.size_alloc]; omega)]
    have h9 := heap_alloc_new ((w.alloc (.cells #[.slice none 0 0, .slice none 0 0, .slice none 0 0, .int .i64 8] 32)).alloc (.cells #[.string ⟨#[97]⟩] 9)) (.cells #[.int .i64 2, .string ⟨#[116]⟩, .int .i64 300, .string ⟨#[104, 105]⟩, .slice (some ⟨w.heap.size + 1, 0, none⟩) 1 1] 38)
    simp only [World.size_alloc] at h9; exact h9
  · have h9 := heap_alloc_new (((w.alloc (.cells #[.slice none 0 0, .slice none 0 0, .slice none 0 0, .int .i64 8] 32)).alloc (.cells #[.string ⟨#[97]⟩] 9)).alloc (.cells #[.int .i64 2, .string ⟨#[116]⟩, .int .i64 300, .string ⟨#[104, 105]⟩, .slice (some ⟨w.heap.size + 1, 0, none⟩) 1 1] 38)) (.cells #[.int .i64 1, .int .i64 0, .int .i64 0, .slice none 0 0, .int .i64 2, .int .i64 0, .int .i64 3, .slice (some ⟨w.heap.size + 1 + 1, 0, none⟩) 1 1, .int .i64 3, .int .i64 0, .int .i64 0, .slice none 0 0] 35)
    simp only [World.size_alloc] at h9; exact h9
theorem WorldOk.start8 {W : World} {b : Nat} (hb : W.heap[b]? = some (.cells #[.slice none 0 0, .slice none 0 0, .slice none 0 0, .int .i64 8] 32)) : WorldOk true 8 W b W (.slice none 0 0) (.slice none 0 0) (.slice none 0 0) [] [] [] := by
  have hn : ∀ q, Value.ownBlock (.slice none 0 0) ≠ some q := fun q => by simp [Value.ownBlock]
  refine ⟨⟨hb, World.ownsRow_nil _ _ _ _, World.ownsRow_nil _ _ _ _, fun q h => absurd h (hn q), fun i v h => by simp at h, fun i v h => by simp at h⟩, World.ownsRow_nil _ _ _ _, fun q h => absurd h (hn q), fun i p h => by simp at h, fun i p q h => by simp at h, fun i j p r q _ h => by simp at h, ⟨rfl, rfl, rfl, Nat.le_refl _, fun _ _ _ => rfl, ?_⟩, (Array.getElem?_eq_some_iff.1 hb).1, fun q _ h2 => ⟨⟨h2, hn q, hn q, fun v h => by simp at h, fun v h => by simp at h⟩, hn q⟩⟩
  intro o s h
  simp only [World.cell?, hb] at h
  match o, h with
  | 0, h => simp at h
  | 1, h => simp at h
  | 2, h => simp at h
  | 3, h => simp at h
  | n + 4, h => simp at h
theorem Stood8.start {W : World} {b : Nat} (hb : W.heap[b]? = some (.cells #[.slice none 0 0, .slice none 0 0, .slice none 0 0, .int .i64 8] 32)) : Stood8 W b 0 W :=
  ⟨_, _, _, [], [], [], 0, 0, WorldOk.start8 hb, rfl, rfl, by simp, by simp, fun h => by omega⟩
theorem Ends8.start {w0 W : World} {b n : Nat} (h : Stood8 w0 b n W) : ∃ k, Ends8 w0 b n k 0 W := by
  obtain ⟨pv, tv, ev, xs, ys, ps, r, r2, h1, h2, h3, h4, h5, h6⟩ := h
  exact ⟨ps.length, pv, tv, ev, xs, ys, ps, r, r2, h1, rfl, h2, h3, by omega, by omega, by omega⟩
theorem Ends8.pairs {w0 W : World} {b n k j : Nat} (h : Ends8 w0 b n k j W) : ∃ va vc, W.cell? ⟨b, 0, none⟩ = some (.slice va k vc) ∧ k ≤ vc ∧ k ≤ 2 * n ∧ Args b w0 W := by
  obtain ⟨pv, tv, ev, xs, ys, ps, r, r2, h1, h2, h3, h4, h5, h6, h7⟩ := h
  obtain ⟨va, vc, e, hc⟩ : ∃ a c, pv = .slice a ps.length c ∧ ps.length ≤ c := by
    rcases h1.prow.2 with ⟨e1, e2⟩ | ⟨g, cap, _, e1, _, _, e3, _⟩
    · exact ⟨none, 0, by rw [e1, e2], by omega⟩
    · exact ⟨_, cap, e1, e3⟩
  refine ⟨va, vc, ?_, by omega, h7, h1.args⟩
  have h9 := h1.book.blk; simp only [World.cell?, h9, e, h2]; rfl
set_option maxRecDepth 100000 in
set_option maxHeartbeats 2000000 in
theorem upto8_any (a : Option Addr) (cap : Nat) (ops : List OpIt) (w : World) (hO : Hid (OpsAt w a ops)) (hl : ops.length ≤ 1048576) :
    Calls Tryz.prog 5 #[.slice a ops.length cap, .int .i64 8] w fun e w' => e = .returned (.int .i64 (-1)) ∧ Hid (Below w.heap.size w w') := by
  obtain ⟨W0, hW0, hB0, hsz, hb, hT, hL, hF⟩ := upto8_blocks w
  have HS0 := hide0 (Stood8.start hb)
  have HE1 := hide0 (first_at hT hL)
  have HF := hide0 hF
  have HB0 := hide0 hB0
  have hE0 : Hid (EvsAt W0 none []) := fun h => by simp at h
  go_enter Tryz.func5, Tryz.ntmps5
  go_wp2_with fail
  rw [← hW0]
  clear hW0 hB0 hb hT hL hF
  go_loopw [7] (fun v wr => ∃ i : Nat, i ≤ 3 ∧ v = .int .i64 (i : Int) ∧ Hid (Stood8 W0 w.heap.size i wr)) (fun v _ => 3 - (intOf v).toNat)
  case atStart => exact ⟨0, by omega, rfl, HS0⟩
  case round =>
    obtain ⟨i, hi3, rfl, HS⟩ := hrel
    by_cases hlt : i < 3
    · have hrow := (HS.out.args.block (w.heap.size + 1 + 1 + 1) (by omega) (by omega)).trans HF.out
      obtain ⟨z0, z1, z2, z3, z4, z5, z6, z7, z8, z9, z10, z11⟩ := row12 hrow
      clear hrow
      rcases (show i = 0 ∨ i = 1 ∨ i = 2 by omega) with rfl | rfl | rfl
      · have hC := step8_any W0 w.heap.size wr 0 1 0 0 none 0 [] HS (by omega) (.inl rfl) (by omega) (by omega) hE0 (by simp)
        go_wp2_with fail
        refine hC.mono ?_
        rintro e w2 ⟨rfl, HS2⟩
        clear hC
        go_wp2
        go_roundw
        case rel => exact ⟨1, by omega, rfl, HS2⟩
        case measure => simp [intOf]
      · have hC := step8_any W0 w.heap.size wr 1 2 0 3 (some ⟨w.heap.size + 1 + 1, 0, none⟩) 1 [firstIt (w.heap.size + 1)] HS (by omega) (.inr (by omega)) (by omega) (by omega) HE1 (by simp)
        go_wp2_with fail
        refine hC.mono ?_
        rintro e w2 ⟨rfl, HS2⟩
        clear hC
        go_wp2
        go_roundw
        case rel => exact ⟨2, by omega, rfl, HS2⟩
        case measure => simp [intOf]
      · have hC := step8_any W0 w.heap.size wr 2 3 0 0 none 0 [] HS (by omega) (.inr (by omega)) (by omega) (by omega) hE0 (by simp)
        go_wp2_with fail
        refine hC.mono ?_
        rintro e w2 ⟨rfl, HS2⟩
        clear hC
        go_wp2
        go_roundw
        case rel => exact ⟨3, by omega, rfl, HS2⟩
        case measure => simp [intOf]
    · have hI : (i : Int) = 3 := by omega
      have HS3 : Hid (Stood8 W0 w.heap.size 3 wr) := by
        have h9 := HS.out
        rw [show i = 3 by omega] at h9
        exact h9
      rw [hI]
      clear hlt hi3 HS0 HE1 HF hE0 HS hI
      have HS := HS3
      clear HS3
      go_wp2_with fail
      go_loopw [9] (fun v wr => ∃ k : Nat, k ≤ ops.length ∧ v = .int .i64 (k : Int) ∧ Hid (Stood8 W0 w.heap.size (3 + k) wr)) (fun v _ => ops.length - (intOf v).toNat)
      case atStart => exact ⟨0, Nat.zero_le _, rfl, HS⟩
      case round =>
        clear HS
        obtain ⟨k, hkl, rfl, HS⟩ := hrel
        by_cases hlt : k < ops.length
        · obtain ⟨qb, off, rfl, hc⟩ := hO.out (by omega)
          obtain ⟨⟨z0, z1, z2, z3⟩, hok⟩ := hc k ops[k] (List.getElem?_eq_getElem hlt)
          generalize ops[k] = o at z0 z1 z2 z3 hok
          obtain ⟨kind, ar, nn, oa, oc, ls⟩ := o
          simp only at z0 z1 z2 z3
          have hqlt := World.block_lt_of_cell? w _ z0
          simp only at hqlt
          have hB := (HS.out.args.block qb (by omega) (by omega)).trans (HB0.out.block qb hqlt)
          replace z0 := (World.cell?_of_block hB).trans z0
          replace z1 := (World.cell?_of_block hB).trans z1
          replace z2 := (World.cell?_of_block hB).trans z2
          replace z3 := (World.cell?_of_block hB).trans z3
          have hkI : (k : Int) < (ops.length : Int) := by omega
          have hC := step8_any W0 w.heap.size wr (3 + k) kind ar nn oa oc ls HS (by omega) (.inr (by omega)) hok.ar hok.n (hide0 (hok.evs.below HB0.out (Nat.le_refl _))) hok.few
          clear hc hok hB hqlt
          go_wp2_with fail
          refine hC.mono ?_
          rintro e w2 ⟨rfl, HS2⟩
          have hWh := HS2.out.whole (by omega)
          clear hC
          go_wp2_with fail
          refine hWh.mono ?_
          rintro e w3 ⟨rfl, HS3⟩
          clear hWh
          go_wp2
          go_roundw
          case rel => exact ⟨k + 1, by omega, by go_num, HS3⟩
          case measure => simp [intOf]; omega
        · obtain rfl : k = ops.length := by omega
          obtain ⟨m, hE⟩ := Ends8.start HS.out
          have HE := hide0 hE
          clear hlt hkl HS hE
          go_wp2_with fail
          go_loopw [12] (fun v wr => ∃ j : Nat, j ≤ m ∧ v = .int .i64 (j : Int) ∧ Hid (Ends8 W0 w.heap.size (3 + ops.length) m j wr)) (fun v _ => m - (intOf v).toNat)
          case atStart => exact ⟨0, Nat.zero_le _, rfl, HE⟩
          case round =>
            clear HE
            obtain ⟨j, hjm, rfl, HE⟩ := hrel
            by_cases hlt : j < m
            · obtain ⟨P, vb, vc, c0, c1, c3, hvc, hm3, hTd⟩ := HE.out.told (by omega) hlt
              have hjI : (j : Int) < (m : Int) := by omega
              go_wp2_with fail
              refine (hTd wr (Below.refl _ _)).mono ?_
              rintro e w2 ⟨rfl, c02, c12, c32, HST⟩
              clear hTd c0 c1 c3
              go_wp2_with fail
              refine (HST.out w2 (Below.refl _ _)).mono ?_
              rintro e w3 ⟨rfl, HE2⟩
              clear HST c02 c12 c32
              go_wp2
              go_roundw
              case rel => exact ⟨j + 1, by omega, by go_num, HE2⟩
              case measure => simp [intOf]; omega
            · obtain ⟨va, vc, c0, hvc, hm2, hA⟩ := HE.out.pairs
              have HA := hide0 hA
              obtain rfl : j = m := by omega
              clear hA hlt hjm
              go_wp2
              go_ret
              exact ⟨rfl, hide0 ⟨HA.out.os.trans HB0.out.os, HA.out.tape.trans HB0.out.tape, HA.out.output.trans HB0.out.output, by have := HA.out.size; omega, fun q hq => (HA.out.block q (by omega) (by omega)).trans (HB0.out.block q hq)⟩⟩
end Go.Proofs.YtdjllnhahhjgmaaGreat
namespace Go.Proofs.YtdjllnhahhjgmaaGreat
open Go.ChangeShapes Go.WideShapes Go.ChangeAt Go.RowKit
theorem cellsEvent : Tryz.prog.cellsOf 38 = 5 := by kernel_rfl
theorem cellsInt : Tryz.prog.cellsOf 3 = 1 := by kernel_rfl
theorem cellsText : Tryz.prog.cellsOf 9 = 1 := by kernel_rfl
theorem cellsTexts : Tryz.prog.cellsOf 36 = 1 := by kernel_rfl
theorem bytesText : Tryz.prog.bytesOf 9 = 16 := by kernel_rfl
theorem array5 {α : Type} {cs : Array α} (h : cs.size = 5) : ∃ c0 c1 c2 c3 c4, cs = #[c0, c1, c2, c3, c4] := by
  obtain ⟨l⟩ := cs
  match l, h with
  | [c0, c1, c2, c3, c4], _ => exact ⟨c0, c1, c2, c3, c4, rfl⟩
set_option maxRecDepth 100000 in
theorem tags_open {H : Type} {enc : TypeId × Value → H} {W : World} {base : Nat} {held : Bool} {fuel : Nat} {cs : List Value} {x : DataW H × List MemPlace}
    (h : DataW.trod enc Tryz.prog W base (fun _ => true) held fuel 36 cs = some x) (hw : ∀ n ∈ x.1.weights Tryz.prog 36, n ≤ reachBytes) :
    ∃ (a : Option Addr) (cap : Nat) (ts : List ByteArray), cs = [.slice a ts.length cap] ∧ TagsAt W a ts ∧ Short ts ∧ ts.length * 16 ≤ 140737488351232 := by
  rcases open_strings Tryz.underlying36 Tryz.underlying9 cellsText h with ⟨hcs, _⟩ | ⟨a, len, cap, ss, hcs, _, hl, hm, hz, rfl, hcell, hsz⟩
  · exact ⟨none, 0, [], hcs, fun h0 => by simp at h0, fun i hi => by simp at hi, by simp⟩
  · have hz' : ss.length = cap := by simpa using hz
    have hlen : (ss.take len).length = len := by simp; omega
    refine ⟨some a, cap, ss.take len, by rw [hlen]; exact hcs, ?_, ?_, ?_⟩
    · intro h0
      rw [hlen] at h0
      obtain ⟨b, off, spot⟩ := a
      have hspot : spot = none := by simpa [Addr.add] using World.cell?_spot (hcell 0 (by omega))
      subst hspot
      have hc : ∀ i, i < ss.length → W.cell? ⟨b, off + i, none⟩ = some (.string (ss.getD i ByteArray.empty)) := fun i hi => by rw [← Go.WideShapes.add_plain]; exact hcell i hi
      refine ⟨b, off, rfl, fun i hi => ?_⟩
      rw [hlen] at hi
      rw [hc i (by omega), List.getElem?_take_of_lt hi, List.getD_eq_getElem?_getD]
    · intro i hi
      rw [hlen] at hi
      rw [List.getElem?_take_of_lt hi, List.getElem?_eq_getElem (by omega)]
      exact hsz _ (List.getElem_mem _)
    · have := hw ((ss.take len).length * 16 + (ss.drop len).length * 16) (by
        simp only [DataW.weights, Tryz.underlying36, strs, List.length_map, bytesText]
        apply List.mem_cons.2; left; omega)
      unfold reachBytes at this
      omega
set_option maxRecDepth 100000 in
theorem event_open {H : Type} {enc : TypeId × Value → H} {W : World} {base b0 : Nat} {held : Bool} {v : Value} {d : DataW H} {p : List MemPlace} (hval : Value.okWide Tryz.prog W .any b0 38 v)
    (h : DataW.Trod enc Tryz.prog W base (fun _ => true) held 38 v d p) (hw : ∀ n ∈ d.weights Tryz.prog 38, n ≤ reachBytes) :
    ∃ (k : Int) (t : ByteArray) (m : Int) (bd : ByteArray) (a : Option Addr) (cap : Nat) (ts : List ByteArray), v = .agg #[.int .i64 k, .string t, .int .i64 m, .string bd, .slice a ts.length cap] ∧ TagsAt W a ts ∧ Short ts ∧ ts.length * 16 ≤ 140737488351232 ∧ t.size ≤ maxLen ∧ bd.size ≤ maxLen := by
  obtain ⟨cs, rfl, hsz⟩ := okWide_struct Tryz.underlying38 hval
  obtain ⟨c0, c1, c2, c3, c4, rfl⟩ := array5 (hsz.trans cellsEvent)
  obtain ⟨fuel, hf⟩ := h
  obtain ⟨xs, n, _, hx, _, hlen, hfld⟩ := DataW.trod_struct Tryz.underlying38 hf
  match xs, hlen with
  | [y0, y1, y2, y3, y4], _ =>
    have h0 := hfld 0 _ rfl
    have h1 := hfld 1 _ rfl
    have h2 := hfld 2 _ rfl
    have h3 := hfld 3 _ rfl
    have h4 := hfld 4 _ rfl
    simp [Value.cells, cellsInt] at h0 h2
    simp [Value.cells, cellsText] at h1 h3
    simp [Value.cells, cellsTexts] at h4
    simp only [Prod.mk.injEq] at hx
    obtain ⟨rfl, _⟩ := hx
    obtain ⟨k, e0, _, _⟩ := DataW.trod_int Tryz.underlying3 h0
    obtain ⟨t, e1, _, ht⟩ := DataW.trod_string Tryz.underlying9 h1
    obtain ⟨m, e2, _, _⟩ := DataW.trod_int Tryz.underlying3 h2
    obtain ⟨bd, e3, _, hb⟩ := DataW.trod_string Tryz.underlying9 h3
    obtain ⟨a, cap, ts, e4, g1, g2, g3⟩ := tags_open h4 (fun n hn => hw n (by
      simp only [DataW.weights, Tryz.underlying38]
      exact DataW.weights_mem_each (j := 4) (d := y4.1) rfl rfl n hn))
    simp only [List.cons.injEq, and_true] at e0 e1 e2 e3 e4
    subst e0 e1 e2 e3 e4
    exact ⟨k, t, m, bd, a, cap, ts, rfl, g1, g2, g3, ht, hb⟩
end Go.Proofs.YtdjllnhahhjgmaaGreat
namespace Go.Proofs.YtdjllnhahhjgmaaGreat
open Go.ChangeShapes Go.WideShapes Go.ChangeAt Go.RowKit Chron
theorem bytesEvent : Tryz.prog.bytesOf 38 = 72 := by kernel_rfl
theorem weights_in {H : Type} {P : Program} {e : TypeId} : ∀ {l : List (DataW H)} {d : DataW H}, d ∈ l → ∀ n ∈ d.weights P e, n ∈ DataW.weightsAll P e l
  | x :: l, d, hd, n, hn => by
    simp only [DataW.weightsAll, List.mem_append]
    rcases List.mem_cons.1 hd with rfl | hd
    · exact .inl hn
    · exact .inr (weights_in hd n hn)
set_option maxRecDepth 100000 in
theorem event_cells {H : Type} {enc : TypeId × Value → H} {W : World} {base : Nat} {held : Bool} {fuel : Nat} {cs : List Value} {x : DataW H × List MemPlace} (hlen5 : cs.length = 5)
    (h : DataW.trod enc Tryz.prog W base (fun _ => true) held fuel 38 cs = some x) (hw : ∀ n ∈ x.1.weights Tryz.prog 38, n ≤ reachBytes) :
    ∃ i : Item, cs = [.int .i64 i.ev.kind, .string i.ev.task, .int .i64 i.ev.time, .string i.ev.body, .slice i.at' i.ev.tags.length i.cap] ∧ ItemOk W i := by
  match cs, hlen5 with
  | [c0, c1, c2, c3, c4], _ =>
    obtain ⟨xs, n, _, hx, _, hlen, hfld⟩ := DataW.trod_struct Tryz.underlying38 h
    match xs, hlen with
    | [y0, y1, y2, y3, y4], _ =>
      have h0 := hfld 0 _ rfl
      have h1 := hfld 1 _ rfl
      have h2 := hfld 2 _ rfl
      have h3 := hfld 3 _ rfl
      have h4 := hfld 4 _ rfl
      simp [cellsInt] at h0 h2
      simp [cellsText] at h1 h3
      simp [cellsTexts] at h4
      subst hx
      obtain ⟨k, e0, _, _⟩ := DataW.trod_int Tryz.underlying3 h0
      obtain ⟨t, e1, _, ht⟩ := DataW.trod_string Tryz.underlying9 h1
      obtain ⟨m, e2, _, _⟩ := DataW.trod_int Tryz.underlying3 h2
      obtain ⟨bd, e3, _, hb⟩ := DataW.trod_string Tryz.underlying9 h3
      obtain ⟨a, cap, ts, e4, g1, g2, g3⟩ := tags_open h4 (fun n hn => hw n (by
        simp only [DataW.weights, Tryz.underlying38]
        exact DataW.weights_mem_each (j := 4) (d := y4.1) rfl rfl n hn))
      simp only [List.cons.injEq, and_true] at e0 e1 e2 e3 e4
      subst e0 e1 e2 e3 e4
      exact ⟨⟨⟨k, t, m, bd, ts⟩, a, cap⟩, rfl, g1, g2, g3, ht, hb⟩
set_option maxRecDepth 100000 in
theorem events_open {H : Type} {enc : TypeId × Value → H} {W : World} {base b0 : Nat} {held : Bool} {v : Value} {d : DataW H} {p : List MemPlace} (hval : Value.okWide Tryz.prog W .any b0 33 v)
    (h : DataW.Trod enc Tryz.prog W base (fun _ => true) held 33 v d p) (hw : ∀ n ∈ d.weights Tryz.prog 33, n ≤ reachBytes) :
    ∃ (a : Option Addr) (cap : Nat) (l : List Item), v = .slice a l.length cap ∧ EvsAt W a l ∧ l.length * 72 ≤ 140737488351232 := by
  obtain ⟨a0, len0, cap0, rfl⟩ := okWide_slice Tryz.underlying33 hval
  obtain ⟨fuel, hf⟩ := h
  rcases Go.Deep.open_slice Tryz.underlying33 hf with ⟨hcs, _⟩ | ⟨a, len, cap, m, n, D, Pl, hcs, _, hl, hm, hmc, hx, hel⟩
  · simp [Value.cells] at hcs
    obtain ⟨rfl, rfl, rfl⟩ := hcs
    exact ⟨none, 0, [], rfl, fun h0 => by simp at h0, by simp⟩
  · simp [Value.cells] at hcs
    obtain ⟨rfl, rfl, rfl⟩ := hcs
    simp only [Prod.mk.injEq] at hx
    obtain ⟨rfl, _⟩ := hx
    simp only [if_true] at hmc
    subst hmc
    simp only [cellsEvent] at hel
    simp only [DataW.weights, Tryz.underlying33, bytesEvent, List.length_map, List.length_range] at hw
    have hit : ∀ i, i < len0 → ∃ it : Item, ∃ cs', W.cells? base (a.add (i * 5)) 5 = some cs' ∧ cs' = [.int .i64 it.ev.kind, .string it.ev.task, .int .i64 it.ev.time, .string it.ev.body, .slice it.at' it.ev.tags.length it.cap] ∧ ItemOk W it := by
      intro i hi
      obtain ⟨cs', hc, ht⟩ := hel i (by omega)
      obtain ⟨it, e, ho⟩ := event_cells (World.cells?_some hc).2.1 ht (fun k hk => hw k (List.mem_cons_of_mem _ (List.mem_append_left _ (weights_in (List.mem_map.2 ⟨i, List.mem_range.2 hi, rfl⟩) k hk))))
      exact ⟨it, cs', hc, e, ho⟩
    let l : List Item := (List.range len0).attach.map fun i => (hit i.1 (List.mem_range.1 i.2)).choose
    have hlen : l.length = len0 := by simp [l]
    have hget : ∀ k it, l[k]? = some it → ∃ cs', W.cells? base (a.add (k * 5)) 5 = some cs' ∧ cs' = [.int .i64 it.ev.kind, .string it.ev.task, .int .i64 it.ev.time, .string it.ev.body, .slice it.at' it.ev.tags.length it.cap] ∧ ItemOk W it := by
      intro k it hk
      have hkl : k < len0 := by have := (List.getElem?_eq_some_iff.1 hk).1; omega
      have e : l[k]? = some (hit k hkl).choose := by simp [l, hkl]
      rw [e] at hk
      rw [← Option.some.inj hk]
      exact (hit k hkl).choose_spec
    refine ⟨some a, m, l, by rw [hlen], fun h0 => ?_, ?_⟩
    · obtain ⟨b, off, spot⟩ := a
      obtain ⟨it0, h00⟩ : ∃ x, l[0]? = some x := ⟨_, List.getElem?_eq_getElem h0⟩
      obtain ⟨cs0, hc0, rfl, _⟩ := hget 0 it0 h00
      have hc00 := (World.cells?_some hc0).2.2 0 (by omega)
      have hspot : spot = none := by simpa [Addr.add] using World.cell?_spot hc00
      subst hspot
      refine ⟨b, off, rfl, fun k it hk => ?_⟩
      obtain ⟨cs', hc, rfl, ho⟩ := hget k it hk
      have hcc : ∀ i, i < 5 → W.cell? ⟨b, off + k * 5 + i, none⟩ = [Value.int .i64 it.ev.kind, .string it.ev.task, .int .i64 it.ev.time, .string it.ev.body, .slice it.at' it.ev.tags.length it.cap][i]? := fun i hi => by
        have := (World.cells?_some hc).2.2 i hi
        rw [Go.WideShapes.add_plain, Go.WideShapes.add_plain] at this
        exact this
      exact ⟨⟨hcc 0 (by omega), hcc 1 (by omega), hcc 2 (by omega), hcc 3 (by omega), hcc 4 (by omega)⟩, ho⟩
    · have := hw _ (List.mem_cons_self ..)
      unfold reachBytes at this
      omega
end Go.Proofs.YtdjllnhahhjgmaaGreat
