/- Walks and plain facts, in the order in which they lean on one another. -/
import Derived.Test.YtdjllnhahhjgmaaGreatW15
import Derived.Sort.CutIn
import Derived.Test.YtdjllnhahhjgmaaGreatW16
import Derived.Test.YtdjllnhahhjgmaaGreatW17
namespace Go.Proofs.YtdjllnhahhjgmaaGreat
open Go.RowKit Go.Shelf Chron
attribute [local go_sem] Oper.semAt_some
set_option maxRecDepth 100000 in
set_option maxHeartbeats 4000000 in
theorem ltold_any (crash : Bool) (most : Int) (w0 : World) (b : Nat) (w : World) (pv tv ev : Value) (xs0 ys : List Value) (ps : List PS) (i : Nat) (p : PS) (r r2 : Nat) (HW : Hid (WorldOk crash most w0 b w pv tv ev xs0 ys ps)) (hp : Hid (ps[i]? = some p)) (HX : Hid (xs0.length = 4 * r ∧ r + 200 ≤ 500000000)) (HY : Hid (ys.length = 4 * r2 ∧ r2 ≤ 500000000)) :
    Calls Tryz.prog 8 #[.pointer (some ⟨b, 0, none⟩), .pointer (some ⟨p.r.P, 0, none⟩)] w fun e w' => e = .returned (.bool true) ∧ ∃ tv' ev' xs' ys', Hid (WorldOk crash most w0 b w' pv tv' ev' xs' ys' ps) ∧ Hid (xs'.length ≤ 4 * (r + 200) ∧ ∃ r', xs'.length = 4 * r') ∧ Hid (ys'.length = 4 * (r2 + 1)) := by
  have HP := hide0 (HW.out.mem i p hp.out).1
  have HL := hide0 (HW.out.mem i p hp.out).2
  obtain ⟨c0, c1, c2, c3, c4, cz⟩ := five_cells HP.out.blk
  obtain ⟨ea, ec, hevv, hE, hcap, h0⟩ := HP.out.arc.evs.at HP.out.arc.good
  obtain ⟨i0, hi, hz0, hz1, hz2⟩ := info_parts infoEvent5
  have hnil : ∀ (q : Nat) (w' : World), Sem.run Tryz.prog (binOp BinOp.eql 58 (Value.func (Fn.func 34) #[] #[.pointer (some ⟨q, 0, none⟩)]) Value.nilFunc) w' = .ok (.bool false) w' := fun q w' => by kernel_rfl
  have hPlt := (HP.out.lt p.r.P (.inl rfl)).2
  refine (callsIn_wide (n := 0)).1 (callsIn_of_wp_marks Tryz.func8 rfl trivial ?_)
  simp only [Tryz.ntmps8, List.size_toArray, List.length_cons, List.length_nil, Nat.reduceAdd, Nat.reduceSub, Array.replicate_succ, Array.replicate_zero, List.push_toArray, List.append_toArray, List.nil_append, List.cons_append]
  have a0 : (w.alloc (.cells #[.pointer (some ⟨p.r.P, 0, none⟩)] 42)).cell? ⟨p.r.P, 0, none⟩ = some (.pointer (some ⟨p.r.p, 0, none⟩)) := (five_cells ((Below.heap_alloc _ _ _ hPlt).trans HP.out.blk)).1
  gi_wp2_with fail
  refine ⟨trivial, rfl, (callsIn_wide.2 (seq_any p.r.p _)).mono ?_⟩
  rintro e w' ⟨rfl, rfl⟩
  gi_wp2_with fail
  have hB0 : Below w.heap.size w (((((w.alloc (.cells #[.pointer (some ⟨p.r.P, 0, none⟩)] 42)).alloc (.cells #[.pointer (some ⟨p.r.p, 0, none⟩)] 47)).alloc (.cells #[.int .i64 0] 3)).alloc (.cells #[.bool true] 4)).alloc (.cells #[.slice none 0 0] 33)) := (((((Below.refl _ w).alloc (Nat.le_refl _) _).alloc (by simp only [World.size_alloc]; omega) _).alloc (by simp only [World.size_alloc]; omega) _).alloc (by simp only [World.size_alloc]; omega) _).alloc (by simp only [World.size_alloc]; omega) _
  have hbk : ∀ (W : World), W = (((((w.alloc (.cells #[.pointer (some ⟨p.r.P, 0, none⟩)] 42)).alloc (.cells #[.pointer (some ⟨p.r.p, 0, none⟩)] 47)).alloc (.cells #[.int .i64 0] 3)).alloc (.cells #[.bool true] 4)).alloc (.cells #[.slice none 0 0] 33)) →
      W.heap[w.heap.size]? = some (.cells #[.pointer (some ⟨p.r.P, 0, none⟩)] 42) ∧ W.heap[w.heap.size + 1]? = some (.cells #[.pointer (some ⟨p.r.p, 0, none⟩)] 47) ∧ W.heap[w.heap.size + 1 + 1]? = some (.cells #[.int .i64 0] 3) ∧ W.heap[w.heap.size + 1 + 1 + 1]? = some (.cells #[.bool true] 4) ∧ W.heap[w.heap.size + 1 + 1 + 1 + 1]? = some (.cells #[.slice none 0 0] 33) ∧ W.heap.size = w.heap.size + 5 := by
    rintro W rfl
    refine ⟨?_, ?_, ?_, ?_, ?_, by simp⟩
    · rw [Below.heap_alloc _ _ _ (by simp only [World.size_alloc]; omega), Below.heap_alloc _ _ _ (by simp only [World.size_alloc]; omega), Below.heap_alloc _ _ _ (by simp only [World.size_alloc]; omega), Below.heap_alloc _ _ _ (by simp only [World.size_alloc]; omega)]; exact heap_alloc_new w _
    · rw [Below.heap_alloc _ _ _ (by simp only [World.size_alloc]; omega), Below.heap_alloc _ _ _ (by simp only [World.size_alloc]; omega), Below.heap_alloc _ _ _ (by simp only [World.size_alloc]; omega)]
      have h9 := heap_alloc_new (w.alloc (.cells #[.pointer (some ⟨p.r.P, 0, none⟩)] 42)) (.cells #[.pointer (some ⟨p.r.p, 0, none⟩)] 47)
      simp only [World.size_alloc] at h9; exact h9
    · rw [Below.heap_alloc _ _ _ (by simp only [World.size_alloc]; omega), Below.heap_alloc _ _ _ (by simp only [World.size_alloc]; omega)]
      have h9 := heap_alloc_new ((w.alloc (.cells #[.pointer (some ⟨p.r.P, 0, none⟩)] 42)).alloc (.cells #[.pointer (some ⟨p.r.p, 0, none⟩)] 47)) (.cells #[.int .i64 0] 3)
      simp only [World.size_alloc] at h9; exact h9
    · rw [Below.heap_alloc _ _ _ (by simp only [World.size_alloc]; omega)]
      have h9 := heap_alloc_new (((w.alloc (.cells #[.pointer (some ⟨p.r.P, 0, none⟩)] 42)).alloc (.cells #[.pointer (some ⟨p.r.p, 0, none⟩)] 47)).alloc (.cells #[.int .i64 0] 3)) (.cells #[.bool true] 4)
      simp only [World.size_alloc] at h9; exact h9
    · have h9 := heap_alloc_new ((((w.alloc (.cells #[.pointer (some ⟨p.r.P, 0, none⟩)] 42)).alloc (.cells #[.pointer (some ⟨p.r.p, 0, none⟩)] 47)).alloc (.cells #[.int .i64 0] 3)).alloc (.cells #[.bool true] 4)) (.cells #[.slice none 0 0] 33)
      simp only [World.size_alloc] at h9; exact h9
  obtain ⟨k0, k1, k2, k3, k4, hsz0⟩ := hbk _ rfl
  clear hbk a0
  generalize (((((w.alloc (.cells #[.pointer (some ⟨p.r.P, 0, none⟩)] 42)).alloc (.cells #[.pointer (some ⟨p.r.p, 0, none⟩)] 47)).alloc (.cells #[.int .i64 0] 3)).alloc (.cells #[.bool true] 4)).alloc (.cells #[.slice none 0 0] 33)) = W0 at *
  have hP0 := HP.out.below hB0
  have hbox : W0.cell? ⟨w.heap.size + 1, 0, none⟩ = some (.pointer (some ⟨p.r.p, 0, none⟩)) := by simp only [World.cell?, k1]; rfl
  have hab := hP0.arc.blk
  rw [hevv] at hab
  have hlt := HP.out.arc.lt
  refine wp_tells (gf := 34) (lb := #[.pointer (some ⟨w.heap.size + 1, 0, none⟩)]) rfl (enters_of Tryz.func34 (by kernel_rfl) rfl)
    (tells_any p.r.p (w.heap.size + 1) p.r.fv ea ec p.r.js W0 hbox hab (hE.below hB0 (Nat.le_refl _)) h0 HP.out.arc.good HP.out.arc.few) (Below.refl _ _) (fun _ => rfl) Kept.trans (fun W l o o' _ hl ho => Kept.put o' hl ho)
    (fun c xs m W => c = none ∧ OutAt (w.heap.size + 1 + 1 + 1 + 1) m w W (toldEvs xs) ∧ W.heap[w.heap.size]? = some (.cells #[.pointer (some ⟨p.r.P, 0, none⟩)] 42) ∧ W.heap[w.heap.size + 1 + 1]? = some (.cells #[.int .i64 (xs.length : Int)] 3) ∧ W.heap[w.heap.size + 1 + 1 + 1]? = some (.cells #[.bool true] 4))
    (fun xs x a' W => ∃ m E, OutAt (w.heap.size + 1 + 1 + 1 + 1) m w W (toldEvs xs) ∧ W.heap[w.heap.size]? = some (.cells #[.pointer (some ⟨p.r.P, 0, none⟩)] 42) ∧ W.heap[w.heap.size + 1 + 1]? = some (.cells #[.int .i64 (xs.length : Int)] 3) ∧ W.heap[w.heap.size + 1 + 1 + 1]? = some (.cells #[.bool true] 4) ∧ ownTold x m W ∧ someTold (evs p.r.js) (xs ++ [x]) ∧ w.heap.size + 5 ≤ E ∧ W.heap[E]? = some (.cells #[.int .i64 x.it.ev.kind, .string x.it.ev.task, .int .i64 x.it.ev.time, .string x.it.ev.body, .slice x.it.at' x.it.ev.tags.length x.it.cap] 38) ∧
      a' = { tmps := #[.pointer (some ⟨b, 0, none⟩), .pointer (some ⟨p.r.P, 0, none⟩), undef, .pointer (some ⟨w.heap.size, 0, none⟩), .bool false, (.func (.func 34) #[] #[.pointer (some ⟨w.heap.size + 1, 0, none⟩)]), .pointer (some ⟨w.heap.size + 1 + 1, 0, none⟩), .pointer (some ⟨w.heap.size + 1 + 1 + 1, 0, none⟩), .pointer (some ⟨w.heap.size + 1 + 1 + 1 + 1, 0, none⟩), .int .i64 x.i, .pointer (some ⟨E, 0, none⟩), .pointer (some ⟨p.r.P, 0, none⟩), .pointer (some ⟨p.r.P, 0, none⟩), .pointer (some ⟨p.r.P, 0, none⟩), .pointer (some ⟨p.r.p, 0, none⟩), (.func (.func 34) #[] #[.pointer (some ⟨w.heap.size + 1, 0, none⟩)]), (.func (.func 34) #[] #[.pointer (some ⟨w.heap.size + 1, 0, none⟩)]), .bool false, (.func (.func 34) #[] #[.pointer (some ⟨w.heap.size + 1, 0, none⟩)]), .int .i64 x.i, x.it.val, undef, undef, undef, undef, undef, undef, undef, undef, undef, undef, undef, undef, undef, undef, undef, undef, undef, undef, undef, undef, undef, undef, undef, undef, undef, undef, undef, undef, undef, undef, undef, undef, undef, undef, undef, undef, undef, undef, undef, undef, undef, undef, undef, undef, undef, undef], defers := [] })
    ?hI ?hAx ?start ?assign ?body ?done ?stop
  case hI =>
    rintro c xs m W W' row ⟨h1, h2, h3, h4, h5⟩ hg hr
    have hr' : ∀ r, row = some r → ∃ o : Obj, W.heap[r]? = some o ∧ o.isCells = false := fun r e => (hr r e).2
    exact ⟨h1, OutAt.abide (L := W0.heap.size) (by omega) W W' row h2 hg hr, (abide_block hg hr' h3).trans h3, (abide_block hg hr' h4).trans h4, (abide_block hg hr' h5).trans h5⟩
  case hAx =>
    rintro xs x a' W W' row ⟨m, E, h1, h2, h3, h4, h5, h6, h7, h8, h9⟩ hg hr
    have hr' : ∀ r, row = some r → ∃ o : Obj, W.heap[r]? = some o ∧ o.isCells = false := fun r e => (hr r e).2
    exact ⟨m, E, OutAt.abide (L := W0.heap.size) (by omega) W W' row h1 hg hr, (abide_block hg hr' h2).trans h2, (abide_block hg hr' h3).trans h3, (abide_block hg hr' h4).trans h4, own_abide hg hr' h5, h6, h7, (abide_block hg hr' h8).trans h8, h9⟩
  case start =>
    exact ⟨rfl, ⟨none, 0, [], k4, ⟨World.ownsRow_nil _ _ _ _, (fun _ h => by cases h), (fun _ h => by simp [tagBs] at h), by simp [tagBs]⟩, rfl, fun q hq => by simp [Value.ownBlock, tagBs] at hq, hB0, by omega, by omega⟩, k0, k2, k3⟩
  case assign =>
    rintro l xs x m h W K ⟨_, hO, j0, j2, j3⟩ hwh hmh hhW hH hSp hK
    obtain ⟨xi, ⟨⟨k, t, mm, bd, ts⟩, ia, ic⟩⟩ := x
    simp only [encTold, Item.val] at hK ⊢
    gi_wp2
    have hga : W.grownBy (W.alloc (.cells #[.int .i64 k, .string t, .int .i64 mm, .string bd, .slice ia ts.length ic] 38)) none := ⟨rfl, rfl, rfl, by simp, fun q hq _ => Below.heap_alloc _ _ _ hq⟩
    have hbl : ∀ {q : Nat} {o : Obj}, W.heap[q]? = some o → (W.alloc (.cells #[.int .i64 k, .string t, .int .i64 mm, .string bd, .slice ia ts.length ic] 38)).heap[q]? = some o := fun hq => (Below.heap_alloc _ _ _ (Array.getElem?_eq_some_iff.1 hq).1).trans hq
    refine hK _ _ ⟨by simp, fun q ob _ hob _ => hbl hob⟩ (Kept.below ((Below.refl _ _).alloc (Nat.le_refl _) _)) ⟨m, W.heap.size, OutAt.abide (L := W0.heap.size) (by omega) W _ none hO hga (fun r e => by cases e), hbl j0, hbl j2, hbl j3, ?_, hSp, by omega, heap_alloc_new W _, rfl⟩
    have h9 : W.ownsRow m 9 1 (.slice ia ts.length ic) ts.length (ts.map Value.string) := own_mono hH hmh
    exact h9.alloc _
  case body =>
    rintro l xs x a' W ⟨m, E, hO, j0, j2, j3, hH, hSp, hE5, hEv, rfl⟩
    obtain ⟨xi, ⟨⟨k, t, mm, bd, ts⟩, ia, ic⟩⟩ := x
    simp only at hEv
    obtain ⟨e0, e1, e2, e3, e4, ez⟩ := res_cells hEv
    obtain ⟨va, vc, js, o1, o2, o3, o4, o5, o6, o7⟩ := hO
    have cO : W.cell? ⟨w.heap.size + 1 + 1 + 1 + 1, 0, none⟩ = some (.slice va js.length vc) := by simp only [World.cell?, o1]; rfl
    have cP : W.cell? ⟨w.heap.size, 0, none⟩ = some (.pointer (some ⟨p.r.P, 0, none⟩)) := by simp only [World.cell?, j0]; rfl
    have cN : W.cell? ⟨w.heap.size + 1 + 1, 0, none⟩ = some (.int .i64 (xs.length : Int)) := by simp only [World.cell?, j2]; rfl
    have cK : W.cell? ⟨w.heap.size + 1 + 1 + 1, 0, none⟩ = some (.bool true) := by simp only [World.cell?, j3]; rfl
    have fK : W.frozen? ⟨w.heap.size + 1 + 1 + 1, 0, none⟩ = false := by simp [World.frozen?, j3]
    have fN : W.frozen? ⟨w.heap.size + 1 + 1, 0, none⟩ = false := by simp [World.frozen?, j2]
    have hPW := HP.out.below o5
    obtain ⟨l0, l1, l2, l3, l4, lz⟩ := five_cells hPW.blk
    have HXI : Hid (xi = xs.length) := hSp.2.2 xs.length ⟨xi, ⟨⟨k, t, mm, bd, ts⟩, ia, ic⟩⟩ (by simp)
    have hxi := HXI.out
    subst hxi
    obtain ⟨la, lc, hlv, hlcap, hLE⟩ := hPW.evsAt2 (HW.out.args.below o5 HW.out.args.size)
    rw [hlv] at l1
    have hjs : (evs p.r.js).length = p.r.its.length := by have := congrArg List.length HL.out.same; simpa [evs] using this.symm
    have hxl : xs.length < p.r.its.length := by have := hSp.2.1; simp at this; omega
    have hxli : (xs.length : Int) < (p.r.its.length : Int) := by omega
    clear l0 l2 l3 l4 lz hE h0 c0 c1 c2 c3 c4 cz
    have hmx : Tryz.prog.follows .mixedOrders = true := by kernel_rfl
    gi_wp2_with fail
    gi_cut [] from 21 (fun wx => Hid (Below W.heap.size W wx))
    case first =>
      --[
      clear hnil hi hz0 hz1 hz2 hP0 hab hbox k0 k1 k2 k3 k4 hH o1 o2 o3 o4 o5 o6 o7 cO fN j0 j2 j3 hEv ez hlt hB0 hsz0 hSp hLE hPW e0 e1 e2 e3 e4 HW HX HY HP HL hp hevv hcap hlv hlcap hjs hE5
      gi_region_o
      all_goals
        gi_wp2_with fail
        gi_meet
        case rel => first | exact hide0 (same_set cK) | exact hide0 (same_set cK).drew | exact hide0 ((Below.refl _ _).drew.trans (same_set cK))
      --]
    case rest =>
      obtain ⟨W2, hW2⟩ : ∃ W2, W2 = wc := ⟨_, rfl⟩
      subst hW2
      have hgc := grown_below hcut.out (Nat.le_refl _)
      have hkf : Hid (KeepsFrom (w.heap.size + 5) W W2 ∧ Below w.heap.size W W2) := ⟨KeepsFrom.of_grownBy hgc (fun j e => by cases e), hcut.out.mono o5.size⟩
      have hsW := hcut.out.size
      replace o1 := grown_at hgc o1
      replace j0 := grown_at hgc j0
      replace j2 := grown_at hgc j2
      replace j3 := grown_at hgc j3
      replace hEv := grown_at hgc hEv
      replace o2 := o2.abide hgc (fun r e => by cases e)
      replace o5 := o5.trans (hcut.out.mono o5.size)
      replace hH : W2.ownsRow m 9 1 (.slice ia ts.length ic) ts.length (ts.map Value.string) := own_abide hgc (fun r e => by cases e) hH
      replace hLE := hLE.below hcut.out (Nat.le_refl _)
      replace l1 := (hcut.out.cell (p := ⟨p.r.P, 1, none⟩) (World.block_lt_of_cell? W _ l1)).trans l1
      clear e0 e1 e2 e3 e4 ez cO cP cN cK fK fN hgc hcut hPW
      obtain ⟨e0, e1, e2, e3, e4, ez⟩ := res_cells hEv
      have cO : W2.cell? ⟨w.heap.size + 1 + 1 + 1 + 1, 0, none⟩ = some (.slice va js.length vc) := by simp only [World.cell?, o1]; rfl
      have cP : W2.cell? ⟨w.heap.size, 0, none⟩ = some (.pointer (some ⟨p.r.P, 0, none⟩)) := by simp only [World.cell?, j0]; rfl
      have cN : W2.cell? ⟨w.heap.size + 1 + 1, 0, none⟩ = some (.int .i64 (xs.length : Int)) := by simp only [World.cell?, j2]; rfl
      have cK : W2.cell? ⟨w.heap.size + 1 + 1 + 1, 0, none⟩ = some (.bool true) := by simp only [World.cell?, j3]; rfl
      have fK : W2.frozen? ⟨w.heap.size + 1 + 1 + 1, 0, none⟩ = false := by simp [World.frozen?, j3]
      have fN : W2.frozen? ⟨w.heap.size + 1 + 1, 0, none⟩ = false := by simp [World.frozen?, j2]
      have hev : (evs p.r.its)[xs.length]? = some ⟨k, t, mm, bd, ts⟩ := by
        have h9 := congrArg (fun l => l[xs.length]?) hSp.1
        rw [HL.out.same]
        simp [toldEvs] at h9
        simpa using h9.symm
      obtain ⟨lb, lo, ta, tc, rfl, f0, f1, f2, f3, f4, hSame⟩ := round_same (K := w.heap.size + 1 + 1 + 1) hLE hev hH cK fK
      clear hev
      gi_upto_if 36 with fail
      gi_cut [] from 21 (fun wx => Hid (Below W2.heap.size W2 wx))
      case first =>
        --[
        clear hnil hi hz0 hz1 hz2 hP0 hab hbox k0 k1 k2 k3 k4 hH o1 o2 o3 o4 o5 o6 o7 cO fN j0 j2 j3 hEv ez hlt hB0 hsz0 hSp hLE HW HX HY HP HL hp hevv hcap hlv hlcap hjs hE5 hkf hsW
        gi_wp2_with fail
        gi_region_with_o (refine ⟨trivial, rfl, ?_⟩; gi_at_call 19; refine (CallsIn.inRound l (callsIn_wide.2 hSame)).mono ?_; rintro e w1 ⟨rfl, HB1, cK1, fK1⟩)
        all_goals
          gi_wp2_with fail
          gi_meet
          case rel => exact hide0 (HB1.out.trans (same_set cK1))
        --]
      case rest =>
        have hgd := grown_below hcut.out (Nat.le_refl _)
        have hkf2 : Hid (KeepsFrom (w.heap.size + 5) W wc ∧ Below w.heap.size W wc) := ⟨hkf.out.1.trans (KeepsFrom.of_grownBy hgd (fun j e => by cases e)), hkf.out.2.trans (hcut.out.mono (by have := o5.size; omega))⟩
        have hsW2 := hcut.out.size
        replace o1 := grown_at hgd o1
        replace j0 := grown_at hgd j0
        replace j2 := grown_at hgd j2
        replace j3 := grown_at hgd j3
        replace hEv := grown_at hgd hEv
        replace o2 := o2.abide hgd (fun r e => by cases e)
        replace o5 := o5.trans (hcut.out.mono o5.size)
        replace hH : wc.ownsRow m 9 1 (.slice ia ts.length ic) ts.length (ts.map Value.string) := own_abide hgd (fun r e => by cases e) hH
        clear e0 e1 e2 e3 e4 ez cO cP cN cK fK fN hgd hcut l1 hLE f0 f1 f2 f3 f4 hSame hkf
        obtain ⟨e0, e1, e2, e3, e4, ez⟩ := res_cells hEv
        have cO := (one_cell o1).1
        have hNew := five_new wc ⟨⟨k, t, mm, bd, ts⟩, ia, ic⟩
        have hrow := o2.row
        have hfew := HP.out.arc.few
        have hjl : js.length = xs.length := by have := congrArg List.length o3; simpa [evs, toldEvs] using this
        have hjs2 : js.length < 200 := by simp [evs] at hjs; omega
        have hBs := (Array.getElem?_eq_some_iff.1 o1).1
        have hbase : w.heap.size + 1 + 1 + 1 + 1 + 1 ≤ (wc.alloc (.cells #[.int .i64 k, .string t, .int .i64 mm, .string bd, .slice ia ts.length ic] 38)).heap.size := by simp; omega
        clear hjl
        gi_wp2_with (gi_at_builtin; refine wpListIn_append_lies _ rfl _ _ 33 rfl (w.heap.size + 1 + 1 + 1 + 1 + 1) 38 i0 (.agg #[.int .i64 0, .string ⟨#[]⟩, .int .i64 0, .string ⟨#[]⟩, .slice none 0 0]) 5 72 Tryz.underlying33 hi hz0 hz1 hz2 rfl (by decide) (.slice va js.length vc) js.length (fives js) rfl (hrow.alloc _) ⟨wc.heap.size, 0, none⟩ 1 1 (Item.five ⟨⟨k, t, mm, bd, ts⟩, ia, ic⟩) rfl rfl hNew (five_one _) Nat.one_pos (by unfold maxLen; omega) (by omega) hbase _ rfl ?_; intro g gcap wa hown hgr hat hlt2; obtain ⟨cB, czB⟩ := out_box o1 hrow hgr; obtain ⟨cN, fN⟩ := one_cell (low_box (q := w.heap.size + 1 + 1) (by omega) hrow hgr (by omega) j2))
        obtain ⟨F, hF, q1, q2, q3, q4, q5⟩ := OutAt.push2 (L := w.heap.size + 5) (Nb := w.heap.size + 1 + 1) (u := .int .i64 (xs.length : Int)) (v := .int .i64 (wrap64 ((xs.length : Int) + 1))) (i := ⟨⟨k, t, mm, bd, ts⟩, ia, ic⟩) o1 o2 o4 o5 o6 o7 hH hgr hown hat (by omega) ⟨_, j2⟩
        rw [← hF]
        have he : toldEvs (xs ++ [⟨xs.length, ⟨⟨k, t, mm, bd, ts⟩, ia, ic⟩⟩]) = evs js ++ [⟨k, t, mm, bd, ts⟩] := by rw [o3]; simp [toldEvs]
        refine ⟨hkf2.out.1.trans q2, Kept.far (hkf2.out.2.trans q3) (fun q hq => (hlt q (.inr (.inr (.inl (by rw [hevv]; exact hq))))).2) (fun q hq => (hlt q (.inr (.inr (.inr hq)))).2), rfl, ?_, (q4 _ (by omega) (by omega)).trans j0, ?_, (q4 _ (by omega) (by omega)).trans j3⟩
        · rw [he]; exact q1
        · rw [show (((xs ++ [(⟨xs.length, ⟨⟨k, t, mm, bd, ts⟩, ia, ic⟩⟩ : Told)]).length : Nat) : Int) = (xs.length : Int) + 1 by simp]
          have h9 : wrap64 ((xs.length : Int) + 1) = (xs.length : Int) + 1 := by have := HP.out.arc.few; have h8 := hjs; simp [evs] at h8; unfold wrap64; omega
          rw [← h9]
          exact q5 _ j2
  case done =>
    rintro D xs m W hD hS hm ⟨_, hO, j0, j2, j3⟩ hdef
    obtain ⟨va, vc, js, o1, o2, o3, o4, o5, o6, o7⟩ := hO
    have cO := (one_cell o1).1
    have HW1 := hide0 (HW.out.below o5)
    have hjl : js.length = p.r.its.length := by
      have h1 := congrArg List.length o3
      have h2 := congrArg List.length hS.1
      have h3 := congrArg List.length HL.out.same
      simp [evs, toldEvs] at h1 h2 h3; omega
    have hfew := HP.out.arc.few
    have hxl : xs.length = p.r.its.length := by
      have h1 := congrArg List.length o3
      simp [evs, toldEvs] at h1; omega
    have h4 : Hid (∀ it ∈ js, it.ev.tags.length ≤ 4) := by
      intro it hit
      have h1 : it.ev ∈ evs js := List.mem_map_of_mem hit
      rw [o3, hS.1] at h1
      obtain ⟨it2, hi2, e2⟩ := List.mem_map.1 h1
      rw [← e2]
      exact (is_known (HP.out.arc.good it2 hi2)).few
    have hjs3 : js.length ≤ 200 := by
      have h3 := congrArg List.length HL.out.same
      simp [evs] at h3; omega
    have hlow : ∀ q, Value.ownBlock (.slice va js.length vc) = some q ∨ q ∈ tagBs js → w.heap.size + 5 ≤ q := fun q hq => by
      rcases hq with hq | hq
      · exact (o2.row.lt q hq).1
      · exact (o2.tag_lt hq).1
    have hK := book_keep (N := w.heap.size + 1 + 1 + 1 + 1 + 1) (r := r) (r2 := r2) HW1.out o2 (by have := HW.out.args.size; omega) (fun q hq => ⟨HW.out.book.clear_new (by have := hlow q hq; omega), fun e => by have := (HW.out.prow.lt q e).2; have := hlow q hq; omega, fun j x hx hf => by have := ((HW.out.mem j x hx).1.lt q hf).2; have := hlow q hq; omega⟩) hjs3 h4.out (by have := HX.out; omega) HY.out
    have hKP : Calls Tryz.prog 22 #[.pointer (some ⟨b, 1, none⟩), .slice va js.length vc] W.drew fun e w' => e = .returned (.tuple #[]) ∧ Hid (∃ tv' ev' xs' ys', WorldOk crash most w0 b w' pv tv' ev' xs' ys' ps ∧ xs'.length = 4 * (r + js.length) ∧ ys'.length = 4 * (r2 + 1) ∧ Clear b tv' ev' xs' ys' D) ∧ w'.cell? ⟨w.heap.size, 0, none⟩ = some (.pointer (some ⟨p.r.P, 0, none⟩)) ∧ w'.cell? ⟨w.heap.size + 1 + 1, 0, none⟩ = some (.int .i64 (xs.length : Int)) ∧ w'.cell? ⟨w.heap.size + 1 + 1 + 1, 0, none⟩ = some (.bool true) ∧ w'.cell? ⟨p.r.P, 1, none⟩ = some p.r.lv ∧ w'.heap[D]? = some (.deferred (some [])) := by
      refine hK.mono ?_
      rintro e w' ⟨rfl, tv', ev', xs', ys', h1, h2, h3⟩
      have hsame : ∀ q, w.heap.size ≤ q → q < w.heap.size + 5 → w'.heap[q]? = W.heap[q]? := fun q ha hb => (h3.out.2 q (by have := (Array.getElem?_eq_some_iff.1 o1).1; omega) (HW.out.book.clear_new ha) (fun e => by have := hlow q (.inl e); omega) (fun e => by have := hlow q (.inr e); omega)).1
      have hDD := h3.out.2 D (Array.getElem?_eq_some_iff.1 hdef).1 (HW.out.book.clear_new (by omega)) (fun e => by have := own_isC o2.row e hdef; cases this) (fun e => by
        obtain ⟨it, hi2, e2⟩ := tagBs_mem.1 e
        have := own_isC (o2.tags it hi2) e2 hdef; cases this)
      exact ⟨rfl, ⟨tv', ev', xs', ys', h1.out, h2.out.1, h2.out.2, hDD.2⟩, (one_cell ((hsame _ (by omega) (by omega)).trans j0)).1, (one_cell ((hsame _ (by omega) (by omega)).trans j2)).1, (one_cell ((hsame _ (by omega) (by omega)).trans j3)).1, (five_cells (h1.out.mem i p hp.out).1.blk).2.1, hDD.1.trans hdef⟩
    have hxli : (xs.length : Int) = (p.r.its.length : Int) := by omega
    obtain ⟨la, lc, hlv, hlcap⟩ : ∃ a c, p.r.lv = .slice a p.r.its.length c ∧ p.r.its.length ≤ c := by
      rcases HP.out.row.2 with ⟨e1, e2⟩ | ⟨g, cap, _, e1, _, _, e3, _⟩
      · exact ⟨none, 0, by rw [e1, e2], by omega⟩
      · exact ⟨_, cap, e1, e3⟩
    rw [hlv] at hKP
    have HJ := hide0 (And.intro hjs3 (And.intro hS (And.intro hD (And.intro o5 o2))))
    have HLOW := hide0 hlow
    have hmx : Tryz.prog.follows .mixedOrders = true := by kernel_rfl
    clear hK hlow h4 HW1 o1 o2 o4 o5 o3 hjs3 hjl j0 j2 j3 k0 k1 k2 k3 k4 hP0 hbox hab hE h0 hlt hB0 c0 c1 c2 c3 c4 cz hnil hi hz0 hz1 hz2 hS hD hdef hm o6 o7
    gi_wp2_with fail
    first | gi_region_with_o (refine ⟨trivial, rfl, ?_⟩; gi_at_call 22; refine (callsIn_wide.2 hKP).mono ?_; rintro e w1 ⟨rfl, HZ, g0, g1, g2, g3, g4⟩) | fail
    all_goals gi_wp2_with fail
    all_goals gi_region_o
    all_goals gi_wp2_with fail
    all_goals
      refine ⟨by simp, .inl ⟨_, _, rfl, run_takeDeferred (by exact g4), ?_⟩⟩
      obtain ⟨tv', ev', xs', ys', z1, z2, z3, z4⟩ := HZ.out
      refine ⟨_, results_tmp rfl _ _ _, rfl, tv', ev', xs', ys', ?_, ⟨by have := HJ.out.1; omega, _, z2⟩, z3⟩
      first
        | exact hide0 ((z1.below ((Below.refl _ w1).drew)).other (grownBy_putObj' _ D (.deferred none)) (by exact g4) rfl z4 (by have := HW.out.args.size; have := HJ.out.2.2.1; omega))
        | exact hide0 (z1.other (grownBy_putObj' _ D (.deferred none)) (by exact g4) rfl z4 (by have := HW.out.args.size; have := HJ.out.2.2.1; omega))
  case stop =>
    rintro D c xs m W hD hS hm ⟨h, _⟩ _
    cases h
end Go.Proofs.YtdjllnhahhjgmaaGreat
namespace Go.Proofs.YtdjllnhahhjgmaaGreat
open Go.RowKit Chron
structure OpIt where
  kind : Int
  ar : Int
  n : Int
  at' : Option Addr
  cap : Nat
  ls : List Item
def OpIt.cells (o : OpIt) : List Value := [.int .i64 o.kind, .int .i64 o.ar, .int .i64 o.n, .slice o.at' o.ls.length o.cap]
structure OpOk (W : World) (o : OpIt) : Prop where
  ar : -9223372036854775808 ≤ o.ar ∧ o.ar < 9223372036854775808
  n : -9223372036854775808 ≤ o.n ∧ o.n < 9223372036854775808
  evs : EvsAt W o.at' o.ls
  few : o.ls.length ≤ 1048576
structure OpCells (W : World) (b off : Nat) (o : OpIt) : Prop where
  c0 : W.cell? ⟨b, off, none⟩ = some (.int .i64 o.kind)
  c1 : W.cell? ⟨b, off + 1, none⟩ = some (.int .i64 o.ar)
  c2 : W.cell? ⟨b, off + 2, none⟩ = some (.int .i64 o.n)
  c3 : W.cell? ⟨b, off + 3, none⟩ = some (.slice o.at' o.ls.length o.cap)
def OpsAt (W : World) (a : Option Addr) (l : List OpIt) : Prop := 0 < l.length → ∃ b off, a = some ⟨b, off, none⟩ ∧ ∀ (k : Nat) (o : OpIt), l[k]? = some o → OpCells W b (off + k * 4) o ∧ OpOk W o
theorem EvsAt.args {b : Nat} {w0 w : World} {a : Option Addr} {ls : List Item} (h : EvsAt w0 a ls) (ha : Args b w0 w) : EvsAt w a ls := by
  intro h0
  obtain ⟨q, off, rfl, hc⟩ := h h0
  refine ⟨q, off, rfl, fun k i hi => ?_⟩
  obtain ⟨c, ok⟩ := hc k i hi
  have hne : q ≠ b := fun e => by have h1 := c.c1; rw [e] at h1; exact ha.text _ _ h1
  have hB := ha.block q (World.block_lt_of_cell? w0 _ c.c0) hne
  exact ⟨⟨(World.cell?_of_block hB).trans c.c0, (World.cell?_of_block hB).trans c.c1, (World.cell?_of_block hB).trans c.c2, (World.cell?_of_block hB).trans c.c3, (World.cell?_of_block hB).trans c.c4⟩, ok.args ha⟩
/- what is read of a list that lay there lies there -/
theorem EvsAt.old {w0 : World} {a : Option Addr} {ls : List Item} (h : EvsAt w0 a ls) : (∀ it ∈ ls, ItemOk w0 it ∧ ∀ q off, 0 < it.ev.tags.length → it.at' = some ⟨q, off, none⟩ → q < w0.heap.size) ∧ ∀ q off, 0 < ls.length → a = some ⟨q, off, none⟩ → q < w0.heap.size := by
  refine ⟨fun it hi => ?_, fun q off h0 e => ?_⟩
  · obtain ⟨k, hk⟩ := List.getElem?_of_mem hi
    have h0 : 0 < ls.length := by have := (List.getElem?_eq_some_iff.1 hk).1; omega
    obtain ⟨q0, o0, _, hc⟩ := h h0
    obtain ⟨_, ok⟩ := hc k it hk
    refine ⟨ok, fun q off ht e => ?_⟩
    obtain ⟨q1, o1, e1, hx⟩ := ok.tags ht
    rw [e] at e1
    cases e1
    exact World.block_lt_of_cell? w0 _ (hx 0 ht)
  · obtain ⟨q0, o0, e0, hc⟩ := h h0
    rw [e] at e0
    cases e0
    exact World.block_lt_of_cell? w0 _ (hc 0 ls[0] (List.getElem?_eq_getElem h0)).1.c0
/- the world after n steps -/
def Stood (w0 : World) (b : Nat) (n : Nat) (W : World) : Prop := ∃ pv tv ev xs ys ps r r2, WorldOk false 6 w0 b W pv tv ev xs ys ps ∧ xs.length = 4 * r ∧ ys.length = 4 * r2 ∧ r + 200 * ps.length ≤ 400 * n ∧ r2 + ps.length ≤ 2 * n ∧ (0 < n → 0 < ps.length)
theorem Stood.below {w0 W W' : World} {b n : Nat} (h : Stood w0 b n W) (hb : Below W.heap.size W W') : Stood w0 b n W' := by
  obtain ⟨pv, tv, ev, xs, ys, ps, r, r2, h1, h2⟩ := h
  exact ⟨pv, tv, ev, xs, ys, ps, r, r2, h1.below hb, h2⟩
end Go.Proofs.YtdjllnhahhjgmaaGreat
namespace Go.Proofs.YtdjllnhahhjgmaaGreat
open Go.RowKit Go.Shelf Chron
set_option maxRecDepth 100000 in
theorem lpick_any (c : Int) (n : Nat) (w : World) (hc : -9223372036854775808 ≤ c ∧ c < 9223372036854775808) (hn : 0 < n ∧ n ≤ 1000000000) :
    Calls Tryz.prog 11 #[.int .i64 c, .int .i64 (n : Int)] w fun e w' => ∃ k : Nat, e = .returned (.int .i64 (k : Int)) ∧ k < n ∧ w' = w := by
  have hn0 : ¬ (n : Int) = 0 := by omega
  by_cases h : c < 0
  · have h1 : wrap64 (c + 1) = c + 1 := by unfold wrap64; omega
    have h2 : wrap64 (-(c + 1)) = -(c + 1) := by unfold wrap64; omega
    go_enter Tryz.func11, Tryz.ntmps11
    go_wp2
    go_ret
    have e : -((c + 1).tmod (n : Int)) = (-(c + 1)) % (n : Int) := by rw [← Int.neg_tmod, Int.tmod_eq_emod_of_nonneg (by omega)]
    have e1 := Int.emod_nonneg (-(c + 1)) hn0
    have e2 := Int.emod_lt_of_pos (-(c + 1)) (b := (n : Int)) (by omega)
    refine ⟨((-(c + 1)) % (n : Int)).toNat, ?_, by omega, rfl⟩
    show Ending.returned (Value.int .i64 (-((c + 1).tmod (n : Int)))) = _
    rw [e, Int.toNat_of_nonneg e1]
  · go_enter Tryz.func11, Tryz.ntmps11
    go_wp2
    go_ret
    have e1 := Int.emod_nonneg c hn0
    have e2 := Int.emod_lt_of_pos c (b := (n : Int)) (by omega)
    refine ⟨(c % (n : Int)).toNat, ?_, by omega, rfl⟩
    show Ending.returned (Value.int .i64 (c % (n : Int))) = _
    rw [Int.toNat_of_nonneg e1]
theorem Stood.next {w0 W : World} {b n : Nat} (h : Stood w0 b n W) (h0 : 0 < n) : Stood w0 b (n + 1) W := by
  obtain ⟨pv, tv, ev, xs, ys, ps, r, r2, h1, h2, h3, h4, h5, h6⟩ := h
  exact ⟨pv, tv, ev, xs, ys, ps, r, r2, h1, h2, h3, by omega, by omega, fun _ => h6 h0⟩
set_option maxRecDepth 100000 in
set_option maxHeartbeats 1000000 in
theorem step_any (w0 : World) (b : Nat) (w : World) (n : Nat) (kind ar nn : Int) (a : Option Addr) (cap : Nat) (ls : List Item) (HS : Hid (Stood w0 b n w)) (hn : n ≤ 1100000) (hk : kind = 1 ∨ 0 < n) (har : -9223372036854775808 ≤ ar ∧ ar < 9223372036854775808) (hnn : -9223372036854775808 ≤ nn ∧ nn < 9223372036854775808)
    (hE : Hid (EvsAt w0 a ls)) (hl : ls.length ≤ 1048576) :
    Calls Tryz.prog 6 #[.pointer (some ⟨b, 0, none⟩), .agg #[.int .i64 kind, .int .i64 ar, .int .i64 nn, .slice a ls.length cap]] w fun e w' => e = .returned (.bool true) ∧ Hid (Stood w0 b (n + 1) w') := by
  go_enter Tryz.func6, Tryz.ntmps6
  go_wp2_with fail
  have hb1 : Below w.heap.size w (w.alloc (.cells #[.int .i64 kind, .int .i64 ar, .int .i64 nn, .slice a ls.length cap] 35)) := (Below.refl _ w).alloc (Nat.le_refl _) _
  have HO := hide0 (heap_alloc_new w (.cells #[.int .i64 kind, .int .i64 ar, .int .i64 nn, .slice a ls.length cap] 35))
  have hqs : w.heap.size < (w.alloc (.cells #[.int .i64 kind, .int .i64 ar, .int .i64 nn, .slice a ls.length cap] 35)).heap.size := by simp
  generalize w.alloc (.cells #[.int .i64 kind, .int .i64 ar, .int .i64 nn, .slice a ls.length cap] 35) = w1 at hb1 HO hqs ⊢
  obtain ⟨pv, tv, ev, xs, ys, ps, r, r2, hW, hx, hy, hr, hr2, hps⟩ := HS.out.below hb1
  generalize w.heap.size = q at HO hqs ⊢
  have HW := hide0 hW
  have HR := hide0 (And.intro hx (And.intro hy (And.intro hr hr2)))
  have c3 : w1.cell? ⟨b, 3, none⟩ = some (.int .i64 6) := by have h9 := hW.book.blk; simp only [World.cell?, h9]; rfl
  have c0 : w1.cell? ⟨b, 0, none⟩ = some pv := by have h9 := hW.book.blk; simp only [World.cell?, h9]; rfl
  have o0 : w1.cell? ⟨q, 0, none⟩ = some (.int .i64 kind) := by have h9 := HO.out; simp only [World.cell?, h9]; rfl
  have o1 : w1.cell? ⟨q, 1, none⟩ = some (.int .i64 ar) := by have h9 := HO.out; simp only [World.cell?, h9]; rfl
  have o2 : w1.cell? ⟨q, 2, none⟩ = some (.int .i64 nn) := by have h9 := HO.out; simp only [World.cell?, h9]; rfl
  have o3 : w1.cell? ⟨q, 3, none⟩ = some (.slice a ls.length cap) := by have h9 := HO.out; simp only [World.cell?, h9]; rfl
  have hblt := hW.book.lt
  by_cases h1 : kind < 1
  · have HN := hide0 (show Stood w0 b (n + 1) w1 from Stood.next ⟨pv, tv, ev, xs, ys, ps, r, r2, hW, hx, hy, hr, hr2, hps⟩ (by omega))
    clear hW hx hy hr hr2 hps HS hb1
    go_cut [20] (fun v wx => v = .bool true ∧ wx = w1.drew)
    case first =>
      go_region
      all_goals
        go_wp2_with fail
        go_meet
        case rel => exact ⟨rfl, rfl⟩
    case rest =>
      obtain ⟨rfl, rfl⟩ := hcut
      go_wp2
      go_ret
      exact ⟨rfl, hide0 (HN.out.below (Below.refl _ _).drew)⟩
  by_cases h6 : 6 < kind
  · have HN := hide0 (show Stood w0 b (n + 1) w1 from Stood.next ⟨pv, tv, ev, xs, ys, ps, r, r2, hW, hx, hy, hr, hr2, hps⟩ (by omega))
    clear hW hx hy hr hr2 hps HS hb1
    go_cut [20] (fun v wx => v = .bool true ∧ wx = w1.drew)
    case first =>
      go_region
      all_goals
        go_wp2_with fail
        go_meet
        case rel => exact ⟨rfl, rfl⟩
    case rest =>
      obtain ⟨rfl, rfl⟩ := hcut
      go_wp2
      go_ret
      exact ⟨rfl, hide0 (HN.out.below (Below.refl _ _).drew)⟩
  by_cases hone : kind = 1
  · subst hone
    have hO := opened_any false 6 w0 b w1.drew pv tv ev xs ys ps (hide0 (hW.below (Below.refl _ _).drew)) (by omega)
    clear hW hx hy hr hr2 hps HS hb1
    go_cut [20] (fun v wx => v = .bool false ∧ wx = w1.drew)
    case first =>
      go_region
      all_goals
        go_wp2_with fail
        go_meet
        case rel => exact ⟨rfl, rfl⟩
    case rest =>
      obtain ⟨rfl, rfl⟩ := hcut
      go_wp2_with fail
      refine hO.mono ?_
      rintro e w' ⟨rfl, pv', p', HW'⟩
      go_wp2
      go_ret
      have h9 := HR.out
      exact ⟨rfl, hide0 ⟨pv', tv, ev, xs, ys, ps ++ [p'], r, r2, HW'.out, h9.1, h9.2.1, by simp; omega, by simp; omega, fun _ => by simp⟩⟩
  have hn0 : 0 < n := by omega
  have hpl := hps hn0
  rcases hW.prow.2 with ⟨e1, e2⟩ | ⟨g, pcap, cur, e1, _, hg, e3, _, hs, ht⟩
  · omega
  subst e1
  have HG := hide0 (show ∀ (i : Nat), i < ps.length → ∃ p, ps[i]? = some p ∧ w1.cell? ⟨g, i, none⟩ = some (.pointer (some ⟨p.r.P, 0, none⟩)) from fun i hi => by
    obtain ⟨p, hp⟩ : ∃ p, ps[i]? = some p := ⟨_, List.getElem?_eq_getElem hi⟩
    have h9 : (ps.map fun p => Value.pointer (some ⟨p.r.P, 0, none⟩))[i]? = some (.pointer (some ⟨p.r.P, 0, none⟩)) := by rw [List.getElem?_map, hp]; rfl
    refine ⟨p, hp, ?_⟩
    rw [← ht, List.getElem?_take] at h9
    split at h9
    · rw [cell_of_row w1 g _ cur _ (0, 0) hg]
      simpa using h9
    · cases h9)
  have hP := lpick_any ar ps.length w1.drew.drew har ⟨hpl, by omega⟩
  clear hW hx hy hr hr2 hps hg hs ht HS hb1
  go_cut [20] (fun v wx => v = .bool false ∧ wx = w1.drew)
  case first =>
    go_region
    all_goals
      go_wp2_with fail
      go_meet
      case rel => exact ⟨rfl, rfl⟩
  case rest =>
    obtain ⟨rfl, rfl⟩ := hcut
    go_wp2_with fail
    go_cut [5] (fun v wx => (∃ (i : Nat) (p : PS), ps[i]? = some p ∧ v = .pointer (some ⟨p.r.P, 0, none⟩)) ∧ wx = w1.drew.drew)
    case first =>
      clear HO HR hE
      first
        | go_region_with (first
            | (go_at_call 11; refine hP.mono ?_; rintro e w2 ⟨i, rfl, hi, rfl⟩
               obtain ⟨p, hp, hcp⟩ := HG.out i hi
               have hii : (i : Int) < (ps.length : Int) := by omega))
        | fail
      all_goals
        go_wp2_with fail
        go_meet
        case rel => exact ⟨⟨i, p, hp, rfl⟩, rfl⟩
    case rest =>
      obtain ⟨⟨i, p, hp, rfl⟩, rfl⟩ := hcut
      have hb2 : Below w1.heap.size w1 w1.drew.drew := (Below.refl _ _).drew.drew
      have HW2 := hide0 (HW.out.below hb2)
      replace o0 : w1.drew.drew.cell? ⟨q, 0, none⟩ = some (.int .i64 kind) := o0
      replace o2 : w1.drew.drew.cell? ⟨q, 2, none⟩ = some (.int .i64 nn) := o2
      replace o3 : w1.drew.drew.cell? ⟨q, 3, none⟩ = some (.slice a ls.length cap) := o3
      clear o1 c0 c3 HW HO hP hb2 HG hqs hblt
      generalize w1.drew.drew = w2 at *
      have HP2 := hide0 (HW2.out.mem i p hp)
      have HPP := hide0 hp
      obtain ⟨d0, d1, d2, d3, d4, dz⟩ := five_cells HP2.out.1.blk
      clear d2 d3 d4 dz
      have hc3 : ∀ (w' : World) (pv' tv' ev' : Value) (xs' ys' : List Value) (ps' : List PS), WorldOk false 6 w0 b w' pv' tv' ev' xs' ys' ps' → w'.cell? ⟨b, 3, none⟩ = some (.int .i64 6) := fun w' pv' tv' ev' xs' ys' ps' h => by have h9 := h.book.blk; simp only [World.cell?, h9]; rfl
      rcases (show kind = 2 ∨ kind = 3 ∨ kind = 4 ∨ kind = 5 ∨ kind = 6 by omega) with rfl | rfl | rfl | rfl | rfl
      · have hC := append_world false 6 w0 b w2 _ tv ev xs ys ps i p nn a cap ls (by decide) HW2.out hp (hE.out.args HW2.out.args) (by omega) hE.out.old.1 (fun q off h0 e hf => by have := hE.out.old.2 q off h0 e; have := (HP2.out.1.lt q hf).1; omega)
        clear hp
        go_wp2_with fail
        refine hC.mono ?_
        rintro e w3 ⟨rfl, p', _, HW3, _, _, _⟩
        have c3 := hc3 _ _ _ _ _ _ _ HW3.out
        clear hC
        go_wp2
        go_ret
        have h9 := HR.out
        exact ⟨rfl, hide0 ⟨_, tv, ev, xs, ys, _, r, r2, HW3.out, h9.1, h9.2.1, by rw [List.length_set]; omega, by rw [List.length_set]; omega, fun _ => by rw [List.length_set]; exact hpl⟩⟩
      · have hC := ltold_any false 6 w0 b w2 _ tv ev xs ys ps i p r r2 HW2 HPP (hide0 ⟨HR.out.1, by have := HR.out; omega⟩) (hide0 ⟨HR.out.2.1, by have := HR.out; omega⟩)
        clear hp
        go_wp2_with fail
        refine hC.mono ?_
        rintro e w3 ⟨rfl, tv', ev', xs', ys', HW3, g2, g3⟩
        have c3 := hc3 _ _ _ _ _ _ _ HW3.out
        clear hC
        go_wp2
        go_ret
        have h9 := HR.out
        obtain ⟨l1, r', l2⟩ := g2.out
        exact ⟨rfl, hide0 ⟨_, tv', ev', xs', ys', ps, r', r2 + 1, HW3.out, l2, g3.out, by omega, by omega, fun _ => hpl⟩⟩
      · have hP8 : Calls Tryz.prog 11 #[.int .i64 nn, .int .i64 8] w2 fun e w' => ∃ k : Nat, e = .returned (.int .i64 (k : Int)) ∧ k < 8 ∧ w' = w2 := lpick_any nn 8 w2 hnn ⟨by omega, by omega⟩
        go_wp2_with fail
        refine hP8.mono ?_
        rintro e w3 ⟨k, rfl, hk8, rfl⟩
        have hC := some_any false 6 w0 b w3 _ tv ev xs ys ps i p r r2 k (by decide) HW2 HPP (hide0 ⟨HR.out.1, by have := HR.out; omega⟩) (hide0 ⟨HR.out.2.1, by have := HR.out; omega⟩) hk8
        clear hp hP8
        go_wp2_with fail
        refine hC.mono ?_
        rintro e w4 ⟨rfl, tv', ev', xs', ys', p', _, HW3, g2, g3⟩
        have c3 := hc3 _ _ _ _ _ _ _ HW3.out
        clear hC
        go_wp2
        go_ret
        have h9 := HR.out
        obtain ⟨l1, r', l2⟩ := g2.out
        exact ⟨rfl, hide0 ⟨_, tv', ev', xs', ys', _, r', r2 + 1, HW3.out, l2, g3.out, by rw [List.length_set]; omega, by rw [List.length_set]; omega, fun _ => by rw [List.length_set]; exact hpl⟩⟩
      · obtain ⟨ea, ec, hevv, _, hcap, _⟩ := HP2.out.1.arc.evs.at HP2.out.1.arc.good
        have hab := HP2.out.1.arc.blk
        rw [hevv] at hab
        have hL := len_any p.r.p p.r.fv ea p.r.js.length ec w2 hab
        have hjs : p.r.js.length = p.r.its.length := by have := congrArg List.length HP2.out.2.same; simpa [evs] using this.symm
        rw [hjs] at hL
        obtain ⟨la, lc, hlv, hlcap⟩ : ∃ a c, p.r.lv = .slice a p.r.its.length c ∧ p.r.its.length ≤ c := by
          rcases HP2.out.1.row.2 with ⟨e1, e2⟩ | ⟨g, cap, _, e1, _, _, e3, _⟩
          · exact ⟨none, 0, by rw [e1, e2], by omega⟩
          · exact ⟨_, cap, e1, e3⟩
        rw [hlv] at d1
        clear hab hcap hp
        go_wp2_with fail
        refine hL.mono ?_
        rintro e w3 ⟨rfl, rfl⟩
        have c3 := hc3 _ _ _ _ _ _ _ HW2.out
        clear hL
        go_wp2
        go_ret
        have h9 := HR.out
        exact ⟨rfl, hide0 ⟨_, tv, ev, xs, ys, ps, r, r2, HW2.out, h9.1, h9.2.1, by omega, by omega, fun _ => hpl⟩⟩
      · have hC := again_any false 6 w0 b w2 _ tv ev xs ys ps i p r r2 (by decide) HW2 HPP (hide0 ⟨HR.out.1, by have := HR.out; omega⟩) (hide0 ⟨HR.out.2.1, by have := HR.out; omega⟩)
        clear hp
        go_wp2_with fail
        refine hC.mono ?_
        rintro e w3 ⟨rfl, tv', ev', xs', ys', p', _, HW3, g2, g3⟩
        have c3 := hc3 _ _ _ _ _ _ _ HW3.out
        clear hC
        go_wp2
        go_ret
        have h9 := HR.out
        obtain ⟨l1, r', l2⟩ := g2.out
        exact ⟨rfl, hide0 ⟨_, tv', ev', xs', ys', _, r', r2 + 2, HW3.out, l2, g3.out, by rw [List.length_set]; omega, by rw [List.length_set]; omega, fun _ => by rw [List.length_set]; exact hpl⟩⟩
end Go.Proofs.YtdjllnhahhjgmaaGreat
namespace Go.Proofs.YtdjllnhahhjgmaaGreat
open Go.RowKit Go.Shelf Chron
theorem OpsAt.below {w w' : World} {a : Option Addr} {l : List OpIt} (h : OpsAt w a l) (hb : Below w.heap.size w w') : OpsAt w' a l := by
  intro h0
  obtain ⟨q, off, rfl, hc⟩ := h h0
  refine ⟨q, off, rfl, fun k o ho => ?_⟩
  obtain ⟨c, ok⟩ := hc k o ho
  have hB := hb.block q (World.block_lt_of_cell? w _ c.c0)
  exact ⟨⟨(World.cell?_of_block hB).trans c.c0, (World.cell?_of_block hB).trans c.c1, (World.cell?_of_block hB).trans c.c2, (World.cell?_of_block hB).trans c.c3⟩, ⟨ok.ar, ok.n, ok.evs.below hb (Nat.le_refl _), ok.few⟩⟩
/- a row of the script that lay there is not the world itself -/
theorem Stood.args {w0 W : World} {b n : Nat} (h : Stood w0 b n W) : Args b w0 W := by
  obtain ⟨pv, tv, ev, xs, ys, ps, r, r2, h1, _⟩ := h
  exact h1.args
theorem Stood.whole {w0 W : World} {b n : Nat} (h : Stood w0 b n W) (hn : n ≤ 1100000) : Calls Tryz.prog 7 #[.pointer (some ⟨b, 1, none⟩)] W fun e w' => e = .returned (.bool true) ∧ Hid (Stood w0 b n w') := by
  obtain ⟨pv, tv, ev, xs, ys, ps, r, r2, h1, h2, h3, h4, h5, h6⟩ := h
  refine (whole2_any b pv _ tv ev xs ys W (hide0 h1.book) (by omega) (by omega)).mono ?_
  rintro e w' ⟨rfl, hb⟩
  exact ⟨rfl, hide0 ⟨pv, tv, ev, xs, ys, ps, r, r2, h1.below hb, h2, h3, h4, h5, h6⟩⟩
/- the end: the archives are told, one after the other -/
def Ends (w0 : World) (b : Nat) (n k j : Nat) (W : World) : Prop := ∃ pv tv ev xs ys ps r r2, WorldOk false 6 w0 b W pv tv ev xs ys ps ∧ ps.length = k ∧ xs.length = 4 * r ∧ ys.length = 4 * r2 ∧ r + 200 * k ≤ 400 * n + 200 * j ∧ r2 + k ≤ 2 * n + j ∧ k ≤ 2 * n
theorem Ends.told {w0 W : World} {b n k j : Nat} (h : Ends w0 b n k j W) (hn : n ≤ 1100000) (hj : j < k) : ∃ P vb vc, W.cell? ⟨b, 0, none⟩ = some (.slice (some ⟨vb, 0, none⟩) k vc) ∧ W.cell? ⟨vb, j, none⟩ = some (.pointer (some ⟨P, 0, none⟩)) ∧ W.cell? ⟨b, 3, none⟩ = some (.int .i64 6) ∧ k ≤ vc ∧ k ≤ 3000000 ∧
    ∀ W', Below W.heap.size W W' → Calls Tryz.prog 8 #[.pointer (some ⟨b, 0, none⟩), .pointer (some ⟨P, 0, none⟩)] W' fun e w' => e = .returned (.bool true) ∧ Hid (Ends w0 b n k (j + 1) w') ∧ w'.cell? ⟨b, 3, none⟩ = some (.int .i64 6) := by
  obtain ⟨pv, tv, ev, xs, ys, ps, r, r2, h1, h2, h3, h4, h5, h6, h7⟩ := h
  have hjl : j < ps.length := by omega
  obtain ⟨p, hp⟩ : ∃ p, ps[j]? = some p := ⟨_, List.getElem?_eq_getElem hjl⟩
  rcases h1.prow.2 with ⟨e1, e2⟩ | ⟨g, cap, cur, e1, _, hg, e3, _, hs, ht⟩
  · omega
  have hcell : W.cell? ⟨g, j, none⟩ = some (.pointer (some ⟨p.r.P, 0, none⟩)) := by
    have h9 : (ps.map fun p => Value.pointer (some ⟨p.r.P, 0, none⟩))[j]? = some (.pointer (some ⟨p.r.P, 0, none⟩)) := by rw [List.getElem?_map, hp]; rfl
    rw [← ht, List.getElem?_take] at h9
    split at h9
    · rw [cell_of_row W g _ cur _ (0, 0) hg]
      simpa using h9
    · cases h9
  refine ⟨p.r.P, g, cap, ?_, hcell, ?_, by omega, by omega, fun W' hb => ?_⟩
  · have h9 := h1.book.blk; simp only [World.cell?, h9, e1, h2]; rfl
  · have h9 := h1.book.blk; simp only [World.cell?, h9]; rfl
  · refine (ltold_any false 6 w0 b W' pv tv ev xs ys ps j p r r2 (hide0 (h1.below hb)) (hide0 hp) (hide0 ⟨h3, by omega⟩) (hide0 ⟨h4, by omega⟩)).mono ?_
    rintro e w' ⟨rfl, tv', ev', xs', ys', g1, g2, g3⟩
    obtain ⟨l1, r', l2⟩ := g2.out
    have l3 := g3.out
    refine ⟨rfl, hide0 ⟨pv, tv', ev', xs', ys', ps, r', r2 + 1, g1.out, h2, l2, l3, by omega, by omega, h7⟩, ?_⟩
    have h9 := g1.out.book.blk; simp only [World.cell?, h9]; rfl
theorem upto_blocks (w : World) : ∃ W, W = ((((w.alloc (.cells #[.slice none 0 0, .slice none 0 0, .slice none 0 0, .int .i64 6] 32)).alloc (.cells #[.string ⟨#[97]⟩] 9)).alloc (.cells #[.int .i64 2, .string ⟨#[116]⟩, .int .i64 300, .string ⟨#[104, 105]⟩, .slice (some ⟨w.heap.size + 1, 0, none⟩) 1 1] 38)).alloc (.cells #[.int .i64 1, .int .i64 0, .int .i64 0, .slice none 0 0, .int .i64 2, .int .i64 0, .int .i64 3, .slice (some ⟨w.heap.size + 1 + 1, 0, none⟩) 1 1, .int .i64 3, .int .i64 0, .int .i64 0, .slice none 0 0] 35)) ∧ Below w.heap.size w W ∧ W.heap.size = w.heap.size + 4 ∧ W.heap[w.heap.size]? = some (.cells #[.slice none 0 0, .slice none 0 0, .slice none 0 0, .int .i64 6] 32) ∧ W.heap[w.heap.size + 1]? = some (.cells #[.string ⟨#[97]⟩] 9) ∧ W.heap[w.heap.size + 1 + 1]? = some (.cells #[.int .i64 2, .string ⟨#[116]⟩, .int .i64 300, .string ⟨#[104, 105]⟩, .slice (some ⟨w.heap.size + 1, 0, none⟩) 1 1] 38) ∧ W.heap[w.heap.size + 1 + 1 + 1]? = some (.cells #[.int .i64 1, .int .i64 0, .int .i64 0, .slice none 0 0, .int .i64 2, .int .i64 0, .int .i64 3, .slice (some ⟨w.heap.size + 1 + 1, 0, none⟩) 1 1, .int .i64 3, .int .i64 0, .int .i64 0, .slice none 0 0] 35) := by
  refine ⟨_, rfl, ((((Below.refl _ w).alloc (Nat.le_refl _) _).alloc (by simp only [World.size_alloc]; omega) _).alloc (by simp only [World.size_alloc]; omega) _).alloc (by simp only [World.size_alloc]; omega) _, by simp, ?_, ?_, ?_, ?_⟩
  · rw [Below.heap_alloc _ _ _ (by simp only [World.size_alloc]; omega), Below.heap_alloc _ _ _ (by simp only [World.size_alloc]; omega), Below.heap_alloc _ _ _ (by simp only [World.size_alloc]; omega)]
    exact heap_alloc_new w _
  · rw [Below.heap_alloc _ _ _ (by simp only [World.size_alloc]; omega), Below.heap_alloc _ _ _ (by simp only [World.size_alloc]; omega)]
    have h9 := heap_alloc_new (w.alloc (.cells #[.slice none 0 0, .slice none 0 0, .slice none 0 0, .int .i64 6] 32)) (.cells #[.string ⟨#[97]⟩] 9)
    simp only [World.size_alloc] at h9; exact h9
  · rw [Below.heap_alloc _ _ _ (by simp only [World.size_alloc]; omega)]
    have h9 := heap_alloc_new ((w.alloc (.cells #[.slice none 0 0, .slice none 0 0, .slice none 0 0, .int .i64 6] 32)).alloc (.cells #[.string ⟨#[97]⟩] 9)) (.cells #[.int .i64 2, .string ⟨#[116]⟩, .int .i64 300, .string ⟨#[104, 105]⟩, .slice (some ⟨w.heap.size + 1, 0, none⟩) 1 1] 38)
    simp only [World.size_alloc] at h9; exact h9
  · have h9 := heap_alloc_new (((w.alloc (.cells #[.slice none 0 0, .slice none 0 0, .slice none 0 0, .int .i64 6] 32)).alloc (.cells #[.string ⟨#[97]⟩] 9)).alloc (.cells #[.int .i64 2, .string ⟨#[116]⟩, .int .i64 300, .string ⟨#[104, 105]⟩, .slice (some ⟨w.heap.size + 1, 0, none⟩) 1 1] 38)) (.cells #[.int .i64 1, .int .i64 0, .int .i64 0, .slice none 0 0, .int .i64 2, .int .i64 0, .int .i64 3, .slice (some ⟨w.heap.size + 1 + 1, 0, none⟩) 1 1, .int .i64 3, .int .i64 0, .int .i64 0, .slice none 0 0] 35)
    simp only [World.size_alloc] at h9; exact h9
theorem WorldOk.start {W : World} {b : Nat} (hb : W.heap[b]? = some (.cells #[.slice none 0 0, .slice none 0 0, .slice none 0 0, .int .i64 6] 32)) : WorldOk false 6 W b W (.slice none 0 0) (.slice none 0 0) (.slice none 0 0) [] [] [] := by
  have hn : ∀ q, Value.ownBlock (.slice none 0 0) ≠ some q := fun q => by simp [Value.ownBlock]
  refine ⟨⟨hb, World.ownsRow_nil _ _ _ _, World.ownsRow_nil _ _ _ _, fun q h => absurd h (hn q), fun i v h => by simp at h, fun i v h => by simp at h⟩, World.ownsRow_nil _ _ _ _, fun q h => absurd h (hn q), fun i p h => by simp at h, fun i p q h => by simp at h, fun i j p r q _ h => by simp at h, ⟨rfl, rfl, rfl, Nat.le_refl _, fun _ _ _ => rfl, ?_⟩, (Array.getElem?_eq_some_iff.1 hb).1, fun q _ h2 => ⟨⟨h2, hn q, hn q, fun v h => by simp at h, fun v h => by simp at h⟩, hn q⟩⟩
  intro o s h
  simp only [World.cell?, hb] at h
  match o, h with
  | 0, h => simp at h
  | 1, h => simp at h
  | 2, h => simp at h
  | 3, h => simp at h
  | n + 4, h => simp at h
theorem Stood.start {W : World} {b : Nat} (hb : W.heap[b]? = some (.cells #[.slice none 0 0, .slice none 0 0, .slice none 0 0, .int .i64 6] 32)) : Stood W b 0 W :=
  ⟨_, _, _, [], [], [], 0, 0, WorldOk.start hb, rfl, rfl, by simp, by simp, fun h => by omega⟩
def firstIt (T : Nat) : Item := ⟨⟨2, ⟨#[116]⟩, 300, ⟨#[104, 105]⟩, [⟨#[97]⟩]⟩, some ⟨T, 0, none⟩, 1⟩
theorem first_at {W : World} {T L : Nat} (hT : W.heap[T]? = some (.cells #[.string ⟨#[97]⟩] 9)) (hL : W.heap[L]? = some (.cells #[.int .i64 2, .string ⟨#[116]⟩, .int .i64 300, .string ⟨#[104, 105]⟩, .slice (some ⟨T, 0, none⟩) 1 1] 38)) : EvsAt W (some ⟨L, 0, none⟩) [firstIt T] := by
  intro _
  refine ⟨L, 0, rfl, fun k i hk => ?_⟩
  have hk0 : k = 0 := by have := (List.getElem?_eq_some_iff.1 hk).1; simp at this; omega
  subst hk0
  simp only [List.getElem?_cons_zero, Option.some.injEq] at hk
  subst hk
  obtain ⟨c0, c1, c2, c3, c4, _⟩ := res_cells hL
  refine ⟨⟨c0, c1, c2, c3, c4⟩, ⟨fun _ => ⟨T, 0, rfl, fun j hj => ?_⟩, fun j hj => ?_, by simp [firstIt], by show (1 : Nat) ≤ maxLen; decide, by show (2 : Nat) ≤ maxLen; decide⟩⟩
  · have hj0 : j = 0 := by simp [firstIt] at hj; omega
    subst hj0
    exact (one_cell hT).1
  · have hj0 : j = 0 := by simp [firstIt] at hj; omega
    subst hj0
    show (1 : Nat) ≤ _; decide
theorem Ends.start {w0 W : World} {b n : Nat} (h : Stood w0 b n W) : ∃ k, Ends w0 b n k 0 W := by
  obtain ⟨pv, tv, ev, xs, ys, ps, r, r2, h1, h2, h3, h4, h5, h6⟩ := h
  exact ⟨ps.length, pv, tv, ev, xs, ys, ps, r, r2, h1, rfl, h2, h3, by omega, by omega, by omega⟩
theorem Ends.pairs {w0 W : World} {b n k j : Nat} (h : Ends w0 b n k j W) : ∃ va vc, W.cell? ⟨b, 0, none⟩ = some (.slice va k vc) ∧ k ≤ vc ∧ k ≤ 2 * n ∧ Args b w0 W := by
  obtain ⟨pv, tv, ev, xs, ys, ps, r, r2, h1, h2, h3, h4, h5, h6, h7⟩ := h
  obtain ⟨va, vc, e, hc⟩ : ∃ a c, pv = .slice a ps.length c ∧ ps.length ≤ c := by
    rcases h1.prow.2 with ⟨e1, e2⟩ | ⟨g, cap, _, e1, _, _, e3, _⟩
    · exact ⟨none, 0, by rw [e1, e2], by omega⟩
    · exact ⟨_, cap, e1, e3⟩
  refine ⟨va, vc, ?_, by omega, h7, h1.args⟩
  have h9 := h1.book.blk; simp only [World.cell?, h9, e, h2]; rfl
theorem row12 {w : World} {q : Nat} {a0 a1 a2 a3 a4 a5 a6 a7 a8 a9 a10 a11 : Value} {ty : TypeId} (h : w.heap[q]? = some (.cells #[a0, a1, a2, a3, a4, a5, a6, a7, a8, a9, a10, a11] ty)) : w.cell? ⟨q, 0, none⟩ = some a0 ∧ w.cell? ⟨q, 1, none⟩ = some a1 ∧ w.cell? ⟨q, 2, none⟩ = some a2 ∧ w.cell? ⟨q, 3, none⟩ = some a3 ∧ w.cell? ⟨q, 4, none⟩ = some a4 ∧ w.cell? ⟨q, 5, none⟩ = some a5 ∧ w.cell? ⟨q, 6, none⟩ = some a6 ∧ w.cell? ⟨q, 7, none⟩ = some a7 ∧ w.cell? ⟨q, 8, none⟩ = some a8 ∧ w.cell? ⟨q, 9, none⟩ = some a9 ∧ w.cell? ⟨q, 10, none⟩ = some a10 ∧ w.cell? ⟨q, 11, none⟩ = some a11 := by
  refine ⟨?_, ?_, ?_, ?_, ?_, ?_, ?_, ?_, ?_, ?_, ?_, ?_⟩ <;> (simp only [World.cell?, h]; rfl)
set_option maxRecDepth 100000 in
set_option maxHeartbeats 2000000 in
theorem upto_any (a : Option Addr) (cap : Nat) (ops : List OpIt) (w : World) (hO : Hid (OpsAt w a ops)) (hl : ops.length ≤ 1048576) :
    Calls Tryz.prog 5 #[.slice a ops.length cap, .int .i64 6] w fun e w' => e = .returned (.int .i64 (-1)) ∧ Hid (Below w.heap.size w w') := by
  obtain ⟨W0, hW0, hB0, hsz, hb, hT, hL, hF⟩ := upto_blocks w
  have HS0 := hide0 (Stood.start hb)
  have HE1 := hide0 (first_at hT hL)
  have HF := hide0 hF
  have HB0 := hide0 hB0
  have hE0 : Hid (EvsAt W0 none []) := fun h => by simp at h
  go_enter Tryz.func5, Tryz.ntmps5
  go_wp2_with fail
  rw [← hW0]
  clear hW0 hB0 hb hT hL hF
  go_loopw [7] (fun v wr => ∃ i : Nat, i ≤ 3 ∧ v = .int .i64 (i : Int) ∧ Hid (Stood W0 w.heap.size i wr)) (fun v _ => 3 - (intOf v).toNat)
  case atStart => exact ⟨0, by omega, rfl, HS0⟩
  case round =>
    obtain ⟨i, hi3, rfl, HS⟩ := hrel
    by_cases hlt : i < 3
    · have hrow := (HS.out.args.block (w.heap.size + 1 + 1 + 1) (by omega) (by omega)).trans HF.out
      obtain ⟨z0, z1, z2, z3, z4, z5, z6, z7, z8, z9, z10, z11⟩ := row12 hrow
      clear hrow
      rcases (show i = 0 ∨ i = 1 ∨ i = 2 by omega) with rfl | rfl | rfl
      · have hC := step_any W0 w.heap.size wr 0 1 0 0 none 0 [] HS (by omega) (.inl rfl) (by omega) (by omega) hE0 (by simp)
        go_wp2_with fail
        refine hC.mono ?_
        rintro e w2 ⟨rfl, HS2⟩
        clear hC
        go_wp2
        go_roundw
        case rel => exact ⟨1, by omega, rfl, HS2⟩
        case measure => simp [intOf]
      · have hC := step_any W0 w.heap.size wr 1 2 0 3 (some ⟨w.heap.size + 1 + 1, 0, none⟩) 1 [firstIt (w.heap.size + 1)] HS (by omega) (.inr (by omega)) (by omega) (by omega) HE1 (by simp)
        go_wp2_with fail
        refine hC.mono ?_
        rintro e w2 ⟨rfl, HS2⟩
        clear hC
        go_wp2
        go_roundw
        case rel => exact ⟨2, by omega, rfl, HS2⟩
        case measure => simp [intOf]
      · have hC := step_any W0 w.heap.size wr 2 3 0 0 none 0 [] HS (by omega) (.inr (by omega)) (by omega) (by omega) hE0 (by simp)
        go_wp2_with fail
        refine hC.mono ?_
        rintro e w2 ⟨rfl, HS2⟩
        clear hC
        go_wp2
        go_roundw
        case rel => exact ⟨3, by omega, rfl, HS2⟩
        case measure => simp [intOf]
    · have hI : (i : Int) = 3 := by omega
      have HS3 : Hid (Stood W0 w.heap.size 3 wr) := by
        have h9 := HS.out
        rw [show i = 3 by omega] at h9
        exact h9
      rw [hI]
      clear hlt hi3 HS0 HE1 HF hE0 HS hI
      have HS := HS3
      clear HS3
      go_wp2_with fail
      go_loopw [9] (fun v wr => ∃ k : Nat, k ≤ ops.length ∧ v = .int .i64 (k : Int) ∧ Hid (Stood W0 w.heap.size (3 + k) wr)) (fun v _ => ops.length - (intOf v).toNat)
      case atStart => exact ⟨0, Nat.zero_le _, rfl, HS⟩
      case round =>
        clear HS
        obtain ⟨k, hkl, rfl, HS⟩ := hrel
        by_cases hlt : k < ops.length
        · obtain ⟨qb, off, rfl, hc⟩ := hO.out (by omega)
          obtain ⟨⟨z0, z1, z2, z3⟩, hok⟩ := hc k ops[k] (List.getElem?_eq_getElem hlt)
          generalize ops[k] = o at z0 z1 z2 z3 hok
          obtain ⟨kind, ar, nn, oa, oc, ls⟩ := o
          simp only at z0 z1 z2 z3
          have hqlt := World.block_lt_of_cell? w _ z0
          simp only at hqlt
          have hB := (HS.out.args.block qb (by omega) (by omega)).trans (HB0.out.block qb hqlt)
          replace z0 := (World.cell?_of_block hB).trans z0
          replace z1 := (World.cell?_of_block hB).trans z1
          replace z2 := (World.cell?_of_block hB).trans z2
          replace z3 := (World.cell?_of_block hB).trans z3
          have hkI : (k : Int) < (ops.length : Int) := by omega
          have hC := step_any W0 w.heap.size wr (3 + k) kind ar nn oa oc ls HS (by omega) (.inr (by omega)) hok.ar hok.n (hide0 (hok.evs.below HB0.out (Nat.le_refl _))) hok.few
          clear hc hok hB hqlt
          go_wp2_with fail
          refine hC.mono ?_
          rintro e w2 ⟨rfl, HS2⟩
          have hWh := HS2.out.whole (by omega)
          clear hC
          go_wp2_with fail
          refine hWh.mono ?_
          rintro e w3 ⟨rfl, HS3⟩
          clear hWh
          go_wp2
          go_roundw
          case rel => exact ⟨k + 1, by omega, by go_num, HS3⟩
          case measure => simp [intOf]; omega
        · obtain rfl : k = ops.length := by omega
          obtain ⟨m, hE⟩ := Ends.start HS.out
          have HE := hide0 hE
          clear hlt hkl HS hE
          go_wp2_with fail
          go_loopw [12] (fun v wr => ∃ j : Nat, j ≤ m ∧ v = .int .i64 (j : Int) ∧ Hid (Ends W0 w.heap.size (3 + ops.length) m j wr)) (fun v _ => m - (intOf v).toNat)
          case atStart => exact ⟨0, Nat.zero_le _, rfl, HE⟩
          case round =>
            clear HE
            obtain ⟨j, hjm, rfl, HE⟩ := hrel
            by_cases hlt : j < m
            · obtain ⟨P, vb, vc, c0, c1, c3, hvc, hm3, hTd⟩ := HE.out.told (by omega) hlt
              have hjI : (j : Int) < (m : Int) := by omega
              go_wp2_with fail
              refine (hTd wr (Below.refl _ _)).mono ?_
              rintro e w2 ⟨rfl, HE2, c32⟩
              clear hTd
              go_wp2
              go_roundw
              case rel => exact ⟨j + 1, by omega, by go_num, HE2⟩
              case measure => simp [intOf]; omega
            · obtain ⟨va, vc, c0, hvc, hm2, hA⟩ := HE.out.pairs
              have HA := hide0 hA
              obtain rfl : j = m := by omega
              clear hA hlt hjm
              go_wp2
              go_ret
              exact ⟨rfl, hide0 ⟨HA.out.os.trans HB0.out.os, HA.out.tape.trans HB0.out.tape, HA.out.output.trans HB0.out.output, by have := HA.out.size; omega, fun q hq => (HA.out.block q (by omega) (by omega)).trans (HB0.out.block q hq)⟩⟩
end Go.Proofs.YtdjllnhahhjgmaaGreat
