/- Walk of chroniclekeep.event. -/
import Derived.Test.YtdjllnhahhjgmaaB1
namespace Go.Proofs.Ytdjllnhahhjgmaa
open Go.RowKit Chron
theorem raw_int (a : Option Addr) (n cap : Nat) (i : Int) (w : World) (h : Hid (IntsAt w a n)) (hn : n ≤ maxLen) (h0 : 0 ≤ i) (hi : i ≤ 100) :
    Calls Try.prog 48 #[.slice a n cap, .int .i64 i] w fun e w' => (∃ z, e = .returned (.int .i64 z) ∧ Hid (-9223372036854775808 ≤ z)) ∧ w' = w := by
  obtain ⟨j, rfl⟩ := Int.eq_ofNat_of_zero_le h0
  exact raw_any a n cap j w h hn (by omega)
theorem line_40 (c : Int) (w : World) (h0 : Hid (-9223372036854775808 ≤ c)) : Calls Try.prog 49 #[.int .i64 c, .int .i64 40] w fun e w' => (∃ s, e = .returned (.string s) ∧ Hid (lineN s 40)) ∧ Below w.heap.size w w' := line_any c 40 w h0 (by omega)
theorem line_60 (c : Int) (w : World) (h0 : Hid (-9223372036854775808 ≤ c)) : Calls Try.prog 49 #[.int .i64 c, .int .i64 60] w fun e w' => (∃ s, e = .returned (.string s) ∧ Hid (lineN s 60)) ∧ Below w.heap.size w w' := line_any c 60 w h0 (by omega)
theorem line_20 (c : Int) (w : World) (h0 : Hid (-9223372036854775808 ≤ c)) : Calls Try.prog 49 #[.int .i64 c, .int .i64 20] w fun e w' => (∃ s, e = .returned (.string s) ∧ Hid (lineN s 20)) ∧ Below w.heap.size w w' := line_any c 20 w h0 (by omega)
set_option maxRecDepth 100000 in
set_option maxHeartbeats 400000 in
theorem raw_fix (a : Option Addr) (n cap i : Nat) (w : World) (h : IntsAt w a n) (_hn : n ≤ maxLen) (_hi : i ≤ 4) :
    ∃ z, Hid (-9223372036854775808 ≤ z) ∧ ∀ X, Below w.heap.size w X → Calls Try.prog 48 #[.slice a n cap, .int .i64 (5 + (i : Int))] X fun e w' => e = .returned (.int .i64 z) ∧ w' = X := by
  unfold maxLen at _hn
  by_cases hlt : 5 + i < n
  · obtain ⟨b, off, z, rfl, hc, hz⟩ := h (5 + i) hlt
    refine ⟨z, hz, fun X hb => ?_⟩
    have hlb := World.block_lt_of_cell? w _ hc
    have hc' : X.cell? ⟨b, off + (5 + i), none⟩ = some (.int .i64 z) := (hb.cell (p := ⟨b, off + (5 + i), none⟩) hlb).trans hc
    have hi5 : (5 + (i : Int)) < (n : Int) := by omega
    have ht5 : (5 + (i : Int)).toNat = 5 + i := by omega
    clear hc hlb hb
    go_enter Try.func48, Try.ntmps48
    go_wp2
    go_ret
    exact ⟨rfl, rfl⟩
  · refine ⟨0, by show (-9223372036854775808 : Int) ≤ 0; decide, fun X _ => ?_⟩
    go_enter Try.func48, Try.ntmps48
    go_wp2
    go_ret
    exact ⟨rfl, rfl⟩
theorem conv_at (x : Int) (h0 : 0 ≤ x) (h1 : x < 256) (X : World) (b : Nat) (hX : X.heap[b]? = some (.cells #[.int .u8 x] 5)) :
    (convert 77 9 (.slice (some ⟨b, 0, none⟩) 1 1)).run Try.prog X = .ok (.string ⟨#[UInt8.ofNat x.toNat]⟩) X := by
  refine run_convert_bytes_back X _ _ 5 ⟨b, 0, none⟩ 1 [UInt8.ofNat x.toNat] Try.underlying77 Try.underlying5 Try.underlying9 ?_
  intro j hj
  have hj0 : j = 0 := by simpa using hj
  subst hj0
  simp [World.cell?, Addr.add, hX]
  omega
theorem cell_one_new2 (w : World) (o : Obj) (v : Value) (t : TypeId) : ∀ j u, [v][j]? = some u → ((w.alloc o).alloc (.cells #[v] t)).cell? ((⟨w.heap.size + 1, 0, none⟩ : Addr).add j) = some u := by
  have := cell_one_new (w.alloc o) v t
  rw [World.size_alloc] at this
  exact this
theorem own_two {w : World} {base : Nat} {e : TypeId} {size : Nat} {v : Value} {n : Nat} {xs : List Value} (h : w.ownsRow base e size v n xs) (o o' : Obj) : ((w.alloc o).alloc o').ownsRow base e size v n xs := (h.alloc o).alloc o'
theorem tag_made {s : ByteArray} {L : Nat} (h : lineN s 20) (hL : L ≤ 4) : ∃ r : List UInt8, (⟨#[UInt8.ofNat (97 + (L : Int)).toNat]⟩ ++ s : ByteArray).data.toList = UInt8.ofNat (97 + L) :: r ∧ r.length ≤ 20 ∧ r.all byteOk = true := by
  refine ⟨s.data.toList, ?_, by have := h.1; simpa using this, h.2⟩
  have e : (97 + (L : Int)).toNat = 97 + L := by omega
  rw [e]
  obtain ⟨⟨s⟩⟩ := s; simp
structure EvAt (N P : Nat) (w wx : World) (k : Int) (t : ByteArray) (m : Int) (b : ByteArray) (v : Value) : Prop where
  box : wx.heap[P]? = some (.cells #[.int .i64 k, .string t, .int .i64 m, .string b, v] 24)
  res : wx.heap[N]? = some (.cells #[.int .i64 0, .string ⟨#[]⟩, .int .i64 0, .string ⟨#[]⟩, .slice none 0 0] 24)
  bel : Below N w wx
  lt : N < P
  big : P + 1 ≤ wx.heap.size
theorem EvAt.grown {N P : Nat} {w wx wy : World} {k : Int} {t : ByteArray} {m : Int} {b : ByteArray} {v : Value} {row : Option Nat} (h : EvAt N P w wx k t m b v) (hg : wx.grownBy wy row) (hr : ∀ q, row = some q → P + 1 ≤ q) : EvAt N P w wy k t m b v := by
  have hbig := h.big
  have hlt := h.lt
  have hblk : ∀ q, q ≤ P → wy.heap[q]? = wx.heap[q]? := fun q hq => hg.block q (by omega) (fun e => by have := hr q e.symm; omega)
  exact ⟨(hblk P (Nat.le_refl _)).trans h.box, (hblk N (by omega)).trans h.res, h.bel.trans ⟨hg.os, hg.tape, hg.output, hg.size, fun q hq => hblk q (by omega)⟩, hlt, Nat.le_trans hbig hg.size⟩
theorem EvAt.below {N P : Nat} {w wx wy : World} {k : Int} {t : ByteArray} {m : Int} {b : ByteArray} {v : Value} (h : EvAt N P w wx k t m b v) (hb : Below wx.heap.size wx wy) : EvAt N P w wy k t m b v :=
  h.grown (row := none) ⟨hb.os, hb.tape, hb.output, hb.size, fun k hk _ => hb.block k hk⟩ (fun q hq => by cases hq)
theorem EvAt.alloc {N P : Nat} {w wx : World} {k : Int} {t : ByteArray} {m : Int} {b : ByteArray} {v : Value} (h : EvAt N P w wx k t m b v) (o : Obj) : EvAt N P w (wx.alloc o) k t m b v :=
  h.below ((Below.refl _ _).alloc (Nat.le_refl _) _)
theorem EvAt.drew {N P : Nat} {w wx : World} {k : Int} {t : ByteArray} {m : Int} {b : ByteArray} {v : Value} (h : EvAt N P w wx k t m b v) : EvAt N P w wx.drew k t m b v :=
  ⟨h.box, h.res, h.bel.drew, h.lt, h.big⟩
theorem EvAt.put {N P : Nat} {w wx : World} {k : Int} {t : ByteArray} {m : Int} {b : ByteArray} {v : Value} (h : EvAt N P w wx k t m b v) :
    (∀ k', EvAt N P w (wx.setCell ⟨P, 0, none⟩ (.int .i64 k')) k' t m b v) ∧ (∀ m', EvAt N P w (wx.setCell ⟨P, 2, none⟩ (.int .i64 m')) k t m' b v) ∧ (∀ v', EvAt N P w (wx.setCell ⟨P, 4, none⟩ v') k t m b v') := by
  have hlt := h.lt
  refine ⟨fun x => ⟨?_, ?_, h.bel.setCell (by simp; omega) _, hlt, ?_⟩, fun x => ⟨?_, ?_, h.bel.setCell (by simp; omega) _, hlt, ?_⟩, fun x => ⟨?_, ?_, h.bel.setCell (by simp; omega) _, hlt, ?_⟩⟩
  all_goals first
    | (rw [Below.heap_setCell _ _ _ _ (by simp; omega)]; exact h.res)
    | (simp [World.setCell]; exact h.big)
    | (simp [World.setCell, Array.getElem?_modify, h.box])
set_option maxRecDepth 100000 in
set_option maxHeartbeats 8000000 in
theorem event_any (v : Int) (a : Option Addr) (n cap : Nat) (w : World) (hI : Hid (IntsAt w a n)) (hn : n ≤ maxLen) (hv1 : 1 ≤ v) (_hv3 : v ≤ 3) :
    Calls Try.prog 23 #[.slice a n cap, .int .i64 v] w fun e w' =>
      ∃ E x, e = .returned (evVal E x) ∧ Hid (∀ k, v ≤ k → k ≤ 3 → goesB k E = true) ∧ w'.ownsRow w.heap.size 9 1 x E.tags.length (E.tags.map Value.string) ∧ Below w.heap.size w w' := by
  have hI0 : Hid (IntsAt (w.alloc (.cells #[.int .i64 0, .string ⟨#[]⟩, .int .i64 0, .string ⟨#[]⟩, .slice none 0 0] 24)) a n) := hI.out.below ((Below.refl _ _).alloc (Nat.le_refl _) _) (Nat.le_refl _)
  go_enter Try.func23, Try.ntmps23
  go_wp2_with fail
  refine (raw_int a n cap 0 _ hI0 hn (by omega) (by omega)).mono ?_
  rintro e wq ⟨⟨z0, rfl, hz0⟩, hwq⟩
  have hwq' := hwq.symm; subst hwq'; clear hwq
  go_wp2_with fail
  refine (pick_any z0 4 _ hz0.out (by omega)).mono ?_
  rintro e wq ⟨⟨p0, rfl, hp0, hp1⟩, hwq⟩
  have hwq' := hwq.symm; subst hwq'; clear hwq
  go_wp2_with fail
  refine (raw_int a n cap 1 _ hI0 hn (by omega) (by omega)).mono ?_
  rintro e wq ⟨⟨z1, rfl, hz1⟩, hwq⟩
  have hwq' := hwq.symm; subst hwq'; clear hwq
  go_wp2_with fail
  refine (line_40 z1 _ hz1).mono ?_
  rintro e w1 ⟨⟨s1, rfl, hs1⟩, hb1⟩
  have hI1 : Hid (IntsAt w1 a n) := hI0.out.below hb1 (Nat.le_refl _)
  have hsz1 := hs1.out.1
  go_wp2_with fail
  refine (raw_int a n cap 2 _ hI1 hn (by omega) (by omega)).mono ?_
  rintro e wq ⟨⟨z2, rfl, hz2⟩, hwq⟩
  have hwq' := hwq.symm; subst hwq'; clear hwq
  go_wp2_with fail
  refine (line_60 z2 _ hz2).mono ?_
  rintro e w2 ⟨⟨s2, rfl, hs2⟩, hb2⟩
  have hI2 : Hid (IntsAt w2 a n) := hI1.out.below hb2 (Nat.le_refl _)
  have hsA := hb1.size
  rw [World.size_alloc] at hsA
  have hsB := hb2.size
  have hZ1 := (hb1.block w.heap.size (by rw [World.size_alloc]; omega)).trans (heap_alloc_new w _)
  have hZ2 := (hb2.block w.heap.size (by omega)).trans hZ1
  have HE0 : Hid (EvAt w.heap.size w2.heap.size w (w2.alloc (.cells #[.int .i64 (1 + p0), .string (⟨#[116]⟩ ++ s1), .int .i64 0, .string s2, .slice none 0 0] 24)) (1 + p0) (⟨#[116]⟩ ++ s1) 0 s2 (.slice none 0 0)) :=
    ⟨heap_alloc_new w2 _, (Below.heap_alloc _ _ _ (by omega)).trans hZ2, ((((Below.refl w.heap.size w).alloc (Nat.le_refl _) _).trans (hb1.mono (by rw [World.size_alloc]; omega))).trans (hb2.mono (by omega))).alloc (by omega) _, by omega, by rw [World.size_alloc]; omega⟩
  have hI3 : Hid (IntsAt (w2.alloc (.cells #[.int .i64 (1 + p0), .string (⟨#[116]⟩ ++ s1), .int .i64 0, .string s2, .slice none 0 0] 24)) a n) := hI2.out.below ((Below.refl _ _).alloc (Nat.le_refl _) _) (Nat.le_refl _)
  have hIold : Hid (∀ wx, Below w.heap.size w wx → IntsAt wx a n) := fun wx hb => hI.out.below hb (Nat.le_refl _)
  clear hb1 hb2 hZ1 hZ2 hI0 hI1 hI2 hsB hsA
  obtain ⟨P, hP⟩ : ∃ P, P = w2.heap.size := ⟨_, rfl⟩
  by_cases hv : v = 1
  · have hvb : (v == 1) = true := by simp [hv]
    have HV := hide0 hv
    clear hv
    go_wp2_with fail
    generalize w2.alloc (.cells #[.int .i64 (1 + p0), .string (⟨#[116]⟩ ++ s1), .int .i64 0, .string s2, .slice none 0 0] 24) = W3 at HE0 hI3 ⊢
    refine (raw_int a n cap 0 _ hI3 hn (by omega) (by omega)).mono ?_
    rintro e wq ⟨⟨z3, rfl, hz3⟩, hwq⟩
    have hwq' := hwq.symm; subst hwq'; clear hwq
    go_wp2_with fail
    refine (pick_any z3 3 _ hz3.out (by omega)).mono ?_
    rintro e wq ⟨⟨p3, rfl, hp2, hp3⟩, hwq⟩
    have hwq' := hwq.symm; subst hwq'; clear hwq
    obtain ⟨c0, c1, c2, c3, c4, cz⟩ := res_cells HE0.out.box
    obtain ⟨r0, r1, r2, r3, r4, rz⟩ := res_cells HE0.out.res
    have hne : ¬ w2.heap.size = w.heap.size := by have := HE0.out.lt; omega
    go_wp2
    refine bodyPost_ret (v := evVal ⟨1 + p3, ⟨#[116]⟩ ++ s1, 0, s2, []⟩ (.slice none 0 0)) (by simp [results, Try.results23, go_sem, evVal, r0, r1, r2, r3, r4]) rfl ⟨⟨1 + p3, ⟨#[116]⟩ ++ s1, 0, s2, []⟩, .slice none 0 0, rfl, ?_, World.ownsRow_nil _ _ _ _, ?_⟩
    · intro k hk1 hk3
      exact event_goes (v := v) hs1.out hs2.out rfl rfl (by simp; omega) (by simp; omega) (by simp) (by simp) (tagsI_ok (fun i hi => by simp at hi) (by simp)) hv1 hk1 hk3 (fun _ => ⟨by simp; omega, rfl⟩) (fun _ => rfl)
    · exact below_set5 (HE0.out.bel.setCell (Nat.le_of_lt HE0.out.lt) _) (Nat.le_refl _)
  · have hvb : (v == 1) = false := by simp [hv]
    have HV := hide0 hv
    clear hv
    go_wp2_with fail
    generalize w2.alloc (.cells #[.int .i64 (1 + p0), .string (⟨#[116]⟩ ++ s1), .int .i64 0, .string s2, .slice none 0 0] 24) = W3 at HE0 hI3 ⊢
    refine (raw_int a n cap 3 _ hI3 hn (by omega) (by omega)).mono ?_
    rintro e wq ⟨⟨z3, rfl, hz3⟩, hwq⟩
    have hwq' := hwq.symm; subst hwq'; clear hwq
    go_wp2_with fail
    refine (pick_any z3 1125899906842625 _ hz3.out (by omega)).mono ?_
    rintro e wq ⟨⟨p3, rfl, hp2, hp3⟩, hwq⟩
    have hwq' := hwq.symm; subst hwq'; clear hwq
    obtain ⟨c0, c1, c2, c3, c4, cz⟩ := res_cells HE0.out.box
    have HE1 : Hid _ := HE0.out.put.2.1 p3
    go_wp2_with fail
    have hlt0 := HE0.out.lt
    have HP : Hid (P = w2.heap.size) := hP
    clear c0 c1 c2 c3 c4 cz HE0 hI3 hP
    go_loopw [6] (fun i wx => ∃ (acc : List ByteArray) (a' : Option Addr) (cap' : Nat), acc.length ≤ 4 ∧ i = .int .i64 acc.length ∧ Hid (EvAt w.heap.size w2.heap.size w wx (1 + p0) (⟨#[116]⟩ ++ s1) p3 s2 (.slice a' acc.length cap')) ∧ Hid (wx.ownsRow (w2.heap.size + 1) 9 1 (.slice a' acc.length cap') acc.length (acc.map Value.string)) ∧ Hid (TagsI acc) ∧ Hid (v ≤ 2 → acc = [])) (fun i _ => 4 - (intOf i).toNat)
    case atStart => exact ⟨[], none, 0, by simp, rfl, HE1, World.ownsRow_nil _ _ _ _, fun i hi => by simp at hi, fun _ => rfl⟩
    case round =>
      obtain ⟨acc, a', cap', hacc, rfl, HE, HO, HT, H2⟩ := hrel
      clear HE1
      have hIr : Hid (IntsAt wr a n) := hIold.out wr HE.out.bel
      go_wp2_with fail
      refine (raw_int a n cap 4 _ hIr hn (by omega) (by omega)).mono ?_
      rintro e wq ⟨⟨z4, rfl, hz4⟩, hwq⟩
      have hwq' := hwq.symm; subst hwq'; clear hwq
      go_wp2_with fail
      refine (pick_any z4 5 _ hz4.out (by omega)).mono ?_
      rintro e wq ⟨⟨p5, rfl, hp5, hp6⟩, hwq⟩
      have hwq' := hwq.symm; subst hwq'; clear hwq
      obtain ⟨c0, c1, c2, c3, c4, cz⟩ := res_cells HE.out.box
      by_cases hgo : (acc.length : Int) < p5
      · by_cases hv3' : v = 3
        · have hv3b : (v == 3) = true := by simp [hv3']
          have HV3 : Hid (v = 3) := hv3'
          clear hv3'
          have w97 : IntKind.i64.wrap (97 + (acc.length : Int)) = 97 + (acc.length : Int) := wrapI_small (by omega) (by omega)
          have w5 : IntKind.i64.wrap (5 + (acc.length : Int)) = 5 + (acc.length : Int) := wrapI_small (by omega) (by omega)
          have w8 : IntKind.u8.wrap (97 + (acc.length : Int)) = 97 + (acc.length : Int) := by simp [IntKind.wrap, IntKind.bits, IntKind.signed]; omega
          have hL4 : acc.length ≤ 3 := by omega
          obtain ⟨i0, hi, hz0', hz1', hz2'⟩ := info_parts infoString
          obtain ⟨z5, hz5, hraw⟩ := raw_fix a n cap acc.length w hI.out hn (by omega)
          have hB0 : Below w.heap.size w wr.drew := HE.out.bel.drew
          have hB1 : ∀ o, Below w.heap.size w (wr.alloc o).drew := fun o => (HE.out.bel.alloc (by have := HE.out.big; omega) o).drew
          have e1 : acc.length + 1 ≤ maxLen := by unfold maxLen; omega
          have e2 : (acc.length + 1) * 16 ≤ 140737488355328 := by omega
          have d4 : ∀ o, (wr.alloc o).cell? ⟨w2.heap.size, 4, none⟩ = some (.slice a' acc.length cap') := fun o => (res_cells (HE.out.alloc o).box).2.2.2.2.1
          have hline : ∀ X, (X = wr.drew ∨ X = (wr.alloc (.cells #[.int .u8 (97 + (acc.length : Int))] 5)).drew) → Calls Try.prog 49 #[.int .i64 z5, .int .i64 20] X fun e wz => ∃ s, e = .returned (.string s) ∧ ¬ 9223372036854775807 < 1 + s.size ∧ Hid (lineN s 20) ∧ Hid (EvAt w.heap.size w2.heap.size w wz (1 + p0) (⟨#[116]⟩ ++ s1) p3 s2 (.slice a' acc.length cap')) ∧ Hid (wz.ownsRow (w2.heap.size + 1) 9 1 (.slice a' acc.length cap') acc.length (acc.map Value.string)) ∧
              wz.cell? ⟨w2.heap.size, 4, none⟩ = some (.slice a' acc.length cap') ∧ (∀ o, (wz.alloc o).cell? ⟨w2.heap.size, 4, none⟩ = some (.slice a' acc.length cap')) ∧ (∀ o o', ((wz.alloc o).alloc o').cell? ⟨w2.heap.size, 4, none⟩ = some (.slice a' acc.length cap')) ∧
              (X = (wr.alloc (.cells #[.int .u8 (97 + (acc.length : Int))] 5)).drew → (convert 77 9 (.slice (some ⟨wr.heap.size, 0, none⟩) 1 1)).run Try.prog wz = .ok (.string ⟨#[UInt8.ofNat (97 + (acc.length : Int)).toNat]⟩) wz) ∧ (∀ o, (convert 77 9 (.slice (some ⟨wz.heap.size, 0, none⟩) 1 1)).run Try.prog ((wz.alloc (.cells #[.int .u8 (97 + (acc.length : Int))] 5)).alloc o) = .ok (.string ⟨#[UInt8.ofNat (97 + (acc.length : Int)).toNat]⟩) ((wz.alloc (.cells #[.int .u8 (97 + (acc.length : Int))] 5)).alloc o)) := by
            intro X hX
            refine (line_20 z5 X hz5).mono ?_
            rintro e wz ⟨⟨s, rfl, hs⟩, hb⟩
            have HY : EvAt w.heap.size w2.heap.size w wz (1 + p0) (⟨#[116]⟩ ++ s1) p3 s2 (.slice a' acc.length cap') := by
              rcases hX with rfl | rfl
              · exact HE.out.drew.below hb
              · exact (HE.out.alloc _).drew.below hb
            refine ⟨s, rfl, by have := hs.out.1; omega, hs, HY, ?_, (res_cells HY.box).2.2.2.2.1, fun o => (res_cells (HY.alloc o).box).2.2.2.2.1, fun o o' => (res_cells ((HY.alloc o).alloc o').box).2.2.2.2.1, ?_, ?_⟩
            · rcases hX with rfl | rfl
              · exact own_below (World.ownsRow.drew HO.out) hb
              · exact own_below (World.ownsRow.drew (World.ownsRow.alloc HO.out _)) hb
            · intro hX2
              subst hX2
              exact conv_at _ (by omega) (by omega) wz _ ((hb.block wr.heap.size (by show wr.heap.size < (wr.alloc _).heap.size; rw [World.size_alloc]; omega)).trans (heap_alloc_new wr _))
            · intro o
              exact conv_at _ (by omega) (by omega) _ _ ((Below.heap_alloc _ _ _ (by rw [World.size_alloc]; omega)).trans (heap_alloc_new wz _))
          have hcvD : (convert 77 9 (.slice (some ⟨wr.heap.size, 0, none⟩) 1 1)).run Try.prog (wr.alloc (.cells #[.int .u8 (97 + (acc.length : Int))] 5)).drew = .ok (.string ⟨#[UInt8.ofNat (97 + (acc.length : Int)).toNat]⟩) (wr.alloc (.cells #[.int .u8 (97 + (acc.length : Int))] 5)).drew := conv_at _ (by omega) (by omega) _ _ (heap_alloc_new wr _)
          have hcv := conv_one (97 + (acc.length : Int)) (by omega) (by omega)
          have HKEEP : Hid (TagsI acc ∧ acc.length ≤ 4 ∧ (0 ≤ p5 ∧ p5 < 5 ∧ (acc.length : Int) < p5) ∧ (v ≤ 2 → acc = []) ∧ v = 3) := ⟨HT.out, hacc, ⟨hp5, hp6, hgo⟩, H2.out, HV3.out⟩
          go_upto_region 9 with fail
          clear c0 c1 c2 c3 HT H2 hIr hI hIold hz4 hz3 hz2 hz1 hz0 hs1 hs2 hp5 hp6 hacc hsz1 hp0 hp1 hp2 hp3 hn HP hv1 _hv3 hlt0 HV hvb hv3b hgo hL4
          go_region_law (first
            | (have hq9 := HQ.out
               have e3 : ∀ o, w2.heap.size + 1 ≤ (wz.alloc o).heap.size := fun o => by have := HY.out.big; simp; omega
               refine step_append_lies _ rfl _ _ 22 rfl (w2.heap.size + 1) 9 i0 (.string ⟨#[]⟩) 1 16 Try.underlying22 hi hz0' hz1' hz2' rfl Nat.one_pos _ _ _ rfl (World.ownsRow.alloc hq9 _) ⟨wz.heap.size, 0, none⟩ 1 1 [_] rfl rfl (cell_one_new _ _ _) (one_string _) Nat.one_pos e1 e2 (e3 _) _ rfl ?_
               clear hq9 e3
               intro g cap'' wa hown' hgrow hat hglt
               have HA : Hid (EvAt w.heap.size w2.heap.size w wa (1 + p0) (⟨#[116]⟩ ++ s1) p3 s2 (.slice a' acc.length cap')) := (HY.out.alloc _).grown hgrow (fun q hq => (World.ownsRow.lt HQ.out q hq).1)
               have HO' : Hid (wa.ownsRow (w2.heap.size + 1) 9 1 (.slice (some ⟨g, 0, none⟩) (acc.length + 1) cap'') (acc.length + 1) (acc.map Value.string ++ [.string (⟨#[UInt8.ofNat (97 + (acc.length : Int)).toNat]⟩ ++ s)])) := hown'
               have ca := (res_cells HA.out.box).2.2.2.2.1
               have za := (res_cells HA.out.box).2.2.2.2.2
               clear hgrow hown' hat)
            | (have hq9 := HQ.out
               have e3 : ∀ o o', w2.heap.size + 1 ≤ ((wz.alloc o).alloc o').heap.size := fun o o' => by have := HY.out.big; simp; omega
               refine step_append_lies _ rfl _ _ 22 rfl (w2.heap.size + 1) 9 i0 (.string ⟨#[]⟩) 1 16 Try.underlying22 hi hz0' hz1' hz2' rfl Nat.one_pos _ _ _ rfl (own_two hq9 _ _) ⟨wz.heap.size + 1, 0, none⟩ 1 1 [_] rfl rfl (cell_one_new2 _ _ _ _) (one_string _) Nat.one_pos e1 e2 (e3 _ _) _ rfl ?_
               clear hq9 e3
               intro g cap'' wa hown' hgrow hat hglt
               have HA : Hid (EvAt w.heap.size w2.heap.size w wa (1 + p0) (⟨#[116]⟩ ++ s1) p3 s2 (.slice a' acc.length cap')) := ((HY.out.alloc _).alloc _).grown hgrow (fun q hq => (World.ownsRow.lt HQ.out q hq).1)
               have HO' : Hid (wa.ownsRow (w2.heap.size + 1) 9 1 (.slice (some ⟨g, 0, none⟩) (acc.length + 1) cap'') (acc.length + 1) (acc.map Value.string ++ [.string (⟨#[UInt8.ofNat (97 + (acc.length : Int)).toNat]⟩ ++ s)])) := hown'
               have ca := (res_cells HA.out.box).2.2.2.2.1
               have za := (res_cells HA.out.box).2.2.2.2.2
               clear hgrow hown' hat)
            | (go_simp; go_at_call 48; refine (hraw _ ?_).mono ?_; first | exact hB0 | exact hB1 _
               rintro e wq ⟨rfl, hwq⟩; have hwq' := hwq.symm; subst hwq'; clear hwq)
            | (go_simp; go_at_call 49; refine (hline _ ?_).mono ?_; first | exact Or.inl rfl | exact Or.inr rfl
               rintro e wz ⟨s, rfl, hsz20, hsl, HY, HQ, cz0, cz1, cz2, cvz, cvy⟩))
          all_goals
            obtain ⟨k1, k2, ⟨k3, k4, k5⟩, k6, k7⟩ := HKEEP.out
            clear hline hraw hcv hcvD d4 cvz cvy cz0 cz1 cz2 hB0 hB1
            have HX1 : Hid ((acc ++ [(⟨#[UInt8.ofNat (97 + (acc.length : Int)).toNat]⟩ ++ s)]).length ≤ 4) := by show _ ≤ _; simp; omega
            have HX2 : Hid (Value.int .i64 ((acc.length : Int) + 1) = .int .i64 ((acc ++ [(⟨#[UInt8.ofNat (97 + (acc.length : Int)).toNat]⟩ ++ s)]).length : Nat)) := by show _ = _; simp
            have HX3 : Hid (EvAt w.heap.size w2.heap.size w (wa.setCell ⟨w2.heap.size, 4, none⟩ (.slice (some ⟨g, 0, none⟩) (acc.length + 1) cap'')) (1 + p0) (⟨#[116]⟩ ++ s1) p3 s2 (.slice (some ⟨g, 0, none⟩) (acc ++ [(⟨#[UInt8.ofNat (97 + (acc.length : Int)).toNat]⟩ ++ s)]).length cap'')) := by
              show EvAt _ _ _ _ _ _ _ _ _
              rw [List.length_append]; exact HA.out.put.2.2 _
            have HX4 : Hid ((wa.setCell ⟨w2.heap.size, 4, none⟩ (.slice (some ⟨g, 0, none⟩) (acc.length + 1) cap'')).ownsRow (w2.heap.size + 1) 9 1 (.slice (some ⟨g, 0, none⟩) (acc ++ [(⟨#[UInt8.ofNat (97 + (acc.length : Int)).toNat]⟩ ++ s)]).length cap'') (acc ++ [(⟨#[UInt8.ofNat (97 + (acc.length : Int)).toNat]⟩ ++ s)]).length ((acc ++ [(⟨#[UInt8.ofNat (97 + (acc.length : Int)).toNat]⟩ ++ s)]).map Value.string)) := by
              show World.ownsRow _ _ _ _ _ _ _
              rw [List.length_append, List.map_append]; exact ownsRow_setCell_below HO'.out (Nat.lt_succ_self _) _
            have HX5 : Hid (TagsI (acc ++ [(⟨#[UInt8.ofNat (97 + (acc.length : Int)).toNat]⟩ ++ s)])) := tagsI_push k1 (tag_made hsl.out k2)
            have HX6 : Hid (v ≤ 2 → acc ++ [(⟨#[UInt8.ofNat (97 + (acc.length : Int)).toNat]⟩ ++ s)] = []) := fun h => by omega
            clear k1 k2 k6 k7
            go_wp2
            go_roundw
            case rel =>
              first
                | exact ⟨acc ++ [(⟨#[UInt8.ofNat (97 + (acc.length : Int)).toNat]⟩ ++ s)], some ⟨g, 0, none⟩, cap'', HX1.out, HX2.out, HX3, HX4, HX5, HX6⟩
                | ((repeat apply Exists.intro); exact ⟨⟨acc ++ [(⟨#[UInt8.ofNat (97 + (acc.length : Int)).toNat]⟩ ++ s)], some ⟨g, 0, none⟩, cap'', HX1.out, HX2.out, HX3, HX4, HX5, HX6⟩, rfl⟩)
            case measure => simp [intOf]; omega
        · have hv3b : (v == 3) = false := by simp [hv3']
          have HV3 := hide0 hv3'
          clear hv3'
          obtain ⟨r0, r1, r2, r3, r4, rz⟩ := res_cells HE.out.res
          have hne : ¬ w2.heap.size = w.heap.size := by omega
          go_wp2
          refine bodyPost_ret (v := evVal ⟨1 + p0, ⟨#[116]⟩ ++ s1, p3, s2, acc⟩ (.slice a' acc.length cap')) (by simp [results, Try.results23, go_sem, evVal, r0, r1, r2, r3, r4]) rfl ⟨⟨1 + p0, ⟨#[116]⟩ ++ s1, p3, s2, acc⟩, .slice a' acc.length cap', rfl, ?_, own_set5 HO.out (by omega) (by omega), below_set5 HE.out.bel (Nat.le_refl _)⟩
          intro k hk1 hk3
          exact event_goes (v := v) hs1.out hs2.out rfl rfl (by simp; omega) (by simp; omega) hp2 hp3 (tagsI_ok HT.out hacc) hv1 hk1 hk3 (fun h => absurd h HV.out) H2.out
      · obtain ⟨r0, r1, r2, r3, r4, rz⟩ := res_cells HE.out.res
        have hne : ¬ w2.heap.size = w.heap.size := by omega
        go_wp2
        refine bodyPost_ret (v := evVal ⟨1 + p0, ⟨#[116]⟩ ++ s1, p3, s2, acc⟩ (.slice a' acc.length cap')) (by simp [results, Try.results23, go_sem, evVal, r0, r1, r2, r3, r4]) rfl ⟨⟨1 + p0, ⟨#[116]⟩ ++ s1, p3, s2, acc⟩, .slice a' acc.length cap', rfl, ?_, own_set5 HO.out (by omega) (by omega), below_set5 HE.out.bel (Nat.le_refl _)⟩
        intro k hk1 hk3
        exact event_goes (v := v) hs1.out hs2.out rfl rfl (by simp; omega) (by simp; omega) hp2 hp3 (tagsI_ok HT.out hacc) hv1 hk1 hk3 (fun h => absurd h HV.out) H2.out
end Go.Proofs.Ytdjllnhahhjgmaa
