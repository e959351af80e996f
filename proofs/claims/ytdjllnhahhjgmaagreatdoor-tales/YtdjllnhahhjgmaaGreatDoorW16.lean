/- Walks and plain facts, in the order in which they lean on one another. -/
import Derived.Test.YtdjllnhahhjgmaaGreatDoorW03
import Derived.Test.YtdjllnhahhjgmaaGreatDoorW11
import Derived.Test.YtdjllnhahhjgmaaGreatDoorW15
import Derived.Test.YtdjllnhahhjgmaaGreatDoorW14
namespace Go.Proofs.YtdjllnhahhjgmaaGreatDoor
open Go.RowKit Chron
theorem raw_int (a : Option Addr) (n cap : Nat) (i : Int) (w : World) (h : Hid (IntsAt w a n)) (hn : n ≤ maxLen) (h0 : 0 ≤ i) (hi : i ≤ 100) :
    Calls Tryz.prog 31 #[.slice a n cap, .int .i64 i] w fun e w' => (∃ z, e = .returned (.int .i64 z) ∧ Hid (-9223372036854775808 ≤ z)) ∧ w' = w := by
  obtain ⟨j, rfl⟩ := Int.eq_ofNat_of_zero_le h0
  exact raw_any a n cap j w h hn (by omega)
theorem line_40 (c : Int) (w : World) (h0 : Hid (-9223372036854775808 ≤ c)) : Calls Tryz.prog 49 #[.int .i64 c, .int .i64 40] w fun e w' => (∃ s, e = .returned (.string s) ∧ Hid (lineN s 40)) ∧ Below w.heap.size w w' := line_any c 40 w h0 (by omega)
theorem line_60 (c : Int) (w : World) (h0 : Hid (-9223372036854775808 ≤ c)) : Calls Tryz.prog 49 #[.int .i64 c, .int .i64 60] w fun e w' => (∃ s, e = .returned (.string s) ∧ Hid (lineN s 60)) ∧ Below w.heap.size w w' := line_any c 60 w h0 (by omega)
theorem line_20 (c : Int) (w : World) (h0 : Hid (-9223372036854775808 ≤ c)) : Calls Tryz.prog 49 #[.int .i64 c, .int .i64 20] w fun e w' => (∃ s, e = .returned (.string s) ∧ Hid (lineN s 20)) ∧ Below w.heap.size w w' := line_any c 20 w h0 (by omega)
set_option maxRecDepth 100000 in
set_option maxHeartbeats 400000 in
theorem raw_fix (a : Option Addr) (n cap i : Nat) (w : World) (h : IntsAt w a n) (_hn : n ≤ maxLen) (_hi : i ≤ 4) :
    ∃ z, Hid (-9223372036854775808 ≤ z) ∧ ∀ X, Below w.heap.size w X → Calls Tryz.prog 31 #[.slice a n cap, .int .i64 (5 + (i : Int))] X fun e w' => e = .returned (.int .i64 z) ∧ w' = X := by
  unfold maxLen at _hn
  by_cases hlt : 5 + i < n
  · obtain ⟨b, off, z, rfl, hc, hz⟩ := h (5 + i) hlt
    refine ⟨z, hz, fun X hb => ?_⟩
    have hlb := World.block_lt_of_cell? w _ hc
    have hc' : X.cell? ⟨b, off + (5 + i), none⟩ = some (.int .i64 z) := (hb.cell (p := ⟨b, off + (5 + i), none⟩) hlb).trans hc
    have hi5 : (5 + (i : Int)) < (n : Int) := by omega
    have ht5 : (5 + (i : Int)).toNat = 5 + i := by omega
    clear hc hlb hb
    go_enter Tryz.func31, Tryz.ntmps31
    go_wp2
    go_ret
    exact ⟨rfl, rfl⟩
  · refine ⟨0, by show (-9223372036854775808 : Int) ≤ 0; decide, fun X _ => ?_⟩
    go_enter Tryz.func31, Tryz.ntmps31
    go_wp2
    go_ret
    exact ⟨rfl, rfl⟩
theorem conv_at (x : Int) (h0 : 0 ≤ x) (h1 : x < 256) (X : World) (b : Nat) (hX : X.heap[b]? = some (.cells #[.int .u8 x] 5)) :
    (convert 63 9 (.slice (some ⟨b, 0, none⟩) 1 1)).run Tryz.prog X = .ok (.string ⟨#[UInt8.ofNat x.toNat]⟩) X := by
  refine run_convert_bytes_back X _ _ 5 ⟨b, 0, none⟩ 1 [UInt8.ofNat x.toNat] Tryz.underlying63 Tryz.underlying5 Tryz.underlying9 ?_
  intro j hj
  have hj0 : j = 0 := by simpa using hj
  subst hj0
  simp [World.cell?, Addr.add, hX]
  omega
theorem cell_one_new2 (w : World) (o : Obj) (v : Value) (t : TypeId) : ∀ j u, [v][j]? = some u → ((w.alloc o).alloc (.cells #[v] t)).cell? ((⟨w.heap.size + 1, 0, none⟩ : Addr).add j) = some u := by
  have := cell_one_new (w.alloc o) v t
  rw [World.size_alloc] at this
  exact this
theorem own_two {w : World} {base : Nat} {e : TypeId} {size : Nat} {v : Value} {n : Nat} {xs : List Value} (h : w.ownsRow base e size v n xs) (o o' : Obj) : ((w.alloc o).alloc o').ownsRow base e size v n xs := (h.alloc o).alloc o'
theorem tag_made {s : ByteArray} {L : Nat} (h : lineN s 20) (hL : L ≤ 4) : ∃ r : List UInt8, (⟨#[UInt8.ofNat (97 + (L : Int)).toNat]⟩ ++ s : ByteArray).data.toList = UInt8.ofNat (97 + L) :: r ∧ r.length ≤ 20 ∧ r.all byteOk = true := by
  refine ⟨s.data.toList, ?_, by have := h.1; simpa using this, h.2⟩
  have e : (97 + (L : Int)).toNat = 97 + L := by omega
  rw [e]
  obtain ⟨⟨s⟩⟩ := s; simp
structure EvAt (N P : Nat) (w wx : World) (k : Int) (t : ByteArray) (m : Int) (b : ByteArray) (v : Value) : Prop where
  box : wx.heap[P]? = some (.cells #[.int .i64 k, .string t, .int .i64 m, .string b, v] 29)
  res : wx.heap[N]? = some (.cells #[.int .i64 0, .string ⟨#[]⟩, .int .i64 0, .string ⟨#[]⟩, .slice none 0 0] 29)
  bel : Below N w wx
  lt : N < P
  big : P + 1 ≤ wx.heap.size
theorem EvAt.grown {N P : Nat} {w wx wy : World} {k : Int} {t : ByteArray} {m : Int} {b : ByteArray} {v : Value} {row : Option Nat} (h : EvAt N P w wx k t m b v) (hg : wx.grownBy wy row) (hr : ∀ q, row = some q → P + 1 ≤ q) : EvAt N P w wy k t m b v := by
  have hbig := h.big
  have hlt := h.lt
  have hblk : ∀ q, q ≤ P → wy.heap[q]? = wx.heap[q]? := fun q hq => hg.block q (by omega) (fun e => by have := hr q e.symm; omega)
  exact ⟨(hblk P (Nat.le_refl _)).trans h.box, (hblk N (by omega)).trans h.res, h.bel.trans ⟨hg.os, hg.tape, hg.output, hg.size, fun q hq => hblk q (by omega)⟩, hlt, Nat.le_trans hbig hg.size⟩
theorem EvAt.below {N P : Nat} {w wx wy : World} {k : Int} {t : ByteArray} {m : Int} {b : ByteArray} {v : Value} (h : EvAt N P w wx k t m b v) (hb : Below wx.heap.size wx wy) : EvAt N P w wy k t m b v :=
  h.grown (row := none) ⟨hb.os, hb.tape, hb.output, hb.size, fun k hk _ => hb.block k hk⟩ (fun q hq => by cases hq)
theorem EvAt.alloc {N P : Nat} {w wx : World} {k : Int} {t : ByteArray} {m : Int} {b : ByteArray} {v : Value} (h : EvAt N P w wx k t m b v) (o : Obj) : EvAt N P w (wx.alloc o) k t m b v :=
  h.below ((Below.refl _ _).alloc (Nat.le_refl _) _)
theorem EvAt.drew {N P : Nat} {w wx : World} {k : Int} {t : ByteArray} {m : Int} {b : ByteArray} {v : Value} (h : EvAt N P w wx k t m b v) : EvAt N P w wx.drew k t m b v :=
  ⟨h.box, h.res, h.bel.drew, h.lt, h.big⟩
theorem EvAt.put {N P : Nat} {w wx : World} {k : Int} {t : ByteArray} {m : Int} {b : ByteArray} {v : Value} (h : EvAt N P w wx k t m b v) :
    (∀ k', EvAt N P w (wx.setCell ⟨P, 0, none⟩ (.int .i64 k')) k' t m b v) ∧ (∀ m', EvAt N P w (wx.setCell ⟨P, 2, none⟩ (.int .i64 m')) k t m' b v) ∧ (∀ v', EvAt N P w (wx.setCell ⟨P, 4, none⟩ v') k t m b v') := by
  have hlt := h.lt
  refine ⟨fun x => ⟨?_, ?_, h.bel.setCell (by simp; omega) _, hlt, ?_⟩, fun x => ⟨?_, ?_, h.bel.setCell (by simp; omega) _, hlt, ?_⟩, fun x => ⟨?_, ?_, h.bel.setCell (by simp; omega) _, hlt, ?_⟩⟩
  all_goals first
    | (rw [Below.heap_setCell _ _ _ _ (by simp; omega)]; exact h.res)
    | (simp [World.setCell]; exact h.big)
    | (simp [World.setCell, Array.getElem?_modify, h.box])
set_option maxRecDepth 100000 in
set_option maxHeartbeats 8000000 in
theorem event_any (v : Int) (a : Option Addr) (n cap : Nat) (w : World) (hI : Hid (IntsAt w a n)) (hn : n ≤ maxLen) (hv1 : 1 ≤ v) (_hv3 : v ≤ 3) :
    Calls Tryz.prog 29 #[.slice a n cap, .int .i64 v] w fun e w' =>
      ∃ E x, e = .returned (evVal E x) ∧ Hid (∀ k, v ≤ k → k ≤ 3 → goesB k E = true) ∧ w'.ownsRow w.heap.size 9 1 x E.tags.length (E.tags.map Value.string) ∧ Below w.heap.size w w' := by
  have hI0 : Hid (IntsAt (w.alloc (.cells #[.int .i64 0, .string ⟨#[]⟩, .int .i64 0, .string ⟨#[]⟩, .slice none 0 0] 29)) a n) := hI.out.below ((Below.refl _ _).alloc (Nat.le_refl _) _) (Nat.le_refl _)
  go_enter Tryz.func29, Tryz.ntmps29
  go_wp2_with fail
  refine (raw_int a n cap 0 _ hI0 hn (by omega) (by omega)).mono ?_
  rintro e wq ⟨⟨z0, rfl, hz0⟩, hwq⟩
  have hwq' := hwq.symm; subst hwq'; clear hwq
  go_wp2_with fail
  refine (pick_any z0 4 _ hz0.out (by omega)).mono ?_
  rintro e wq ⟨⟨p0, rfl, hp0, hp1⟩, hwq⟩
  have hwq' := hwq.symm; subst hwq'; clear hwq
  go_wp2_with fail
  refine (raw_int a n cap 1 _ hI0 hn (by omega) (by omega)).mono ?_
  rintro e wq ⟨⟨z1, rfl, hz1⟩, hwq⟩
  have hwq' := hwq.symm; subst hwq'; clear hwq
  go_wp2_with fail
  refine (line_40 z1 _ hz1).mono ?_
  rintro e w1 ⟨⟨s1, rfl, hs1⟩, hb1⟩
  have hI1 : Hid (IntsAt w1 a n) := hI0.out.below hb1 (Nat.le_refl _)
  have hsz1 := hs1.out.1
  go_wp2_with fail
  refine (raw_int a n cap 2 _ hI1 hn (by omega) (by omega)).mono ?_
  rintro e wq ⟨⟨z2, rfl, hz2⟩, hwq⟩
  have hwq' := hwq.symm; subst hwq'; clear hwq
  go_wp2_with fail
  refine (line_60 z2 _ hz2).mono ?_
  rintro e w2 ⟨⟨s2, rfl, hs2⟩, hb2⟩
  have hI2 : Hid (IntsAt w2 a n) := hI1.out.below hb2 (Nat.le_refl _)
  have hsA := hb1.size
  rw [World.size_alloc] at hsA
  have hsB := hb2.size
  have hZ1 := (hb1.block w.heap.size (by rw [World.size_alloc]; omega)).trans (heap_alloc_new w _)
  have hZ2 := (hb2.block w.heap.size (by omega)).trans hZ1
  have HE0 : Hid (EvAt w.heap.size w2.heap.size w (w2.alloc (.cells #[.int .i64 (1 + p0), .string (⟨#[116]⟩ ++ s1), .int .i64 0, .string s2, .slice none 0 0] 29)) (1 + p0) (⟨#[116]⟩ ++ s1) 0 s2 (.slice none 0 0)) :=
    ⟨heap_alloc_new w2 _, (Below.heap_alloc _ _ _ (by omega)).trans hZ2, ((((Below.refl w.heap.size w).alloc (Nat.le_refl _) _).trans (hb1.mono (by rw [World.size_alloc]; omega))).trans (hb2.mono (by omega))).alloc (by omega) _, by omega, by rw [World.size_alloc]; omega⟩
  have hI3 : Hid (IntsAt (w2.alloc (.cells #[.int .i64 (1 + p0), .string (⟨#[116]⟩ ++ s1), .int .i64 0, .string s2, .slice none 0 0] 29)) a n) := hI2.out.below ((Below.refl _ _).alloc (Nat.le_refl _) _) (Nat.le_refl _)
  have hIold : Hid (∀ wx, Below w.heap.size w wx → IntsAt wx a n) := fun wx hb => hI.out.below hb (Nat.le_refl _)
  clear hb1 hb2 hZ1 hZ2 hI0 hI1 hI2 hsB hsA
  obtain ⟨P, hP⟩ : ∃ P, P = w2.heap.size := ⟨_, rfl⟩
  by_cases hv : v = 1
  · have hvb : (v == 1) = true := by simp [hv]
    have HV := hide0 hv
    clear hv
    go_wp2_with fail
    generalize w2.alloc (.cells #[.int .i64 (1 + p0), .string (⟨#[116]⟩ ++ s1), .int .i64 0, .string s2, .slice none 0 0] 29) = W3 at HE0 hI3 ⊢
    refine (raw_int a n cap 0 _ hI3 hn (by omega) (by omega)).mono ?_
    rintro e wq ⟨⟨z3, rfl, hz3⟩, hwq⟩
    have hwq' := hwq.symm; subst hwq'; clear hwq
    go_wp2_with fail
    refine (pick_any z3 3 _ hz3.out (by omega)).mono ?_
    rintro e wq ⟨⟨p3, rfl, hp2, hp3⟩, hwq⟩
    have hwq' := hwq.symm; subst hwq'; clear hwq
    obtain ⟨c0, c1, c2, c3, c4, cz⟩ := res_cells HE0.out.box
    obtain ⟨r0, r1, r2, r3, r4, rz⟩ := res_cells HE0.out.res
    have hne : ¬ w2.heap.size = w.heap.size := by have := HE0.out.lt; omega
    go_wp2
    refine bodyPost_ret (v := evVal ⟨1 + p3, ⟨#[116]⟩ ++ s1, 0, s2, []⟩ (.slice none 0 0)) (by simp [results, Tryz.results29, go_sem, evVal, r0, r1, r2, r3, r4]) rfl ⟨⟨1 + p3, ⟨#[116]⟩ ++ s1, 0, s2, []⟩, .slice none 0 0, rfl, ?_, World.ownsRow_nil _ _ _ _, ?_⟩
    · intro k hk1 hk3
      exact event_goes (v := v) hs1.out hs2.out rfl rfl (by simp; omega) (by simp; omega) (by simp) (by simp) (tagsI_ok (fun i hi => by simp at hi) (by simp)) hv1 hk1 hk3 (fun _ => ⟨by simp; omega, rfl⟩) (fun _ => rfl)
    · exact below_set5 (HE0.out.bel.setCell (Nat.le_of_lt HE0.out.lt) _) (Nat.le_refl _)
  · have hvb : (v == 1) = false := by simp [hv]
    have HV := hide0 hv
    clear hv
    go_wp2_with fail
    generalize w2.alloc (.cells #[.int .i64 (1 + p0), .string (⟨#[116]⟩ ++ s1), .int .i64 0, .string s2, .slice none 0 0] 29) = W3 at HE0 hI3 ⊢
    refine (raw_int a n cap 3 _ hI3 hn (by omega) (by omega)).mono ?_
    rintro e wq ⟨⟨z3, rfl, hz3⟩, hwq⟩
    have hwq' := hwq.symm; subst hwq'; clear hwq
    go_wp2_with fail
    refine (pick_any z3 1125899906842625 _ hz3.out (by omega)).mono ?_
    rintro e wq ⟨⟨p3, rfl, hp2, hp3⟩, hwq⟩
    have hwq' := hwq.symm; subst hwq'; clear hwq
    obtain ⟨c0, c1, c2, c3, c4, cz⟩ := res_cells HE0.out.box
    have HE1 : Hid _ := HE0.out.put.2.1 p3
    go_wp2_with fail
    have hlt0 := HE0.out.lt
    have HP : Hid (P = w2.heap.size) := hP
    clear c0 c1 c2 c3 c4 cz HE0 hI3 hP
    go_loopw [6] (fun i wx => ∃ (acc : List ByteArray) (a' : Option Addr) (cap' : Nat), acc.length ≤ 4 ∧ i = .int .i64 acc.length ∧ Hid (EvAt w.heap.size w2.heap.size w wx (1 + p0) (⟨#[116]⟩ ++ s1) p3 s2 (.slice a' acc.length cap')) ∧ Hid (wx.ownsRow (w2.heap.size + 1) 9 1 (.slice a' acc.length cap') acc.length (acc.map Value.string)) ∧ Hid (TagsI acc) ∧ Hid (v ≤ 2 → acc = [])) (fun i _ => 4 - (intOf i).toNat)
    case atStart => exact ⟨[], none, 0, by simp, rfl, HE1, World.ownsRow_nil _ _ _ _, fun i hi => by simp at hi, fun _ => rfl⟩
    case round =>
      obtain ⟨acc, a', cap', hacc, rfl, HE, HO, HT, H2⟩ := hrel
      clear HE1
      have hIr : Hid (IntsAt wr a n) := hIold.out wr HE.out.bel
      go_wp2_with fail
      refine (raw_int a n cap 4 _ hIr hn (by omega) (by omega)).mono ?_
      rintro e wq ⟨⟨z4, rfl, hz4⟩, hwq⟩
      have hwq' := hwq.symm; subst hwq'; clear hwq
      go_wp2_with fail
      refine (pick_any z4 5 _ hz4.out (by omega)).mono ?_
      rintro e wq ⟨⟨p5, rfl, hp5, hp6⟩, hwq⟩
      have hwq' := hwq.symm; subst hwq'; clear hwq
      obtain ⟨c0, c1, c2, c3, c4, cz⟩ := res_cells HE.out.box
      by_cases hgo : (acc.length : Int) < p5
      · by_cases hv3' : v = 3
        · have hv3b : (v == 3) = true := by simp [hv3']
          have HV3 : Hid (v = 3) := hv3'
          clear hv3'
          have w97 : IntKind.i64.wrap (97 + (acc.length : Int)) = 97 + (acc.length : Int) := wrapI_small (by omega) (by omega)
          have w5 : IntKind.i64.wrap (5 + (acc.length : Int)) = 5 + (acc.length : Int) := wrapI_small (by omega) (by omega)
          have w8 : IntKind.u8.wrap (97 + (acc.length : Int)) = 97 + (acc.length : Int) := by simp [IntKind.wrap, IntKind.bits, IntKind.signed]; omega
          have hL4 : acc.length ≤ 3 := by omega
          obtain ⟨i0, hi, hz0', hz1', hz2'⟩ := info_parts infoString
          obtain ⟨z5, hz5, hraw⟩ := raw_fix a n cap acc.length w hI.out hn (by omega)
          have hB0 : Below w.heap.size w wr.drew := HE.out.bel.drew
          have hB1 : ∀ o, Below w.heap.size w (wr.alloc o).drew := fun o => (HE.out.bel.alloc (by have := HE.out.big; omega) o).drew
          have e1 : acc.length + 1 ≤ maxLen := by unfold maxLen; omega
          have e2 : (acc.length + 1) * 16 ≤ 140737488355328 := by omega
          have d4 : ∀ o, (wr.alloc o).cell? ⟨w2.heap.size, 4, none⟩ = some (.slice a' acc.length cap') := fun o => (res_cells (HE.out.alloc o).box).2.2.2.2.1
          have hline : ∀ X, (X = wr.drew ∨ X = (wr.alloc (.cells #[.int .u8 (97 + (acc.length : Int))] 5)).drew) → Calls Tryz.prog 49 #[.int .i64 z5, .int .i64 20] X fun e wz => ∃ s, e = .returned (.string s) ∧ ¬ 9223372036854775807 < 1 + s.size ∧ Hid (lineN s 20) ∧ Hid (EvAt w.heap.size w2.heap.size w wz (1 + p0) (⟨#[116]⟩ ++ s1) p3 s2 (.slice a' acc.length cap')) ∧ Hid (wz.ownsRow (w2.heap.size + 1) 9 1 (.slice a' acc.length cap') acc.length (acc.map Value.string)) ∧
              wz.cell? ⟨w2.heap.size, 4, none⟩ = some (.slice a' acc.length cap') ∧ (∀ o, (wz.alloc o).cell? ⟨w2.heap.size, 4, none⟩ = some (.slice a' acc.length cap')) ∧ (∀ o o', ((wz.alloc o).alloc o').cell? ⟨w2.heap.size, 4, none⟩ = some (.slice a' acc.length cap')) ∧
              (X = (wr.alloc (.cells #[.int .u8 (97 + (acc.length : Int))] 5)).drew → (convert 63 9 (.slice (some ⟨wr.heap.size, 0, none⟩) 1 1)).run Tryz.prog wz = .ok (.string ⟨#[UInt8.ofNat (97 + (acc.length : Int)).toNat]⟩) wz) ∧ (∀ o, (convert 63 9 (.slice (some ⟨wz.heap.size, 0, none⟩) 1 1)).run Tryz.prog ((wz.alloc (.cells #[.int .u8 (97 + (acc.length : Int))] 5)).alloc o) = .ok (.string ⟨#[UInt8.ofNat (97 + (acc.length : Int)).toNat]⟩) ((wz.alloc (.cells #[.int .u8 (97 + (acc.length : Int))] 5)).alloc o)) := by
            intro X hX
            refine (line_20 z5 X hz5).mono ?_
            rintro e wz ⟨⟨s, rfl, hs⟩, hb⟩
            have HY : EvAt w.heap.size w2.heap.size w wz (1 + p0) (⟨#[116]⟩ ++ s1) p3 s2 (.slice a' acc.length cap') := by
              rcases hX with rfl | rfl
              · exact HE.out.drew.below hb
              · exact (HE.out.alloc _).drew.below hb
            refine ⟨s, rfl, by have := hs.out.1; omega, hs, HY, ?_, (res_cells HY.box).2.2.2.2.1, fun o => (res_cells (HY.alloc o).box).2.2.2.2.1, fun o o' => (res_cells ((HY.alloc o).alloc o').box).2.2.2.2.1, ?_, ?_⟩
            · rcases hX with rfl | rfl
              · exact own_below (World.ownsRow.drew HO.out) hb
              · exact own_below (World.ownsRow.drew (World.ownsRow.alloc HO.out _)) hb
            · intro hX2
              subst hX2
              exact conv_at _ (by omega) (by omega) wz _ ((hb.block wr.heap.size (by show wr.heap.size < (wr.alloc _).heap.size; rw [World.size_alloc]; omega)).trans (heap_alloc_new wr _))
            · intro o
              exact conv_at _ (by omega) (by omega) _ _ ((Below.heap_alloc _ _ _ (by rw [World.size_alloc]; omega)).trans (heap_alloc_new wz _))
          have hcvD : (convert 63 9 (.slice (some ⟨wr.heap.size, 0, none⟩) 1 1)).run Tryz.prog (wr.alloc (.cells #[.int .u8 (97 + (acc.length : Int))] 5)).drew = .ok (.string ⟨#[UInt8.ofNat (97 + (acc.length : Int)).toNat]⟩) (wr.alloc (.cells #[.int .u8 (97 + (acc.length : Int))] 5)).drew := conv_at _ (by omega) (by omega) _ _ (heap_alloc_new wr _)
          have hcv := conv_one (97 + (acc.length : Int)) (by omega) (by omega)
          have HKEEP : Hid (TagsI acc ∧ acc.length ≤ 4 ∧ (0 ≤ p5 ∧ p5 < 5 ∧ (acc.length : Int) < p5) ∧ (v ≤ 2 → acc = []) ∧ v = 3) := ⟨HT.out, hacc, ⟨hp5, hp6, hgo⟩, H2.out, HV3.out⟩
          go_upto_region 9 with fail
          clear c0 c1 c2 c3 HT H2 hIr hI hIold hz4 hz3 hz2 hz1 hz0 hs1 hs2 hp5 hp6 hacc hsz1 hp0 hp1 hp2 hp3 hn HP hv1 _hv3 hlt0 HV hvb hv3b hgo hL4
          go_region_law (first
            | (have hq9 := HQ.out
               have e3 : ∀ o, w2.heap.size + 1 ≤ (wz.alloc o).heap.size := fun o => by have := HY.out.big; simp; omega
               refine step_append_lies _ rfl _ _ 22 rfl (w2.heap.size + 1) 9 i0 (.string ⟨#[]⟩) 1 16 Tryz.underlying22 hi hz0' hz1' hz2' rfl Nat.one_pos _ _ _ rfl (World.ownsRow.alloc hq9 _) ⟨wz.heap.size, 0, none⟩ 1 1 [_] rfl rfl (cell_one_new _ _ _) (one_string _) Nat.one_pos e1 e2 (e3 _) _ rfl ?_
               clear hq9 e3
               intro g cap'' wa hown' hgrow hat hglt
               have HA : Hid (EvAt w.heap.size w2.heap.size w wa (1 + p0) (⟨#[116]⟩ ++ s1) p3 s2 (.slice a' acc.length cap')) := (HY.out.alloc _).grown hgrow (fun q hq => (World.ownsRow.lt HQ.out q hq).1)
               have HO' : Hid (wa.ownsRow (w2.heap.size + 1) 9 1 (.slice (some ⟨g, 0, none⟩) (acc.length + 1) cap'') (acc.length + 1) (acc.map Value.string ++ [.string (⟨#[UInt8.ofNat (97 + (acc.length : Int)).toNat]⟩ ++ s)])) := hown'
               have ca := (res_cells HA.out.box).2.2.2.2.1
               have za := (res_cells HA.out.box).2.2.2.2.2
               clear hgrow hown' hat)
            | (have hq9 := HQ.out
               have e3 : ∀ o o', w2.heap.size + 1 ≤ ((wz.alloc o).alloc o').heap.size := fun o o' => by have := HY.out.big; simp; omega
               refine step_append_lies _ rfl _ _ 22 rfl (w2.heap.size + 1) 9 i0 (.string ⟨#[]⟩) 1 16 Tryz.underlying22 hi hz0' hz1' hz2' rfl Nat.one_pos _ _ _ rfl (own_two hq9 _ _) ⟨wz.heap.size + 1, 0, none⟩ 1 1 [_] rfl rfl (cell_one_new2 _ _ _ _) (one_string _) Nat.one_pos e1 e2 (e3 _ _) _ rfl ?_
               clear hq9 e3
               intro g cap'' wa hown' hgrow hat hglt
               have HA : Hid (EvAt w.heap.size w2.heap.size w wa (1 + p0) (⟨#[116]⟩ ++ s1) p3 s2 (.slice a' acc.length cap')) := ((HY.out.alloc _).alloc _).grown hgrow (fun q hq => (World.ownsRow.lt HQ.out q hq).1)
               have HO' : Hid (wa.ownsRow (w2.heap.size + 1) 9 1 (.slice (some ⟨g, 0, none⟩) (acc.length + 1) cap'') (acc.length + 1) (acc.map Value.string ++ [.string (⟨#[UInt8.ofNat (97 + (acc.length : Int)).toNat]⟩ ++ s)])) := hown'
               have ca := (res_cells HA.out.box).2.2.2.2.1
               have za := (res_cells HA.out.box).2.2.2.2.2
               clear hgrow hown' hat)
            | (go_simp; go_at_call 31; refine (hraw _ ?_).mono ?_; first | exact hB0 | exact hB1 _
               rintro e wq ⟨rfl, hwq⟩; have hwq' := hwq.symm; subst hwq'; clear hwq)
            | (go_simp; go_at_call 49; refine (hline _ ?_).mono ?_; first | exact Or.inl rfl | exact Or.inr rfl
               rintro e wz ⟨s, rfl, hsz20, hsl, HY, HQ, cz0, cz1, cz2, cvz, cvy⟩))
          all_goals
            obtain ⟨k1, k2, ⟨k3, k4, k5⟩, k6, k7⟩ := HKEEP.out
            clear hline hraw hcv hcvD d4 cvz cvy cz0 cz1 cz2 hB0 hB1
            have HX1 : Hid ((acc ++ [(⟨#[UInt8.ofNat (97 + (acc.length : Int)).toNat]⟩ ++ s)]).length ≤ 4) := by show _ ≤ _; simp; omega
            have HX2 : Hid (Value.int .i64 ((acc.length : Int) + 1) = .int .i64 ((acc ++ [(⟨#[UInt8.ofNat (97 + (acc.length : Int)).toNat]⟩ ++ s)]).length : Nat)) := by show _ = _; simp
            have HX3 : Hid (EvAt w.heap.size w2.heap.size w (wa.setCell ⟨w2.heap.size, 4, none⟩ (.slice (some ⟨g, 0, none⟩) (acc.length + 1) cap'')) (1 + p0) (⟨#[116]⟩ ++ s1) p3 s2 (.slice (some ⟨g, 0, none⟩) (acc ++ [(⟨#[UInt8.ofNat (97 + (acc.length : Int)).toNat]⟩ ++ s)]).length cap'')) := by
              show EvAt _ _ _ _ _ _ _ _ _
              rw [List.length_append]; exact HA.out.put.2.2 _
            have HX4 : Hid ((wa.setCell ⟨w2.heap.size, 4, none⟩ (.slice (some ⟨g, 0, none⟩) (acc.length + 1) cap'')).ownsRow (w2.heap.size + 1) 9 1 (.slice (some ⟨g, 0, none⟩) (acc ++ [(⟨#[UInt8.ofNat (97 + (acc.length : Int)).toNat]⟩ ++ s)]).length cap'') (acc ++ [(⟨#[UInt8.ofNat (97 + (acc.length : Int)).toNat]⟩ ++ s)]).length ((acc ++ [(⟨#[UInt8.ofNat (97 + (acc.length : Int)).toNat]⟩ ++ s)]).map Value.string)) := by
              show World.ownsRow _ _ _ _ _ _ _
              rw [List.length_append, List.map_append]; exact ownsRow_setCell_below HO'.out (Nat.lt_succ_self _) _
            have HX5 : Hid (TagsI (acc ++ [(⟨#[UInt8.ofNat (97 + (acc.length : Int)).toNat]⟩ ++ s)])) := tagsI_push k1 (tag_made hsl.out k2)
            have HX6 : Hid (v ≤ 2 → acc ++ [(⟨#[UInt8.ofNat (97 + (acc.length : Int)).toNat]⟩ ++ s)] = []) := fun h => by omega
            clear k1 k2 k6 k7
            go_wp2
            go_roundw
            case rel =>
              first
                | exact ⟨acc ++ [(⟨#[UInt8.ofNat (97 + (acc.length : Int)).toNat]⟩ ++ s)], some ⟨g, 0, none⟩, cap'', HX1.out, HX2.out, HX3, HX4, HX5, HX6⟩
                | ((repeat apply Exists.intro); exact ⟨⟨acc ++ [(⟨#[UInt8.ofNat (97 + (acc.length : Int)).toNat]⟩ ++ s)], some ⟨g, 0, none⟩, cap'', HX1.out, HX2.out, HX3, HX4, HX5, HX6⟩, rfl⟩)
            case measure => simp [intOf]; omega
        · have hv3b : (v == 3) = false := by simp [hv3']
          have HV3 := hide0 hv3'
          clear hv3'
          obtain ⟨r0, r1, r2, r3, r4, rz⟩ := res_cells HE.out.res
          have hne : ¬ w2.heap.size = w.heap.size := by omega
          go_wp2
          refine bodyPost_ret (v := evVal ⟨1 + p0, ⟨#[116]⟩ ++ s1, p3, s2, acc⟩ (.slice a' acc.length cap')) (by simp [results, Tryz.results29, go_sem, evVal, r0, r1, r2, r3, r4]) rfl ⟨⟨1 + p0, ⟨#[116]⟩ ++ s1, p3, s2, acc⟩, .slice a' acc.length cap', rfl, ?_, own_set5 HO.out (by omega) (by omega), below_set5 HE.out.bel (Nat.le_refl _)⟩
          intro k hk1 hk3
          exact event_goes (v := v) hs1.out hs2.out rfl rfl (by simp; omega) (by simp; omega) hp2 hp3 (tagsI_ok HT.out hacc) hv1 hk1 hk3 (fun h => absurd h HV.out) H2.out
      · obtain ⟨r0, r1, r2, r3, r4, rz⟩ := res_cells HE.out.res
        have hne : ¬ w2.heap.size = w.heap.size := by omega
        go_wp2
        refine bodyPost_ret (v := evVal ⟨1 + p0, ⟨#[116]⟩ ++ s1, p3, s2, acc⟩ (.slice a' acc.length cap')) (by simp [results, Tryz.results29, go_sem, evVal, r0, r1, r2, r3, r4]) rfl ⟨⟨1 + p0, ⟨#[116]⟩ ++ s1, p3, s2, acc⟩, .slice a' acc.length cap', rfl, ?_, own_set5 HO.out (by omega) (by omega), below_set5 HE.out.bel (Nat.le_refl _)⟩
        intro k hk1 hk3
        exact event_goes (v := v) hs1.out hs2.out rfl rfl (by simp; omega) (by simp; omega) hp2 hp3 (tagsI_ok HT.out hacc) hv1 hk1 hk3 (fun h => absurd h HV.out) H2.out
end Go.Proofs.YtdjllnhahhjgmaaGreatDoor
namespace Go.Proofs.YtdjllnhahhjgmaaGreatDoor
open Go.RowKit Chron
theorem IntsAt.sub {w : World} {a : Option Addr} {n i : Nat} (h : IntsAt w a n) (hi : i < n) : ∃ b off, a = some ⟨b, off, none⟩ ∧ IntsAt w (some ⟨b, off + i, none⟩) (n - i) := by
  obtain ⟨b, off, _, rfl, _⟩ := h i hi
  refine ⟨b, off, rfl, fun j hj => ?_⟩
  obtain ⟨b', off', z, he, hc, hz⟩ := h (i + j) (by omega)
  cases he
  exact ⟨b, off + i, z, rfl, by rw [Nat.add_assoc]; exact hc, hz⟩
def slLen : Value → Nat
  | .slice _ n _ => n
  | _ => 0
set_option maxRecDepth 100000 in
set_option maxHeartbeats 4000000 in
theorem events_all (v : Int) (hv1 : 1 ≤ v) (hv3 : v ≤ 3) (a : Option Addr) (n cap : Nat) (w : World) (hI : Hid (IntsAt w a n)) (hn : n ≤ 1000000000000000) (hnc : n ≤ cap) :
    Calls Tryz.prog 11 #[.slice a n cap, .int .i64 v] w fun e w' => ∃ (lv : Value) (its : List Item), e = .returned lv ∧ its.length ≤ 20 ∧ Hid (MadeO w.heap.size w' lv its) ∧ Hid (∀ it ∈ its, isB it.ev = true) ∧ Below w.heap.size w w' := by
  obtain ⟨i0, hi, hz0, hz1, hz2⟩ := info_parts infoEvent5
  go_enter Tryz.func11, Tryz.ntmps11
  go_wp2_with fail
  go_loopw [5, 6] (fun lv iv wx => ∃ (i : Nat) (its : List Item) (la : Option Addr) (lc : Nat), i ≤ n + 6 ∧ its.length ≤ 20 ∧ iv = .int .i64 i ∧ lv = .slice la its.length lc ∧ Hid (MadeO w.heap.size wx (.slice la its.length lc) its) ∧ Hid (∀ it ∈ its, isB it.ev = true) ∧ Hid (Below w.heap.size w wx)) (fun lv _ _ => 20 - slLen lv)
  case atStart => exact ⟨0, [], none, 0, by omega, by decide, rfl, rfl, MadeO.nil _ _, (fun it h => by cases h), Below.refl _ _⟩
  case round =>
    obtain ⟨i, its, la, lc, hin, hl, rfl, rfl, HM, HB, HW⟩ := hrel
    by_cases hlt : i < n
    · by_cases h20 : its.length < 20
      · have hsz := HW.out.size
        have HIr := hide0 (hI.out.below HW.out (Nat.le_refl _))
        obtain ⟨ib, io, rfl, hsub⟩ := HIr.out.sub hlt
        have hE := event_any v (some ⟨ib, io + i, none⟩) (n - i) (cap - i) wr hsub (by unfold maxLen; omega) hv1 hv3
        have hlti : (i : Int) < (n : Int) := by omega
        have hli : (its.length : Int) < 20 := by omega
        clear hsub
        go_wp2_with fail
        refine hE.mono ?_
        rintro e w3 ⟨E, x, rfl, HG, hvo, hb3⟩
        obtain ⟨va, vc, hve, _⟩ := own_tags hvo
        subst hve
        have hisB := goes_is (HG.out 3 hv3 (by decide))
        obtain ⟨F0, F1, F2, F3, F4⟩ := E
        simp only [evVal]
        have HVO := hide0 hvo
        have hs3 := hb3.size
        have HM3 := hide0 (HM.out.keep (w' := w3) (fun q _ h2 => hb3.block q h2))
        have HM3b := hide0 (HM3.out.alloc (.cells #[.int .i64 F0, .string F1, .int .i64 F2, .string F3, .slice va F4.length vc] 29))
        have HB3 := hide0 (HW.out.trans (hb3.mono hsz))
        have HLV := hide0 HM.out.lts
        have hNew := five_new (w3.alloc (.cells #[.int .i64 F0, .string F1, .int .i64 F2, .string F3, .slice va F4.length vc] 29)) ⟨⟨F0, F1, F2, F3, F4⟩, va, vc⟩
        rw [World.size_alloc] at hNew
        have hbase : w.heap.size ≤ ((w3.alloc (.cells #[.int .i64 F0, .string F1, .int .i64 F2, .string F3, .slice va F4.length vc] 29)).alloc (.cells #[.int .i64 F0, .string F1, .int .i64 F2, .string F3, .slice va F4.length vc] 29)).heap.size := by simp only [World.size_alloc]; omega
        have hrow := HM3b.out.row
        have HALL : Hid (∀ it ∈ its ++ [⟨⟨F0, F1, F2, F3, F4⟩, va, vc⟩], isB it.ev = true) := by
          intro it hit
          rcases List.mem_append.1 hit with hit | hit
          · exact HB.out it hit
          · simp only [List.mem_singleton] at hit; rw [hit]; exact hisB
        clear hE hvo hb3 hisB HG HM3
        go_wp2_with (first
          | (at_builtin; go_must (refine wpList_append_lies _ rfl _ _ 23 rfl w.heap.size 29 i0 (.agg #[.int .i64 0, .string ⟨#[]⟩, .int .i64 0, .string ⟨#[]⟩, .slice none 0 0]) 5 72 Tryz.underlying23 hi hz0 hz1 hz2 rfl (by decide) _ its.length (fives its) rfl (hrow.alloc _) ⟨w3.heap.size + 1, 0, none⟩ 1 1 (Item.five ⟨⟨F0, F1, F2, F3, F4⟩, va, vc⟩) rfl rfl hNew (five_one _) Nat.one_pos (by unfold maxLen; omega) (by omega) hbase _ rfl ?_)
             intro g gcap wa hown hgr hat hlt2))
        have HO7 := hide0 (HM3b.out.push (i := ⟨⟨F0, F1, F2, F3, F4⟩, va, vc⟩) (HVO.out.alloc _) hsz HLV.out.1 HLV.out.2 hgr hown hat)
        have HF7 := hide0 (Below.grown ((HB3.out.alloc (by omega) _).alloc (by simp only [World.size_alloc]; omega) _) hgr hbase (fun q hq => (hrow.lt q hq).1))
        clear hown hgr hat hlt2 hrow hNew hbase
        go_wp2
        go_roundw
        case rel => exact ⟨i + 6, its ++ [⟨⟨F0, F1, F2, F3, F4⟩, va, vc⟩], some ⟨g, 0, none⟩, gcap, by omega, by simp; omega, by go_num, by simp, by simpa using HO7, HALL, HF7⟩
        case measure => simp [slLen]; omega
      · go_wp2
        go_ret
        exact ⟨_, its, rfl, hl, HM, HB, HW.out⟩
    · go_wp2
      go_ret
      exact ⟨_, its, rfl, hl, HM, HB, HW.out⟩
theorem events_any (a : Option Addr) (n cap : Nat) (w : World) (hI : Hid (IntsAt w a n)) (hn : n ≤ 1000000000000000) (hnc : n ≤ cap) :
    Calls Tryz.prog 11 #[.slice a n cap, .int .i64 3] w fun e w' => ∃ (lv : Value) (its : List Item), e = .returned lv ∧ its.length ≤ 20 ∧ Hid (MadeO w.heap.size w' lv its) ∧ Hid (∀ it ∈ its, isB it.ev = true) ∧ Below w.heap.size w w' :=
  events_all 3 (by decide) (by decide) a n cap w hI hn hnc
end Go.Proofs.YtdjllnhahhjgmaaGreatDoor
namespace Go.Proofs.YtdjllnhahhjgmaaGreatDoor
open Go.RowKit Chron
theorem exp_told {es : List Ev} (h : es.length ≤ 20) (he : ∀ e ∈ es, isB e = true) : expB es = (listB (es.map tellB), 0) := by
  rw [expB, if_neg (by omega), if_pos (List.all_eq_true.2 he)]
theorem tale_len {es : List Ev} (h : es.length ≤ 20) (he : ∀ e ∈ es, isB e = true) : 2 ≤ (listB (es.map tellB)).length ∧ (listB (es.map tellB)).length ≤ 30000 := by
  have h1 := jn_len (l := es.map tellB) (m := 1000) (fun x hx => by obtain ⟨e, hem, rfl⟩ := List.mem_map.1 hx; exact tell_len (he e hem))
  have h2 : (es.map tellB).length * 1001 ≤ 20 * 1001 := Nat.mul_le_mul_right _ (by simpa using h)
  simp only [listB, List.length_cons, List.length_append, List.length_nil]
  omega
theorem imp_of {es : List Ev} {L : List UInt8} (h : es.length ≤ 20) (he : ∀ e ∈ es, isB e = true) (hL : L.length ≤ 1048576) (ha : allL L = some es) : impB L = (es, 0) := by
  rw [impB, if_neg (by omega), ha]
  simp only [exp_told h he, if_true]
set_option maxRecDepth 100000 in
set_option maxHeartbeats 4000000 in
theorem tales_any (a : Option Addr) (n cap : Nat) (a2 : Option Addr) (n2 cap2 : Nat) (w : World) (hI : Hid (IntsAt w a n)) (hn : n ≤ 1000000000000000) (hnc : n ≤ cap) (hI2 : Hid (IntsAt w a2 n2)) (hn2 : n2 ≤ maxLen) (G : Hid (Glob w.heap.size w)) (hL : Hid (LaidAt w)) :
    Calls Tryz.prog 4 #[.slice a n cap, .slice a2 n2 cap2] w fun e w' => e = .returned (.bool true) ∧ Below w.heap.size w w' := by
  go_enter Tryz.func4, Tryz.ntmps4
  go_wp2_with fail
  refine (events_any a n cap w hI hn hnc).mono ?_
  rintro e w1 ⟨lv, its, rfl, h20, HM, HIB, hb1⟩
  have hfew : ∀ it ∈ its, Few 1048576 it.ev := fun it hi => few_is (HIB.out it hi)
  obtain ⟨ma, mc, rfl, hE⟩ := HM.out.made.evs hfew
  have HE1 := hide0 hE
  have hel : (evs its).length ≤ 20 := by simpa [evs] using h20
  have heb : ∀ e ∈ evs its, isB e = true := by
    intro e he
    obtain ⟨it, hi, rfl⟩ := List.mem_map.1 he
    exact HIB.out it hi
  have hX := fun W hW hLW => export_any ma mc its W hW (by omega) hLW
  have hxt := exp_told hel heb
  obtain ⟨S, HS, hS2, hS30⟩ : ∃ S : ByteArray, Hid (S.data.toList = listB ((evs its).map tellB) ∧ (⟨(listB ((evs its).map tellB)).toArray⟩ : ByteArray) = S) ∧ 2 ≤ S.size ∧ S.size ≤ 30000 :=
    ⟨⟨(listB ((evs its).map tellB)).toArray⟩, ⟨rfl, rfl⟩, (tale_len hel heb).1, (tale_len hel heb).2⟩
  rw [hxt] at hX
  simp only [HS.out.2] at hX
  have HWF : Hid (wf false S.data.toList = true) := by show _ = _; rw [HS.out.1]; exact wf_list heb
  have hSP := fun W hW => spaced_any S a2 n2 cap2 W hW hn2 hS30 HWF
  have HSI : Hid (impB S.data.toList = (evs its, 0)) := imp_of hel heb (by rw [show S.data.toList.length = S.size from rfl]; omega) (by rw [HS.out.1]; exact told_read heb)
  have HOI : Hid (∀ O : ByteArray, Sp false S.data.toList O.data.toList → O.size ≤ 270000 → impB O.data.toList = (evs its, 0)) := by
    intro O hO hs
    refine imp_of hel heb (by rw [show O.data.toList.length = O.size from rfl]; omega) (SpB.all heb ?_)
    rw [← HS.out.1]; exact hO.b
  obtain ⟨D, hD, HDI, hDs⟩ : ∃ D : ByteArray, S.extract 0 (S.size - 1) = D ∧ Hid (impB D.data.toList = ([], 4)) ∧ D.size ≤ maxLen := by
    refine ⟨_, rfl, ?_, ?_⟩
    · have e1 : (S.extract 0 (S.size - 1)).data.toList = 91 :: jn ((evs its).map tellB) := by
        have h0 := ext_dt S 0 (S.size - 1)
        rw [Nat.zero_add, List.drop_zero, HS.out.1] at h0
        rw [h0]
        have hsz : S.size = (listB ((evs its).map tellB)).length := by rw [← HS.out.1]; rfl
        rw [hsz, listB]
        simp
      show _ = _
      rw [e1, impB, if_neg ?_, cut_none heb]
      have hsz : S.size = (listB ((evs its).map tellB)).length := by rw [← HS.out.1]; rfl
      rw [listB] at hsz
      simp at hsz ⊢
      omega
    · have h0 := congrArg List.length (ext_dt S 0 (S.size - 1))
      rw [Nat.zero_add] at h0
      have h1 : (S.extract 0 (S.size - 1)).size = (List.take (S.size - 1) (List.drop 0 S.data.toList)).length := h0
      rw [h1]
      simp only [List.length_take]
      unfold maxLen
      omega
  have hs1 := hb1.size
  have HL1 := hide0 (hL.out.below hb1 (Nat.le_refl _))
  have HI1 := hide0 (hI2.out.below hb1 (Nat.le_refl _))
  have HB1 := hide0 hb1
  have HXT := hide0 hxt
  clear hb1 hE hfew hel heb hxt HM HIB hL hI2
  go_wp2_with fail
  refine (hX w1 HE1 HL1).mono ?_
  rintro e w2 ⟨rfl, hb2⟩
  have hs2 := hb2.size
  have HE2 := hide0 (HE1.out.below hb2 (Nat.le_refl _))
  have HL2 := hide0 (HL1.out.below hb2 (Nat.le_refl _))
  have HI2 := hide0 (HI1.out.below hb2 (Nat.le_refl _))
  have HB2 := hide0 (HB1.out.trans (hb2.mono hs1))
  clear hb2 HE1 HL1 HI1 HB1
  have hlen2 : ¬ (S.size : Int) < 2 := by omega
  go_wp2_with fail
  refine (hSP w2 HI2).mono ?_
  rintro e w3 ⟨O, rfl, HO, hO, hb3⟩
  have HOI2 := hide0 (HOI.out O HO.out hO)
  have hs3 := hb3.size
  have HE3 := hide0 (HE2.out.below hb3 (Nat.le_refl _))
  have HL3 := hide0 (HL2.out.below hb3 (Nat.le_refl _))
  have HB3 := hide0 (HB2.out.trans (hb3.mono (by omega)))
  clear hb3 HE2 HL2 HI2 HB2 hSP HOI HO hlen2 HWF hX
  go_wp2_with fail
  obtain ⟨w4, HW4⟩ : ∃ w4, Hid (w4 = w3.alloc (.cells #[.string S, .string O] 9)) := ⟨_, rfl⟩
  have hs4 : w4.heap.size = w3.heap.size + 1 := by rw [HW4.out]; simp
  have HB34 : Hid (Below w3.heap.size w3 w4) := by show Below _ _ _; rw [HW4.out]; exact (Below.refl _ _).alloc (Nat.le_refl _) _
  have HE4 := hide0 (HE3.out.below HB34.out (Nat.le_refl _))
  have HL4 := hide0 (HL3.out.below HB34.out (Nat.le_refl _))
  have HB4 := hide0 (HB3.out.trans (HB34.out.mono (by omega)))
  have HT : Hid (∀ k, k < 2 → ∃ T : ByteArray, w4.cell? ⟨w3.heap.size, k, none⟩ = some (.string T) ∧ impB T.data.toList = (evs its, 0) ∧ T.size ≤ 270000) := by
    intro k hk
    have hh := heap_alloc_new w3 (.cells #[.string S, .string O] 9)
    rw [← HW4.out] at hh
    have h2 : k = 0 ∨ k = 1 := by omega
    rcases h2 with rfl | rfl
    · exact ⟨S, by simp only [World.cell?, hh]; rfl, HSI.out, by omega⟩
    · exact ⟨O, by simp only [World.cell?, hh]; rfl, HOI2.out, hO⟩
  clear HE3 HL3 HB3 HOI2 hO
  go_loopw [9] (fun iv wx => ∃ k : Nat, k ≤ 2 ∧ iv = .int .i64 k ∧ Hid (Below w4.heap.size w4 wx)) (fun iv _ => 2 - (intOf iv).toNat)
  case atStart => exact ⟨0, Nat.zero_le _, rfl, by rw [HW4.out]; exact Below.refl _ _⟩
  case round =>
    obtain ⟨k, hk, rfl, HW⟩ := hrel
    have hsr := HW.out.size
    have HBR := hide0 (HB4.out.trans (HW.out.mono (by omega)))
    by_cases hlt : k < 2
    · obtain ⟨T, hT, hTI, hTs⟩ := HT.out k hlt
      have hT := (HW.out.cell (p := ⟨w3.heap.size, k, none⟩) (by show w3.heap.size < w4.heap.size; omega)).trans hT
      have hki : (k : Int) < 2 := by omega
      have G0 : Hid (Glob wr.heap.size wr) := G.out.grow HBR.out
      have hC := import_any T wr G0 (by unfold maxLen; omega)
      rw [hTI] at hC
      simp only at hC
      go_wp2_with fail
      refine hC.mono ?_
      rintro e w5 ⟨lv, rfl, hO, hb5⟩
      obtain ⟨na, nc, js, rfl, hG⟩ := hO.out.got
      have hev : evs js = evs its := by rw [hG.evs, hTI]
      have hjl : js.length = its.length := by have := congrArg List.length hev; simpa [evs] using this
      have HEV := hide0 hev
      have HJL := hide0 hjl
      have hXJ := fun W hW hLW => export_any na nc js W hW (by omega) hLW
      rw [hev, HXT.out, hjl] at hXJ
      simp only [HS.out.2] at hXJ
      have HEJ : Hid (EvsAt w5 na js) := hG.at
      have hs5 := hb5.size
      have HW5 := hide0 (HW.out.trans (hb5.mono hsr))
      rw [hjl]
      clear hC hTI hT hTs hG hO hb5 hev hjl
      go_wp2_with fail
      go_loopw [12] (fun iv wx => ∃ i : Nat, i ≤ its.length ∧ iv = .int .i64 i ∧ Hid (Below w5.heap.size w5 wx)) (fun iv _ => its.length - (intOf iv).toNat)
      case atStart => exact ⟨0, Nat.zero_le _, rfl, Below.refl _ _⟩
      case round =>
        obtain ⟨i, hi, rfl, HQ⟩ := hrel
        have hsq := HQ.out.size
        have HWQ := hide0 (HW5.out.trans (HQ.out.mono (by omega)))
        by_cases hlt2 : i < its.length
        · obtain ⟨b1, o1, rfl, hc1⟩ := HEJ.out.below HQ.out (Nat.le_refl _) (by have := HJL.out; omega)
          obtain ⟨b2, o2, rfl, hc2⟩ := HE4.out.below HWQ.out (Nat.le_refl _) (by omega)
          obtain ⟨⟨⟨kd, tk, tm, bd, ts⟩, ta, tc⟩, hx⟩ : ∃ x, js[i]? = some x := ⟨_, List.getElem?_eq_getElem (by rw [HJL.out]; exact hlt2)⟩
          obtain ⟨⟨ev, ta2, tc2⟩, hy⟩ : ∃ x, its[i]? = some x := ⟨_, List.getElem?_eq_getElem hlt2⟩
          have hev : ev = ⟨kd, tk, tm, bd, ts⟩ := by
            have := congrArg (fun l => l[i]?) HEV.out
            simp only [evs, List.getElem?_map, hx, hy, Option.map_some, Option.some.injEq] at this
            exact this.symm
          subst hev
          obtain ⟨⟨c0, c1, c2, c3, c4⟩, hok⟩ := hc1 i _ hx
          obtain ⟨⟨d0, d1, d2, d3, d4⟩, hok2⟩ := hc2 i _ hy
          simp only at c0 c1 c2 c3 c4 d0 d1 d2 d3 d4
          have HOK := hide0 hok
          have HOK2 := hide0 hok2
          have hii : (i : Int) < (its.length : Int) := by omega
          have hS := same_keep ⟨kd, tk, tm, bd, ts⟩ ⟨kd, tk, tm, bd, ts⟩ ta ta2 tc tc2 wr.drew HOK.out.tags HOK2.out.tags (by have := HOK.out.few; unfold maxLen; simp only at this ⊢; omega) (by have := HOK.out.few; unfold maxLen; simp only at this ⊢; omega)
          simp only [evVal, (sameEv_iff (e := ⟨kd, tk, tm, bd, ts⟩) (f := ⟨kd, tk, tm, bd, ts⟩)).2 rfl] at hS
          have lt1 : b1 < wr.drew.heap.size := World.block_lt_of_cell? wr _ c0
          have lt2 : b2 < wr.drew.heap.size := World.block_lt_of_cell? wr _ d0
          clear hc1 hc2 hok hok2 hx hy
          go_wp2_with fail
          go_region_held (fun w' => w'.cell? ⟨b1, o1 + i * 5, none⟩ = some (.int .i64 kd) ∧ w'.cell? ⟨b1, o1 + i * 5 + 1, none⟩ = some (.string tk) ∧ w'.cell? ⟨b1, o1 + i * 5 + 2, none⟩ = some (.int .i64 tm) ∧ w'.cell? ⟨b1, o1 + i * 5 + 3, none⟩ = some (.string bd) ∧ w'.cell? ⟨b1, o1 + i * 5 + 4, none⟩ = some (.slice ta ts.length tc) ∧ w'.cell? ⟨b2, o2 + i * 5, none⟩ = some (.int .i64 kd) ∧ w'.cell? ⟨b2, o2 + i * 5 + 1, none⟩ = some (.string tk) ∧ w'.cell? ⟨b2, o2 + i * 5 + 2, none⟩ = some (.int .i64 tm) ∧ w'.cell? ⟨b2, o2 + i * 5 + 3, none⟩ = some (.string bd) ∧ w'.cell? ⟨b2, o2 + i * 5 + 4, none⟩ = some (.slice ta2 ts.length tc2)) (go_keep)
            (first | (go_at_call 14; refine hS.mono ?_; rintro e w6 ⟨rfl, hb6⟩; have p0 := (hb6.cell (p := ⟨b1, o1 + i * 5, none⟩) lt1).trans c0; have p1 := (hb6.cell (p := ⟨b1, o1 + i * 5 + 1, none⟩) lt1).trans c1; have p2 := (hb6.cell (p := ⟨b1, o1 + i * 5 + 2, none⟩) lt1).trans c2; have p3 := (hb6.cell (p := ⟨b1, o1 + i * 5 + 3, none⟩) lt1).trans c3; have p4 := (hb6.cell (p := ⟨b1, o1 + i * 5 + 4, none⟩) lt1).trans c4; have q0 := (hb6.cell (p := ⟨b2, o2 + i * 5, none⟩) lt2).trans d0; have q1 := (hb6.cell (p := ⟨b2, o2 + i * 5 + 1, none⟩) lt2).trans d1; have q2 := (hb6.cell (p := ⟨b2, o2 + i * 5 + 2, none⟩) lt2).trans d2; have q3 := (hb6.cell (p := ⟨b2, o2 + i * 5 + 3, none⟩) lt2).trans d3; have q4 := (hb6.cell (p := ⟨b2, o2 + i * 5 + 4, none⟩) lt2).trans d4))
          all_goals
            have HQ6 := hide0 (HQ.out.drew.trans (hb6.mono (by show w5.heap.size ≤ wr.heap.size; exact hsq)))
            clear hb6 p0 p1 p2 p3 p4 q0 q1 q2 q3 q4 c0 c1 c2 c3 c4 d0 d1 d2 d3 d4 hS
            go_wp2
            go_roundw
            case rel => exact ⟨i + 1, by omega, by go_num, HQ6⟩
            case measure => simp [intOf]; omega
        · go_wp2_with fail
          refine (hXJ _ (HEJ.out.below HQ.out (Nat.le_refl _)) (HL4.out.below HWQ.out (Nat.le_refl _))).mono ?_
          rintro e w6 ⟨rfl, hb6⟩
          have HW6 := hide0 (HWQ.out.trans (hb6.mono (by omega)))
          clear hb6
          go_wp2_with fail
          go_roundw
          case rel => exact ⟨k + 1, by omega, by go_num, HW6⟩
          case measure => simp [intOf]; omega
    · go_wp2_with fail
      have GR : Hid (Glob wr.heap.size wr) := G.out.grow HBR.out
      have hC := import_any D wr GR hDs
      rw [HDI.out] at hC
      simp only at hC
      refine hC.mono ?_
      rintro e w5 ⟨lv, rfl, hO, hb5⟩
      obtain ⟨na, nc, js, rfl, hG⟩ := hO.out.got
      have hj0 : js = [] := by
        have h1 := hG.evs
        rw [HDI.out] at h1
        simpa [evs] using h1
      subst hj0
      have HB5 := hide0 (HBR.out.trans (hb5.mono (by omega)))
      clear hC hG hO hb5
      go_wp2_with fail
      go_ret
      exact ⟨rfl, HB5.out⟩
end Go.Proofs.YtdjllnhahhjgmaaGreatDoor
