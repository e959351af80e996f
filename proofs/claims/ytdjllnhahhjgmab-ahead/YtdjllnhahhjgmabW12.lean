/- Walks and plain facts, in the order in which they lean on one another. -/
import Derived.Test.YtdjllnhahhjgmabW03
import Derived.Test.YtdjllnhahhjgmabW11
import Derived.Test.YtdjllnhahhjgmabW10
namespace Go.Proofs.Ytdjllnhahhjgmab
open Go.RowKit Chron
theorem raw_int (a : Option Addr) (n cap : Nat) (i : Int) (w : World) (h : Hid (IntsAt w a n)) (hn : n ≤ maxLen) (h0 : 0 ≤ i) (hi : i ≤ 100) :
    Calls Try.prog 16 #[.slice a n cap, .int .i64 i] w fun e w' => (∃ z, e = .returned (.int .i64 z) ∧ Hid (-9223372036854775808 ≤ z)) ∧ w' = w := by
  obtain ⟨j, rfl⟩ := Int.eq_ofNat_of_zero_le h0
  exact raw_any a n cap j w h hn (by omega)
theorem line_40 (c : Int) (w : World) (h0 : Hid (-9223372036854775808 ≤ c)) : Calls Try.prog 28 #[.int .i64 c, .int .i64 40] w fun e w' => (∃ s, e = .returned (.string s) ∧ Hid (lineN s 40)) ∧ Below w.heap.size w w' := line_any c 40 w h0 (by omega)
theorem line_60 (c : Int) (w : World) (h0 : Hid (-9223372036854775808 ≤ c)) : Calls Try.prog 28 #[.int .i64 c, .int .i64 60] w fun e w' => (∃ s, e = .returned (.string s) ∧ Hid (lineN s 60)) ∧ Below w.heap.size w w' := line_any c 60 w h0 (by omega)
theorem line_20 (c : Int) (w : World) (h0 : Hid (-9223372036854775808 ≤ c)) : Calls Try.prog 28 #[.int .i64 c, .int .i64 20] w fun e w' => (∃ s, e = .returned (.string s) ∧ Hid (lineN s 20)) ∧ Below w.heap.size w w' := line_any c 20 w h0 (by omega)
set_option maxRecDepth 100000 in
set_option maxHeartbeats 400000 in
theorem raw_fix (a : Option Addr) (n cap i : Nat) (w : World) (h : IntsAt w a n) (_hn : n ≤ maxLen) (_hi : i ≤ 4) :
    ∃ z, Hid (-9223372036854775808 ≤ z) ∧ ∀ X, Below w.heap.size w X → Calls Try.prog 16 #[.slice a n cap, .int .i64 (5 + (i : Int))] X fun e w' => e = .returned (.int .i64 z) ∧ w' = X := by
  unfold maxLen at _hn
  by_cases hlt : 5 + i < n
  · obtain ⟨b, off, z, rfl, hc, hz⟩ := h (5 + i) hlt
    refine ⟨z, hz, fun X hb => ?_⟩
    have hlb := World.block_lt_of_cell? w _ hc
    have hc' : X.cell? ⟨b, off + (5 + i), none⟩ = some (.int .i64 z) := (hb.cell (p := ⟨b, off + (5 + i), none⟩) hlb).trans hc
    have hi5 : (5 + (i : Int)) < (n : Int) := by omega
    have ht5 : (5 + (i : Int)).toNat = 5 + i := by omega
    clear hc hlb hb
    go_enter Try.func16, Try.ntmps16
    go_wp2
    go_ret
    exact ⟨rfl, rfl⟩
  · refine ⟨0, by show (-9223372036854775808 : Int) ≤ 0; decide, fun X _ => ?_⟩
    go_enter Try.func16, Try.ntmps16
    go_wp2
    go_ret
    exact ⟨rfl, rfl⟩
theorem conv_at (x : Int) (h0 : 0 ≤ x) (h1 : x < 256) (X : World) (b : Nat) (hX : X.heap[b]? = some (.cells #[.int .u8 x] 5)) :
    (convert 46 9 (.slice (some ⟨b, 0, none⟩) 1 1)).run Try.prog X = .ok (.string ⟨#[UInt8.ofNat x.toNat]⟩) X := by
  refine run_convert_bytes_back X _ _ 5 ⟨b, 0, none⟩ 1 [UInt8.ofNat x.toNat] Try.underlying46 Try.underlying5 Try.underlying9 ?_
  intro j hj
  have hj0 : j = 0 := by simpa using hj
  subst hj0
  simp [World.cell?, Addr.add, hX]
  omega
theorem cell_one_new2 (w : World) (o : Obj) (v : Value) (t : TypeId) : ∀ j u, [v][j]? = some u → ((w.alloc o).alloc (.cells #[v] t)).cell? ((⟨w.heap.size + 1, 0, none⟩ : Addr).add j) = some u := by
  have := cell_one_new (w.alloc o) v t
  rw [World.size_alloc] at this
  exact this
theorem own_two {w : World} {base : Nat} {e : TypeId} {size : Nat} {v : Value} {n : Nat} {xs : List Value} (h : w.ownsRow base e size v n xs) (o o' : Obj) : ((w.alloc o).alloc o').ownsRow base e size v n xs := (h.alloc o).alloc o'
theorem tag_made {s : ByteArray} {L : Nat} (h : lineN s 20) (hL : L ≤ 4) : ∃ r : List UInt8, (⟨#[UInt8.ofNat (97 + (L : Int)).toNat]⟩ ++ s : ByteArray).data.toList = UInt8.ofNat (97 + L) :: r ∧ r.length ≤ 20 ∧ r.all byteOk = true := by
  refine ⟨s.data.toList, ?_, by have := h.1; simpa using this, h.2⟩
  have e : (97 + (L : Int)).toNat = 97 + L := by omega
  rw [e]
  obtain ⟨⟨s⟩⟩ := s; simp
structure EvAt (N P : Nat) (w wx : World) (k : Int) (t : ByteArray) (m : Int) (b : ByteArray) (v : Value) : Prop where
  box : wx.heap[P]? = some (.cells #[.int .i64 k, .string t, .int .i64 m, .string b, v] 36)
  res : wx.heap[N]? = some (.cells #[.int .i64 0, .string ⟨#[]⟩, .int .i64 0, .string ⟨#[]⟩, .slice none 0 0] 36)
  bel : Below N w wx
  lt : N < P
  big : P + 1 ≤ wx.heap.size
theorem EvAt.grown {N P : Nat} {w wx wy : World} {k : Int} {t : ByteArray} {m : Int} {b : ByteArray} {v : Value} {row : Option Nat} (h : EvAt N P w wx k t m b v) (hg : wx.grownBy wy row) (hr : ∀ q, row = some q → P + 1 ≤ q) : EvAt N P w wy k t m b v := by
  have hbig := h.big
  have hlt := h.lt
  have hblk : ∀ q, q ≤ P → wy.heap[q]? = wx.heap[q]? := fun q hq => hg.block q (by omega) (fun e => by have := hr q e.symm; omega)
  exact ⟨(hblk P (Nat.le_refl _)).trans h.box, (hblk N (by omega)).trans h.res, h.bel.trans ⟨hg.os, hg.tape, hg.output, hg.size, fun q hq => hblk q (by omega)⟩, hlt, Nat.le_trans hbig hg.size⟩
theorem EvAt.below {N P : Nat} {w wx wy : World} {k : Int} {t : ByteArray} {m : Int} {b : ByteArray} {v : Value} (h : EvAt N P w wx k t m b v) (hb : Below wx.heap.size wx wy) : EvAt N P w wy k t m b v :=
  h.grown (row := none) ⟨hb.os, hb.tape, hb.output, hb.size, fun k hk _ => hb.block k hk⟩ (fun q hq => by cases hq)
theorem EvAt.alloc {N P : Nat} {w wx : World} {k : Int} {t : ByteArray} {m : Int} {b : ByteArray} {v : Value} (h : EvAt N P w wx k t m b v) (o : Obj) : EvAt N P w (wx.alloc o) k t m b v :=
  h.below ((Below.refl _ _).alloc (Nat.le_refl _) _)
theorem EvAt.drew {N P : Nat} {w wx : World} {k : Int} {t : ByteArray} {m : Int} {b : ByteArray} {v : Value} (h : EvAt N P w wx k t m b v) : EvAt N P w wx.drew k t m b v :=
  ⟨h.box, h.res, h.bel.drew, h.lt, h.big⟩
theorem EvAt.put {N P : Nat} {w wx : World} {k : Int} {t : ByteArray} {m : Int} {b : ByteArray} {v : Value} (h : EvAt N P w wx k t m b v) :
    (∀ k', EvAt N P w (wx.setCell ⟨P, 0, none⟩ (.int .i64 k')) k' t m b v) ∧ (∀ m', EvAt N P w (wx.setCell ⟨P, 2, none⟩ (.int .i64 m')) k t m' b v) ∧ (∀ v', EvAt N P w (wx.setCell ⟨P, 4, none⟩ v') k t m b v') := by
  have hlt := h.lt
  refine ⟨fun x => ⟨?_, ?_, h.bel.setCell (by simp; omega) _, hlt, ?_⟩, fun x => ⟨?_, ?_, h.bel.setCell (by simp; omega) _, hlt, ?_⟩, fun x => ⟨?_, ?_, h.bel.setCell (by simp; omega) _, hlt, ?_⟩⟩
  all_goals first
    | (rw [Below.heap_setCell _ _ _ _ (by simp; omega)]; exact h.res)
    | (simp [World.setCell]; exact h.big)
    | (simp [World.setCell, Array.getElem?_modify, h.box])
set_option maxRecDepth 100000 in
set_option maxHeartbeats 8000000 in
theorem event_any (v : Int) (a : Option Addr) (n cap : Nat) (w : World) (hI : Hid (IntsAt w a n)) (hn : n ≤ maxLen) (hv1 : 1 ≤ v) (_hv3 : v ≤ 3) :
    Calls Try.prog 15 #[.slice a n cap, .int .i64 v] w fun e w' =>
      ∃ E x, e = .returned (evVal E x) ∧ Hid (∀ k, v ≤ k → k ≤ 3 → goesB k E = true) ∧ w'.ownsRow w.heap.size 9 1 x E.tags.length (E.tags.map Value.string) ∧ Below w.heap.size w w' := by
  have hI0 : Hid (IntsAt (w.alloc (.cells #[.int .i64 0, .string ⟨#[]⟩, .int .i64 0, .string ⟨#[]⟩, .slice none 0 0] 36)) a n) := hI.out.below ((Below.refl _ _).alloc (Nat.le_refl _) _) (Nat.le_refl _)
  go_enter Try.func15, Try.ntmps15
  go_wp2_with fail
  refine (raw_int a n cap 0 _ hI0 hn (by omega) (by omega)).mono ?_
  rintro e wq ⟨⟨z0, rfl, hz0⟩, hwq⟩
  have hwq' := hwq.symm; subst hwq'; clear hwq
  go_wp2_with fail
  refine (pick_any z0 4 _ hz0.out (by omega)).mono ?_
  rintro e wq ⟨⟨p0, rfl, hp0, hp1⟩, hwq⟩
  have hwq' := hwq.symm; subst hwq'; clear hwq
  go_wp2_with fail
  refine (raw_int a n cap 1 _ hI0 hn (by omega) (by omega)).mono ?_
  rintro e wq ⟨⟨z1, rfl, hz1⟩, hwq⟩
  have hwq' := hwq.symm; subst hwq'; clear hwq
  go_wp2_with fail
  refine (line_40 z1 _ hz1).mono ?_
  rintro e w1 ⟨⟨s1, rfl, hs1⟩, hb1⟩
  have hI1 : Hid (IntsAt w1 a n) := hI0.out.below hb1 (Nat.le_refl _)
  have hsz1 := hs1.out.1
  go_wp2_with fail
  refine (raw_int a n cap 2 _ hI1 hn (by omega) (by omega)).mono ?_
  rintro e wq ⟨⟨z2, rfl, hz2⟩, hwq⟩
  have hwq' := hwq.symm; subst hwq'; clear hwq
  go_wp2_with fail
  refine (line_60 z2 _ hz2).mono ?_
  rintro e w2 ⟨⟨s2, rfl, hs2⟩, hb2⟩
  have hI2 : Hid (IntsAt w2 a n) := hI1.out.below hb2 (Nat.le_refl _)
  have hsA := hb1.size
  rw [World.size_alloc] at hsA
  have hsB := hb2.size
  have hZ1 := (hb1.block w.heap.size (by rw [World.size_alloc]; omega)).trans (heap_alloc_new w _)
  have hZ2 := (hb2.block w.heap.size (by omega)).trans hZ1
  have HE0 : Hid (EvAt w.heap.size w2.heap.size w (w2.alloc (.cells #[.int .i64 (1 + p0), .string (⟨#[116]⟩ ++ s1), .int .i64 0, .string s2, .slice none 0 0] 36)) (1 + p0) (⟨#[116]⟩ ++ s1) 0 s2 (.slice none 0 0)) :=
    ⟨heap_alloc_new w2 _, (Below.heap_alloc _ _ _ (by omega)).trans hZ2, ((((Below.refl w.heap.size w).alloc (Nat.le_refl _) _).trans (hb1.mono (by rw [World.size_alloc]; omega))).trans (hb2.mono (by omega))).alloc (by omega) _, by omega, by rw [World.size_alloc]; omega⟩
  have hI3 : Hid (IntsAt (w2.alloc (.cells #[.int .i64 (1 + p0), .string (⟨#[116]⟩ ++ s1), .int .i64 0, .string s2, .slice none 0 0] 36)) a n) := hI2.out.below ((Below.refl _ _).alloc (Nat.le_refl _) _) (Nat.le_refl _)
  have hIold : Hid (∀ wx, Below w.heap.size w wx → IntsAt wx a n) := fun wx hb => hI.out.below hb (Nat.le_refl _)
  clear hb1 hb2 hZ1 hZ2 hI0 hI1 hI2 hsB hsA
  obtain ⟨P, hP⟩ : ∃ P, P = w2.heap.size := ⟨_, rfl⟩
  by_cases hv : v = 1
  · have hvb : (v == 1) = true := by simp [hv]
    have HV := hide0 hv
    clear hv
    go_wp2_with fail
    generalize w2.alloc (.cells #[.int .i64 (1 + p0), .string (⟨#[116]⟩ ++ s1), .int .i64 0, .string s2, .slice none 0 0] 36) = W3 at HE0 hI3 ⊢
    refine (raw_int a n cap 0 _ hI3 hn (by omega) (by omega)).mono ?_
    rintro e wq ⟨⟨z3, rfl, hz3⟩, hwq⟩
    have hwq' := hwq.symm; subst hwq'; clear hwq
    go_wp2_with fail
    refine (pick_any z3 3 _ hz3.out (by omega)).mono ?_
    rintro e wq ⟨⟨p3, rfl, hp2, hp3⟩, hwq⟩
    have hwq' := hwq.symm; subst hwq'; clear hwq
    obtain ⟨c0, c1, c2, c3, c4, cz⟩ := res_cells HE0.out.box
    obtain ⟨r0, r1, r2, r3, r4, rz⟩ := res_cells HE0.out.res
    have hne : ¬ w2.heap.size = w.heap.size := by have := HE0.out.lt; omega
    go_wp2
    refine bodyPost_ret (v := evVal ⟨1 + p3, ⟨#[116]⟩ ++ s1, 0, s2, []⟩ (.slice none 0 0)) (by simp [results, Try.results15, go_sem, evVal, r0, r1, r2, r3, r4]) rfl ⟨⟨1 + p3, ⟨#[116]⟩ ++ s1, 0, s2, []⟩, .slice none 0 0, rfl, ?_, World.ownsRow_nil _ _ _ _, ?_⟩
    · intro k hk1 hk3
      exact event_goes (v := v) hs1.out hs2.out rfl rfl (by simp; omega) (by simp; omega) (by simp) (by simp) (tagsI_ok (fun i hi => by simp at hi) (by simp)) hv1 hk1 hk3 (fun _ => ⟨by simp; omega, rfl⟩) (fun _ => rfl)
    · exact below_set5 (HE0.out.bel.setCell (Nat.le_of_lt HE0.out.lt) _) (Nat.le_refl _)
  · have hvb : (v == 1) = false := by simp [hv]
    have HV := hide0 hv
    clear hv
    go_wp2_with fail
    generalize w2.alloc (.cells #[.int .i64 (1 + p0), .string (⟨#[116]⟩ ++ s1), .int .i64 0, .string s2, .slice none 0 0] 36) = W3 at HE0 hI3 ⊢
    refine (raw_int a n cap 3 _ hI3 hn (by omega) (by omega)).mono ?_
    rintro e wq ⟨⟨z3, rfl, hz3⟩, hwq⟩
    have hwq' := hwq.symm; subst hwq'; clear hwq
    go_wp2_with fail
    refine (pick_any z3 1125899906842625 _ hz3.out (by omega)).mono ?_
    rintro e wq ⟨⟨p3, rfl, hp2, hp3⟩, hwq⟩
    have hwq' := hwq.symm; subst hwq'; clear hwq
    obtain ⟨c0, c1, c2, c3, c4, cz⟩ := res_cells HE0.out.box
    have HE1 : Hid _ := HE0.out.put.2.1 p3
    go_wp2_with fail
    have hlt0 := HE0.out.lt
    have HP : Hid (P = w2.heap.size) := hP
    clear c0 c1 c2 c3 c4 cz HE0 hI3 hP
    go_loopw [6] (fun i wx => ∃ (acc : List ByteArray) (a' : Option Addr) (cap' : Nat), acc.length ≤ 4 ∧ i = .int .i64 acc.length ∧ Hid (EvAt w.heap.size w2.heap.size w wx (1 + p0) (⟨#[116]⟩ ++ s1) p3 s2 (.slice a' acc.length cap')) ∧ Hid (wx.ownsRow (w2.heap.size + 1) 9 1 (.slice a' acc.length cap') acc.length (acc.map Value.string)) ∧ Hid (TagsI acc) ∧ Hid (v ≤ 2 → acc = [])) (fun i _ => 4 - (intOf i).toNat)
    case atStart => exact ⟨[], none, 0, by simp, rfl, HE1, World.ownsRow_nil _ _ _ _, fun i hi => by simp at hi, fun _ => rfl⟩
    case round =>
      obtain ⟨acc, a', cap', hacc, rfl, HE, HO, HT, H2⟩ := hrel
      clear HE1
      have hIr : Hid (IntsAt wr a n) := hIold.out wr HE.out.bel
      go_wp2_with fail
      refine (raw_int a n cap 4 _ hIr hn (by omega) (by omega)).mono ?_
      rintro e wq ⟨⟨z4, rfl, hz4⟩, hwq⟩
      have hwq' := hwq.symm; subst hwq'; clear hwq
      go_wp2_with fail
      refine (pick_any z4 5 _ hz4.out (by omega)).mono ?_
      rintro e wq ⟨⟨p5, rfl, hp5, hp6⟩, hwq⟩
      have hwq' := hwq.symm; subst hwq'; clear hwq
      obtain ⟨c0, c1, c2, c3, c4, cz⟩ := res_cells HE.out.box
      by_cases hgo : (acc.length : Int) < p5
      · by_cases hv3' : v = 3
        · have hv3b : (v == 3) = true := by simp [hv3']
          have HV3 : Hid (v = 3) := hv3'
          clear hv3'
          have w97 : IntKind.i64.wrap (97 + (acc.length : Int)) = 97 + (acc.length : Int) := wrapI_small (by omega) (by omega)
          have w5 : IntKind.i64.wrap (5 + (acc.length : Int)) = 5 + (acc.length : Int) := wrapI_small (by omega) (by omega)
          have w8 : IntKind.u8.wrap (97 + (acc.length : Int)) = 97 + (acc.length : Int) := by simp [IntKind.wrap, IntKind.bits, IntKind.signed]; omega
          have hL4 : acc.length ≤ 3 := by omega
          obtain ⟨i0, hi, hz0', hz1', hz2'⟩ := info_parts infoString
          obtain ⟨z5, hz5, hraw⟩ := raw_fix a n cap acc.length w hI.out hn (by omega)
          have hB0 : Below w.heap.size w wr.drew := HE.out.bel.drew
          have hB1 : ∀ o, Below w.heap.size w (wr.alloc o).drew := fun o => (HE.out.bel.alloc (by have := HE.out.big; omega) o).drew
          have e1 : acc.length + 1 ≤ maxLen := by unfold maxLen; omega
          have e2 : (acc.length + 1) * 16 ≤ 140737488355328 := by omega
          have d4 : ∀ o, (wr.alloc o).cell? ⟨w2.heap.size, 4, none⟩ = some (.slice a' acc.length cap') := fun o => (res_cells (HE.out.alloc o).box).2.2.2.2.1
          have hline : ∀ X, (X = wr.drew ∨ X = (wr.alloc (.cells #[.int .u8 (97 + (acc.length : Int))] 5)).drew) → Calls Try.prog 28 #[.int .i64 z5, .int .i64 20] X fun e wz => ∃ s, e = .returned (.string s) ∧ ¬ 9223372036854775807 < 1 + s.size ∧ Hid (lineN s 20) ∧ Hid (EvAt w.heap.size w2.heap.size w wz (1 + p0) (⟨#[116]⟩ ++ s1) p3 s2 (.slice a' acc.length cap')) ∧ Hid (wz.ownsRow (w2.heap.size + 1) 9 1 (.slice a' acc.length cap') acc.length (acc.map Value.string)) ∧
              wz.cell? ⟨w2.heap.size, 4, none⟩ = some (.slice a' acc.length cap') ∧ (∀ o, (wz.alloc o).cell? ⟨w2.heap.size, 4, none⟩ = some (.slice a' acc.length cap')) ∧ (∀ o o', ((wz.alloc o).alloc o').cell? ⟨w2.heap.size, 4, none⟩ = some (.slice a' acc.length cap')) ∧
              (X = (wr.alloc (.cells #[.int .u8 (97 + (acc.length : Int))] 5)).drew → (convert 46 9 (.slice (some ⟨wr.heap.size, 0, none⟩) 1 1)).run Try.prog wz = .ok (.string ⟨#[UInt8.ofNat (97 + (acc.length : Int)).toNat]⟩) wz) ∧ (∀ o, (convert 46 9 (.slice (some ⟨wz.heap.size, 0, none⟩) 1 1)).run Try.prog ((wz.alloc (.cells #[.int .u8 (97 + (acc.length : Int))] 5)).alloc o) = .ok (.string ⟨#[UInt8.ofNat (97 + (acc.length : Int)).toNat]⟩) ((wz.alloc (.cells #[.int .u8 (97 + (acc.length : Int))] 5)).alloc o)) := by
            intro X hX
            refine (line_20 z5 X hz5).mono ?_
            rintro e wz ⟨⟨s, rfl, hs⟩, hb⟩
            have HY : EvAt w.heap.size w2.heap.size w wz (1 + p0) (⟨#[116]⟩ ++ s1) p3 s2 (.slice a' acc.length cap') := by
              rcases hX with rfl | rfl
              · exact HE.out.drew.below hb
              · exact (HE.out.alloc _).drew.below hb
            refine ⟨s, rfl, by have := hs.out.1; omega, hs, HY, ?_, (res_cells HY.box).2.2.2.2.1, fun o => (res_cells (HY.alloc o).box).2.2.2.2.1, fun o o' => (res_cells ((HY.alloc o).alloc o').box).2.2.2.2.1, ?_, ?_⟩
            · rcases hX with rfl | rfl
              · exact own_below (World.ownsRow.drew HO.out) hb
              · exact own_below (World.ownsRow.drew (World.ownsRow.alloc HO.out _)) hb
            · intro hX2
              subst hX2
              exact conv_at _ (by omega) (by omega) wz _ ((hb.block wr.heap.size (by show wr.heap.size < (wr.alloc _).heap.size; rw [World.size_alloc]; omega)).trans (heap_alloc_new wr _))
            · intro o
              exact conv_at _ (by omega) (by omega) _ _ ((Below.heap_alloc _ _ _ (by rw [World.size_alloc]; omega)).trans (heap_alloc_new wz _))
          have hcvD : (convert 46 9 (.slice (some ⟨wr.heap.size, 0, none⟩) 1 1)).run Try.prog (wr.alloc (.cells #[.int .u8 (97 + (acc.length : Int))] 5)).drew = .ok (.string ⟨#[UInt8.ofNat (97 + (acc.length : Int)).toNat]⟩) (wr.alloc (.cells #[.int .u8 (97 + (acc.length : Int))] 5)).drew := conv_at _ (by omega) (by omega) _ _ (heap_alloc_new wr _)
          have hcv := conv_one (97 + (acc.length : Int)) (by omega) (by omega)
          have HKEEP : Hid (TagsI acc ∧ acc.length ≤ 4 ∧ (0 ≤ p5 ∧ p5 < 5 ∧ (acc.length : Int) < p5) ∧ (v ≤ 2 → acc = []) ∧ v = 3) := ⟨HT.out, hacc, ⟨hp5, hp6, hgo⟩, H2.out, HV3.out⟩
          go_upto_region 9 with fail
          clear c0 c1 c2 c3 HT H2 hIr hI hIold hz4 hz3 hz2 hz1 hz0 hs1 hs2 hp5 hp6 hacc hsz1 hp0 hp1 hp2 hp3 hn HP hv1 _hv3 hlt0 HV hvb hv3b hgo hL4
          go_region_law (first
            | (have hq9 := HQ.out
               have e3 : ∀ o, w2.heap.size + 1 ≤ (wz.alloc o).heap.size := fun o => by have := HY.out.big; simp; omega
               refine step_append_lies _ rfl _ _ 34 rfl (w2.heap.size + 1) 9 i0 (.string ⟨#[]⟩) 1 16 Try.underlying34 hi hz0' hz1' hz2' rfl Nat.one_pos _ _ _ rfl (World.ownsRow.alloc hq9 _) ⟨wz.heap.size, 0, none⟩ 1 1 [_] rfl rfl (cell_one_new _ _ _) (one_string _) Nat.one_pos e1 e2 (e3 _) _ rfl ?_
               clear hq9 e3
               intro g cap'' wa hown' hgrow hat hglt
               have HA : Hid (EvAt w.heap.size w2.heap.size w wa (1 + p0) (⟨#[116]⟩ ++ s1) p3 s2 (.slice a' acc.length cap')) := (HY.out.alloc _).grown hgrow (fun q hq => (World.ownsRow.lt HQ.out q hq).1)
               have HO' : Hid (wa.ownsRow (w2.heap.size + 1) 9 1 (.slice (some ⟨g, 0, none⟩) (acc.length + 1) cap'') (acc.length + 1) (acc.map Value.string ++ [.string (⟨#[UInt8.ofNat (97 + (acc.length : Int)).toNat]⟩ ++ s)])) := hown'
               have ca := (res_cells HA.out.box).2.2.2.2.1
               have za := (res_cells HA.out.box).2.2.2.2.2
               clear hgrow hown' hat)
            | (have hq9 := HQ.out
               have e3 : ∀ o o', w2.heap.size + 1 ≤ ((wz.alloc o).alloc o').heap.size := fun o o' => by have := HY.out.big; simp; omega
               refine step_append_lies _ rfl _ _ 34 rfl (w2.heap.size + 1) 9 i0 (.string ⟨#[]⟩) 1 16 Try.underlying34 hi hz0' hz1' hz2' rfl Nat.one_pos _ _ _ rfl (own_two hq9 _ _) ⟨wz.heap.size + 1, 0, none⟩ 1 1 [_] rfl rfl (cell_one_new2 _ _ _ _) (one_string _) Nat.one_pos e1 e2 (e3 _ _) _ rfl ?_
               clear hq9 e3
               intro g cap'' wa hown' hgrow hat hglt
               have HA : Hid (EvAt w.heap.size w2.heap.size w wa (1 + p0) (⟨#[116]⟩ ++ s1) p3 s2 (.slice a' acc.length cap')) := ((HY.out.alloc _).alloc _).grown hgrow (fun q hq => (World.ownsRow.lt HQ.out q hq).1)
               have HO' : Hid (wa.ownsRow (w2.heap.size + 1) 9 1 (.slice (some ⟨g, 0, none⟩) (acc.length + 1) cap'') (acc.length + 1) (acc.map Value.string ++ [.string (⟨#[UInt8.ofNat (97 + (acc.length : Int)).toNat]⟩ ++ s)])) := hown'
               have ca := (res_cells HA.out.box).2.2.2.2.1
               have za := (res_cells HA.out.box).2.2.2.2.2
               clear hgrow hown' hat)
            | (go_simp; go_at_call 16; refine (hraw _ ?_).mono ?_; first | exact hB0 | exact hB1 _
               rintro e wq ⟨rfl, hwq⟩; have hwq' := hwq.symm; subst hwq'; clear hwq)
            | (go_simp; go_at_call 28; refine (hline _ ?_).mono ?_; first | exact Or.inl rfl | exact Or.inr rfl
               rintro e wz ⟨s, rfl, hsz20, hsl, HY, HQ, cz0, cz1, cz2, cvz, cvy⟩))
          all_goals
            obtain ⟨k1, k2, ⟨k3, k4, k5⟩, k6, k7⟩ := HKEEP.out
            clear hline hraw hcv hcvD d4 cvz cvy cz0 cz1 cz2 hB0 hB1
            have HX1 : Hid ((acc ++ [(⟨#[UInt8.ofNat (97 + (acc.length : Int)).toNat]⟩ ++ s)]).length ≤ 4) := by show _ ≤ _; simp; omega
            have HX2 : Hid (Value.int .i64 ((acc.length : Int) + 1) = .int .i64 ((acc ++ [(⟨#[UInt8.ofNat (97 + (acc.length : Int)).toNat]⟩ ++ s)]).length : Nat)) := by show _ = _; simp
            have HX3 : Hid (EvAt w.heap.size w2.heap.size w (wa.setCell ⟨w2.heap.size, 4, none⟩ (.slice (some ⟨g, 0, none⟩) (acc.length + 1) cap'')) (1 + p0) (⟨#[116]⟩ ++ s1) p3 s2 (.slice (some ⟨g, 0, none⟩) (acc ++ [(⟨#[UInt8.ofNat (97 + (acc.length : Int)).toNat]⟩ ++ s)]).length cap'')) := by
              show EvAt _ _ _ _ _ _ _ _ _
              rw [List.length_append]; exact HA.out.put.2.2 _
            have HX4 : Hid ((wa.setCell ⟨w2.heap.size, 4, none⟩ (.slice (some ⟨g, 0, none⟩) (acc.length + 1) cap'')).ownsRow (w2.heap.size + 1) 9 1 (.slice (some ⟨g, 0, none⟩) (acc ++ [(⟨#[UInt8.ofNat (97 + (acc.length : Int)).toNat]⟩ ++ s)]).length cap'') (acc ++ [(⟨#[UInt8.ofNat (97 + (acc.length : Int)).toNat]⟩ ++ s)]).length ((acc ++ [(⟨#[UInt8.ofNat (97 + (acc.length : Int)).toNat]⟩ ++ s)]).map Value.string)) := by
              show World.ownsRow _ _ _ _ _ _ _
              rw [List.length_append, List.map_append]; exact ownsRow_setCell_below HO'.out (Nat.lt_succ_self _) _
            have HX5 : Hid (TagsI (acc ++ [(⟨#[UInt8.ofNat (97 + (acc.length : Int)).toNat]⟩ ++ s)])) := tagsI_push k1 (tag_made hsl.out k2)
            have HX6 : Hid (v ≤ 2 → acc ++ [(⟨#[UInt8.ofNat (97 + (acc.length : Int)).toNat]⟩ ++ s)] = []) := fun h => by omega
            clear k1 k2 k6 k7
            go_wp2
            go_roundw
            case rel =>
              first
                | exact ⟨acc ++ [(⟨#[UInt8.ofNat (97 + (acc.length : Int)).toNat]⟩ ++ s)], some ⟨g, 0, none⟩, cap'', HX1.out, HX2.out, HX3, HX4, HX5, HX6⟩
                | ((repeat apply Exists.intro); exact ⟨⟨acc ++ [(⟨#[UInt8.ofNat (97 + (acc.length : Int)).toNat]⟩ ++ s)], some ⟨g, 0, none⟩, cap'', HX1.out, HX2.out, HX3, HX4, HX5, HX6⟩, rfl⟩)
            case measure => simp [intOf]; omega
        · have hv3b : (v == 3) = false := by simp [hv3']
          have HV3 := hide0 hv3'
          clear hv3'
          obtain ⟨r0, r1, r2, r3, r4, rz⟩ := res_cells HE.out.res
          have hne : ¬ w2.heap.size = w.heap.size := by omega
          go_wp2
          refine bodyPost_ret (v := evVal ⟨1 + p0, ⟨#[116]⟩ ++ s1, p3, s2, acc⟩ (.slice a' acc.length cap')) (by simp [results, Try.results15, go_sem, evVal, r0, r1, r2, r3, r4]) rfl ⟨⟨1 + p0, ⟨#[116]⟩ ++ s1, p3, s2, acc⟩, .slice a' acc.length cap', rfl, ?_, own_set5 HO.out (by omega) (by omega), below_set5 HE.out.bel (Nat.le_refl _)⟩
          intro k hk1 hk3
          exact event_goes (v := v) hs1.out hs2.out rfl rfl (by simp; omega) (by simp; omega) hp2 hp3 (tagsI_ok HT.out hacc) hv1 hk1 hk3 (fun h => absurd h HV.out) H2.out
      · obtain ⟨r0, r1, r2, r3, r4, rz⟩ := res_cells HE.out.res
        have hne : ¬ w2.heap.size = w.heap.size := by omega
        go_wp2
        refine bodyPost_ret (v := evVal ⟨1 + p0, ⟨#[116]⟩ ++ s1, p3, s2, acc⟩ (.slice a' acc.length cap')) (by simp [results, Try.results15, go_sem, evVal, r0, r1, r2, r3, r4]) rfl ⟨⟨1 + p0, ⟨#[116]⟩ ++ s1, p3, s2, acc⟩, .slice a' acc.length cap', rfl, ?_, own_set5 HO.out (by omega) (by omega), below_set5 HE.out.bel (Nat.le_refl _)⟩
        intro k hk1 hk3
        exact event_goes (v := v) hs1.out hs2.out rfl rfl (by simp; omega) (by simp; omega) hp2 hp3 (tagsI_ok HT.out hacc) hv1 hk1 hk3 (fun h => absurd h HV.out) H2.out
end Go.Proofs.Ytdjllnhahhjgmab
namespace Go.Proofs.Ytdjllnhahhjgmab
open Go.RowKit Chron
set_option maxRecDepth 100000 in
theorem raw_all (a : Option Addr) (n cap i : Nat) (w : World) (h : IntsAt w a n) (_hn : n ≤ maxLen) (_hi : i ≤ 100) :
    ∃ z, Hid (-9223372036854775808 ≤ z) ∧ ∀ X, Below w.heap.size w X → Calls Try.prog 16 #[.slice a n cap, .int .i64 i] X fun e w' => e = .returned (.int .i64 z) ∧ w' = X := by
  unfold maxLen at _hn
  by_cases hlt : i < n
  · obtain ⟨b, off, z, rfl, hc, hz⟩ := h i hlt
    refine ⟨z, hz, fun X hb => ?_⟩
    have hlb := World.block_lt_of_cell? w _ hc
    have hc' : X.cell? ⟨b, off + i, none⟩ = some (.int .i64 z) := (hb.cell (p := ⟨b, off + i, none⟩) hlb).trans hc
    clear hc hlb hb
    go_enter Try.func16, Try.ntmps16
    go_wp2
    go_ret
    exact ⟨rfl, rfl⟩
  · refine ⟨0, by show (-9223372036854775808 : Int) ≤ 0; decide, fun X _ => ?_⟩
    go_enter Try.func16, Try.ntmps16
    go_wp2
    go_ret
    exact ⟨rfl, rfl⟩
set_option maxRecDepth 100000 in
theorem pick_fix (c n : Int) (h0 : -9223372036854775808 ≤ c) (hn : 0 < n) :
    ∃ p, 0 ≤ p ∧ p < n ∧ ∀ X, Calls Try.prog 9 #[.int .i64 c, .int .i64 n] X fun e w' => e = .returned (.int .i64 p) ∧ w' = X := by
  have HH : Hid (-9223372036854775808 ≤ c) := h0
  have hnz : (n == 0) = false := by simp; omega
  have hn1 : (n == -1) = false := by simp; omega
  clear h0
  by_cases hc : c < 0
  · have HP : Hid _ := pick_neg HH.out hc hn
    refine ⟨_, HP.out.1, HP.out.2, fun X => ?_⟩
    go_enter Try.func9, Try.ntmps9
    go_wp2
    go_ret
    exact ⟨rfl, rfl⟩
  · refine ⟨c % n, Int.emod_nonneg _ (by omega), Int.emod_lt_of_pos _ hn, fun X => ?_⟩
    go_enter Try.func9, Try.ntmps9
    go_wp2
    go_ret
    exact ⟨rfl, rfl⟩
/- what the numbers say, at whatever time they are asked -/
def HowAt (w : World) (a : Option Addr) (n cap : Nat) (hn hv : Nat → Int) : Prop :=
  ∀ i, (0 ≤ hn i ∧ hn i < 4 ∧ 0 ≤ hv i ∧ hv i < 3) ∧ (i ≤ 100 → ∃ z, (-9223372036854775808 ≤ z) ∧ (∀ X, Below w.heap.size w X → Calls Try.prog 16 #[.slice a n cap, .int .i64 (i : Int)] X fun e w' => e = .returned (.int .i64 z) ∧ w' = X) ∧
    (∀ X, Calls Try.prog 9 #[.int .i64 z, .int .i64 4] X fun e w' => e = .returned (.int .i64 (hn i)) ∧ w' = X) ∧
    (∀ X, Calls Try.prog 9 #[.int .i64 (IntKind.i64.wrap (z.tdiv 4)), .int .i64 3] X fun e w' => e = .returned (.int .i64 (hv i)) ∧ w' = X))
theorem how_fix (w : World) (a : Option Addr) (n cap : Nat) (h : IntsAt w a n) (hn : n ≤ maxLen) : ∃ hn hv, HowAt w a n cap hn hv := by
  have h1 : ∀ i : Nat, ∃ q : Int × Int, (0 ≤ q.1 ∧ q.1 < 4 ∧ 0 ≤ q.2 ∧ q.2 < 3) ∧ (i ≤ 100 → ∃ z, (-9223372036854775808 ≤ z) ∧ (∀ X, Below w.heap.size w X → Calls Try.prog 16 #[.slice a n cap, .int .i64 (i : Int)] X fun e w' => e = .returned (.int .i64 z) ∧ w' = X) ∧
    (∀ X, Calls Try.prog 9 #[.int .i64 z, .int .i64 4] X fun e w' => e = .returned (.int .i64 q.1) ∧ w' = X) ∧
    (∀ X, Calls Try.prog 9 #[.int .i64 (IntKind.i64.wrap (z.tdiv 4)), .int .i64 3] X fun e w' => e = .returned (.int .i64 q.2) ∧ w' = X)) := by
    intro i
    by_cases hi : i ≤ 100
    · obtain ⟨z, hz, hr⟩ := raw_all a n cap i w h hn hi
      have hz := hz.out
      obtain ⟨p, p0, p1, hp⟩ := pick_fix z 4 hz (by omega)
      have hq0 : -9223372036854775808 ≤ IntKind.i64.wrap (z.tdiv 4) := by
        simp [IntKind.wrap, IntKind.bits, IntKind.signed]; omega
      obtain ⟨q, q0, q1, hq⟩ := pick_fix (IntKind.i64.wrap (z.tdiv 4)) 3 hq0 (by omega)
      exact ⟨(p, q), ⟨p0, p1, q0, q1⟩, fun _ => ⟨z, hz, hr, hp, hq⟩⟩
    · exact ⟨(0, 0), by decide, fun h => absurd h hi⟩
  obtain ⟨f, hf⟩ := Classical.axiomOfChoice h1
  exact ⟨fun i => (f i).1, fun i => (f i).2, fun i => hf i⟩
theorem HowAt.below {w w' : World} {a : Option Addr} {n cap : Nat} {hn hv : Nat → Int} (h : HowAt w a n cap hn hv) (hb : Below w.heap.size w w') : HowAt w' a n cap hn hv := by
  intro i
  obtain ⟨h1, h6⟩ := h i
  refine ⟨h1, fun hi => ?_⟩
  obtain ⟨z, h2, h3, h4, h5⟩ := h6 hi
  exact ⟨z, h2, fun X hX => h3 X (hb.trans (hX.mono hb.size)), h4, h5⟩
theorem EvsAt.tail {w : World} {a : Option Addr} {its : List Item} (h : EvsAt w a its) {k : Nat} (hk : k < its.length) : ∃ b off, a = some ⟨b, off, none⟩ ∧ EvsAt w (some ⟨b, off + k * 5, none⟩) (its.drop k) := by
  obtain ⟨b, off, rfl, hc⟩ := h (by omega)
  refine ⟨b, off, rfl, fun _ => ⟨b, off + k * 5, rfl, fun j i hj => ?_⟩⟩
  rw [List.getElem?_drop] at hj
  have := hc (k + j) i hj
  rw [show off + k * 5 + j * 5 = off + (k + j) * 5 by omega]
  exact this
theorem made_reads {N : Nat} {w : World} {ma : Option Addr} {mc : Nat} {its ls : List Item} {b o q : Nat} (h : MadeO N w (.slice ma its.length mc) its) (hb : ∃ off, ma = some ⟨b, off, none⟩) (hs : ∀ it ∈ ls, it ∈ its) (hq : ReadsOf (some ⟨b, o, none⟩) ls q) : q < w.heap.size := by
  rcases hq with ⟨off, e⟩ | ⟨it, hi, off, e⟩
  · cases e
    obtain ⟨off', rfl⟩ := hb
    exact (h.row.lt b rfl).2
  · exact (h.tag_lt (tagBs_mem.2 ⟨it, hs it hi, by simp only [Item.tv, e, Value.ownBlock]⟩)).2
theorem refB_zero {v : Int} {n : Nat} {l : List Ev} (hv : 1 ≤ v ∧ v ≤ 3) (hn : n + l.length ≤ 200) (h : l.all (goesB v) = true) : refB v n l = 0 := by
  have h1 : ¬ isVer v = false := by simp [isVer]; omega
  unfold refB
  rw [if_neg h1, if_neg (by omega), if_pos h]
theorem refB_two {v : Int} {n : Nat} {l : List Ev} (hv : 1 ≤ v ∧ v ≤ 3) (hn : n + l.length ≤ 200) (h : ¬ l.all (goesB v) = true) : refB v n l = 2 := by
  have h1 : ¬ isVer v = false := by simp [isVer]; omega
  unfold refB
  rw [if_neg h1, if_neg (by omega), if_neg h]
theorem app_yes {v : Int} {cs : List Chunk} {l more : List Ev} (hr : refB v l.length more = 0) (hm : more ≠ []) (hcs : evsOf cs = l) : appFile v (fileB noB cs) l more = fileB noB (cs ++ [(v, more)]) ∧ appEvs v l more = l ++ more := by
  refine ⟨?_, if_pos hr⟩
  unfold appFile
  rw [if_pos ⟨hr, hm⟩, fileB_snoc, hcs]
theorem app_no {v : Int} {file : List UInt8} {l more : List Ev} (hr : ¬ refB v l.length more = 0) : appFile v file l more = file ∧ appEvs v l more = l := ⟨if_neg (fun h => hr h.1), if_neg hr⟩
theorem Moved.below {w w' : World} {F F' : Nat → Prop} {n : Nat} (h : Moved w w' F F') (hn : n ≤ w.heap.size) (hF : ∀ q, F q → n ≤ q) : Below n w w' :=
  ⟨h.os, h.tape, h.output, h.size, fun q hq => h.block q (by omega) (fun e => by have := hF q e; omega)⟩
theorem fill_next {hn hv : Nat → Int} {cs : List Chunk} {l : List Ev} {t i q : Nat} {v : Int} (hl : t < l.length) (hit : i ≤ t) (hq : q = fillN hn i (l.drop t)) (hq1 : 1 ≤ q ∧ q ≤ l.length - t) (hlen : l.length ≤ 200) (hv' : v = fillV hn hv i (l.drop t)) (hgo : ∀ e ∈ (l.drop t).take q, goesB v e = true) (HC : cs ++ fillC hn hv (l.length - i) i (l.drop t) = fillC hn hv l.length 0 l) (hg : GoodC 0 cs) (he : evsOf cs = l.take t) :
    (cs ++ [(v, (l.drop t).take q)]) ++ fillC hn hv (l.length - (i + 1)) (i + 1) (l.drop (t + q)) = fillC hn hv l.length 0 l ∧ GoodC 0 (cs ++ [(v, (l.drop t).take q)]) ∧ evsOf (cs ++ [(v, (l.drop t).take q)]) = l.take (t + q) ∧ l.take t ++ (l.drop t).take q = l.take (t + q) := by
  have hdl : (l.drop t).length = l.length - t := List.length_drop
  have hne : l.drop t ≠ [] := fun e => by rw [e] at hdl; simp at hdl; omega
  have htl : ((l.drop t).take q).length = q := by rw [List.length_take]; omega
  have hta : l.take t ++ (l.drop t).take q = l.take (t + q) := (List.take_add).symm
  have hes : evsOf cs ++ evsOf [(v, (l.drop t).take q)] = l.take (t + q) := by rw [he, ← hta]; simp [evsOf]
  refine ⟨?_, GoodC.append.2 ⟨hg, ⟨hgo, fun e => ?_, ?_⟩, trivial⟩, by rw [evsOf_append]; exact hes, hta⟩
  · rw [← HC, fillC_step hne (by omega), ← hq, ← hv', List.drop_drop, show l.length - i - 1 = l.length - (i + 1) by omega]
    simp
  · have := congrArg List.length e
    rw [htl] at this
    simp at this
    omega
  · show 0 + (evsOf cs).length + ((l.drop t).take q).length ≤ 200
    rw [he, htl, List.length_take]
    omega
theorem readB_nil : readB [] = ([], 0, true) := rfl
set_option maxRecDepth 100000 in
set_option maxHeartbeats 1000000 in
theorem filled_any (ma : Option Addr) (mc : Nat) (its : List Item) (a : Option Addr) (n cap : Nat) (hn hv : Nat → Int) (N0 : Nat) (w : World) (hM : Hid (MadeO N0 w (.slice ma its.length mc) its)) (hok : Hid (∀ it ∈ its, isB it.ev = true)) (hl : its.length ≤ 20) (hw : Hid (HowAt w a n cap hn hv)) :
    Calls Try.prog 6 #[.slice ma its.length mc, .slice a n cap] w fun e w' => ∃ p fv ev js, e = .returned (.pointer (some ⟨p, 0, none⟩)) ∧ Hid (ArchO w.heap.size p w' fv ev (fileB noB (fillC hn hv its.length 0 (evs its))) js) ∧ Hid (evs js = evs its) ∧ Hid (Below w.heap.size w w') := by
  obtain ⟨ma', mc', hmv, hE0, hcap, h0⟩ := hM.out.at hok.out
  cases hmv
  have hE := hide0 hE0
  clear hE0 h0
  have hOp := open_any [] w (by simp)
  rw [readB_nil] at hOp
  simp only [List.take_nil] at hOp
  have hes : (evs its).length = its.length := by simp [evs]
  go_enter Try.func6, Try.ntmps6
  go_wp2_with fail
  refine hOp.mono ?_
  rintro e w1 ⟨HB1, ⟨h, _⟩ | ⟨_, p, fv1, ev1, js1, rfl, HA1, HJ1⟩⟩
  · cases h
  go_wp2_with fail
  go_loopw [7, 8] (fun tv iv wx => ∃ (t i : Nat) (cs : List Chunk) (fv ev : Value) (js : List Item), tv = .int .i64 t ∧ iv = .int .i64 i ∧ i ≤ t ∧ t ≤ its.length ∧ Hid (cs ++ fillC hn hv (its.length - i) i ((evs its).drop t) = fillC hn hv its.length 0 (evs its)) ∧ Hid (GoodC 0 cs ∧ evsOf cs = (evs its).take t) ∧ Hid (ArchO w.heap.size p wx fv ev (fileB noB cs) js) ∧ Hid (evs js = (evs its).take t) ∧ Hid (Below w.heap.size w wx)) (fun t _ _ => its.length - (intOf t).toNat)
  case atStart => exact ⟨0, 0, [], fv1, ev1, js1, rfl, rfl, Nat.le_refl _, Nat.zero_le _, by show _ = _; simp, ⟨trivial, by simp [evsOf]⟩, HA1, by show _ = _; rw [HJ1.out]; simp, HB1⟩
  case round =>
    obtain ⟨t, i, cs, fv, ev, js, rfl, rfl, hit, htl, HC, HG, HA, HJ, HB⟩ := hrel
    by_cases hlt : t < its.length
    · obtain ⟨⟨n0, n1, v0, v1⟩, hzz⟩ := hw.out i
      obtain ⟨z, hz, hraw, hp4, hp3⟩ := hzz (by omega)
      clear hzz
      have HRW := hide0 (hraw wr HB.out)
      have hlti : (t : Int) < (its.length : Int) := by omega
      generalize hhn : hn i = hni at *
      obtain ⟨h4, rfl⟩ := Int.eq_ofNat_of_zero_le n0
      go_wp2_with (first
        | (go_at_call 16; refine HRW.out.mono ?_; rintro e w' ⟨rfl, hw'⟩; have hw2 := hw'.symm; subst hw2)
        | (go_at_call 9; refine (hp4 _).mono ?_; rintro e w' ⟨rfl, hw'⟩; have hw2 := hw'.symm; subst hw2))
      have hrl : ((evs its).drop t).length = its.length - t := by rw [List.length_drop, hes]
      have hrne : (evs its).drop t ≠ [] := fun h => by have := congrArg List.length h; simp only [List.length_nil] at this; omega
      obtain ⟨q, HQ⟩ : ∃ q, Hid (q = fillN hn i ((evs its).drop t)) := ⟨_, rfl⟩
      have hq : min (1 + (h4 : Int)) ((its.length : Int) - (t : Int)) = (q : Int) := by
        have := HQ.out
        unfold fillN at this
        rw [hhn, hrl] at this
        omega
      have hq1 := fillN_pos (hn := hn) (i := i) (by rw [hhn]; omega) hrne
      rw [← HQ.out, hrl] at hq1
      rw [hq]
      obtain ⟨b, off, rfl, hE2⟩ := (hE.out.below HB.out (Nat.le_refl _)).tail hlt
      have hE3 := hE2.front q
      have hEm : evs ((its.drop t).take q) = ((evs its).drop t).take q := by simp [evs]
      have hmoreL : ((its.drop t).take q).length = q := by rw [List.length_take, List.length_drop]; omega
      have hjl : js.length = t := by have := congrArg List.length HJ.out; rw [List.length_take, hes] at this; simp only [evs, List.length_map] at this; omega
      have hfl := fileB_short HG.out.1
      have hap : Hid (∀ q', ReadsOf (some ⟨b, off + t * 5, none⟩) ((its.drop t).take q) q' → ¬ Foot p fv ev js q') := fun q' h1 h2 => by
        have := made_reads hM.out ⟨off, rfl⟩ (fun it hi => List.mem_of_mem_drop (List.mem_of_mem_take hi)) h1
        have := (HA.out.lt q' h2).1
        omega
      have hAd : Hid (ArchO w.heap.size p wr.drew fv ev (fileB noB cs) js) := HA.out.below (Below.refl _ _).drew
      have hAp := append_any w.heap.size p (1 + hv i) fv ev (fileB noB cs) js (some ⟨b, off + t * 5, none⟩) (mc - t) ((its.drop t).take q) wr.drew hAd (hE3.below (Below.refl _ _).drew (Nat.le_refl _)) (by omega) (by omega) hap
      obtain ⟨u, hu, hu1, hu2, HU⟩ : ∃ u : Nat, IntKind.i64.wrap ((t : Int) + (q : Int)) = u ∧ t ≤ u ∧ u ≤ mc ∧ Hid (u = t + q) := ⟨t + q, by rw [wrapI_small (by omega) (by omega)]; omega, by omega, by omega, rfl⟩
      have hmt : ¬ mc = t := by omega
      have hut : q = u - t := by have := HU.out; omega
      rw [hmoreL, hEm, hjl] at hAp
      have hArg : ∀ v : Int, (#[.pointer (some ⟨p, 0, none⟩), .int .i64 v, .slice (some ⟨b, off + t * 5, none⟩) q (mc - t)] : Array Value) = #[.pointer (some ⟨p, 0, none⟩), .int .i64 v, .slice (some ⟨b, off + t * 5, none⟩) (u - t) (mc - t)] := fun v => by rw [← hut]
      rw [hArg] at hAp
      have HUT := hide0 hut
      clear hut
      generalize hhv : hv i = hvi at *
      have hrawd := hraw wr.drew HB.out.drew
      have hvw : IntKind.i64.wrap (1 + hvi) = 1 + hvi := wrapI_small (by omega) (by omega)
      have HEw := hide0 (fun W (hW : Below w.heap.size w W) => ((hE.out.below hW (Nat.le_refl _)).tail hlt))
      have hsw := HB.out.size
      have hml : (((evs its).drop t).take q).length = q := by rw [List.length_take]; omega
      have hFN := hide0 (fun (v : Int) (hv' : v = fillV hn hv i ((evs its).drop t)) (hgo : ∀ e ∈ ((evs its).drop t).take q, goesB v e = true) => fill_next (cs := cs) (l := evs its) (by rw [hes]; exact hlt) hit HQ.out (by rw [hes]; omega) (by rw [hes]; omega) hv' hgo (by rw [hes]; exact HC.out) HG.out.1 HG.out.2)
      have hnem : ((evs its).drop t).take q ≠ [] := fun e => by have := congrArg List.length e; rw [hml] at this; simp only [List.length_nil] at this; omega
      have hfv : fillV hn hv i ((evs its).drop t) = if (((evs its).drop t).take q).all (goesB (1 + hvi)) = true then 1 + hvi else 3 := by unfold fillV; rw [← HQ.out, hhv]
      have hjt : (evs js).length = t := by simpa [evs] using hjl
      have HB' := hide0 HB.out.drew
      clear hOp HA1 HJ1 HB1 hE2 hE3 hq hraw
      by_cases hall : (((evs its).drop t).take q).all (goesB (1 + hvi)) = true
      · have HN := hide0 (hFN.out (1 + hvi) (by rw [hfv, if_pos hall]) (List.all_eq_true.1 hall))
        have hr0 := refB_zero (v := 1 + hvi) (n := t) (l := ((evs its).drop t).take q) (by omega) (by omega) hall
        have HAY := hide0 (app_yes (v := 1 + hvi) (cs := cs) (l := evs js) (more := ((evs its).drop t).take q) (by rw [hjt]; exact hr0) hnem (HG.out.2.trans HJ.out.symm))
        rw [hr0] at hAp
        clear hall hr0 hfv hFN hnem hml
        go_region_law (first
          | (go_simp; go_at_call 16; refine hrawd.mono ?_; rintro e w' ⟨rfl, rfl⟩)
          | (go_simp; go_at_call 9; refine (hp3 _).mono ?_; rintro e w' ⟨rfl, rfl⟩)
          | (go_simp; go_at_call 12; refine hAp.mono ?_; rintro e w5 ⟨rfl, fv5, ev5, js5, HA5, HE5, HM5⟩; have HA5 := hide0 HA5; have HE5 := hide0 HE5; have HM5 := hide0 HM5))
        all_goals
          have HB5 := hide0 (HB'.out.trans (HM5.out.below hsw (fun q hq => (HA.out.lt q hq).1)))
          rw [HAY.out.1] at HA5
          rw [HAY.out.2, HJ.out, HN.out.2.2.2] at HE5
          clear hAp hrawd hp3 hp4 HAY HM5
          go_wp2_with fail
          go_roundw
          case rel => exact ⟨u, i + 1, _, fv5, ev5, js5, by go_num, by go_num, by have := HU.out; omega, by have := HU.out; omega, by rw [HU.out, ← hes]; exact hide0 HN.out.1, by rw [HU.out]; exact hide0 ⟨HN.out.2.1, HN.out.2.2.1⟩, HA5, by rw [HU.out]; exact HE5, HB5⟩
          case measure => simp [intOf]; have := HU.out; omega
      · have h3 : ∀ e ∈ ((evs its).drop t).take q, goesB 3 e = true := fun e he => by
          obtain ⟨it, hi, rfl⟩ := List.mem_map.1 (List.mem_of_mem_drop (List.mem_of_mem_take he))
          exact goes_new (hok.out it hi)
        have HN := hide0 (hFN.out 3 (by rw [hfv, if_neg hall]) h3)
        have hr2 := refB_two (v := 1 + hvi) (n := t) (l := ((evs its).drop t).take q) (by omega) (by omega) hall
        have HAN := hide0 (app_no (v := 1 + hvi) (file := fileB noB cs) (l := evs js) (more := ((evs its).drop t).take q) (by rw [hjt, hr2]; decide))
        have HR0 := hide0 (refB_zero (v := 3) (n := t) (l := ((evs its).drop t).take q) (by omega) (by omega) (List.all_eq_true.2 h3))
        have HNE := hide0 hnem
        rw [hr2] at hAp
        clear hall hr2 hfv hFN hml h3 hnem
        go_region_law (first
          | (go_simp; go_at_call 16; refine hrawd.mono ?_; rintro e w' ⟨rfl, rfl⟩)
          | (go_simp; go_at_call 9; refine (hp3 _).mono ?_; rintro e w' ⟨rfl, rfl⟩)
          | (go_simp; go_at_call 12; refine hAp.mono ?_; rintro e w5 ⟨rfl, fv5, ev5, js5, HA5, HE5, HM5⟩; have HA5 := hide0 HA5; have HE5 := hide0 HE5; have HM5 := hide0 HM5))
        all_goals
          have HB5 := hide0 (HB'.out.trans (HM5.out.below hsw (fun q hq => (HA.out.lt q hq).1)))
          rw [HAN.out.1] at HA5
          rw [HAN.out.2] at HE5
          have hjl5 : js5.length = t := by have := congrArg List.length HE5.out; simp only [evs, List.length_map] at this; omega
          obtain ⟨b', off', hbo, hE5⟩ := HEw.out w5 HB5.out
          cases hbo
          have hs5 := HB5.out.size
          have hap5 : Hid (∀ q', ReadsOf (some ⟨b, off + t * 5, none⟩) ((its.drop t).take q) q' → ¬ Foot p fv5 ev5 js5 q') := fun q' h1 h2 => by
            have := made_reads hM.out ⟨off, rfl⟩ (fun it hi => List.mem_of_mem_drop (List.mem_of_mem_take hi)) h1
            have := (HA5.out.lt q' h2).1
            omega
          have hAp5 := append_any w.heap.size p 3 fv5 ev5 (fileB noB cs) js5 (some ⟨b, off + t * 5, none⟩) (mc - t) ((its.drop t).take q) w5 HA5 (hE5.front q) (by omega) (by omega) hap5
          rw [hmoreL, hEm, hjl5, hArg, HR0.out] at hAp5
          have HAY := hide0 (app_yes (v := 3) (cs := cs) (l := evs js5) (more := ((evs its).drop t).take q) (by rw [show (evs js5).length = t by simpa [evs] using hjl5]; exact HR0.out) HNE.out (HG.out.2.trans (HJ.out.symm.trans HE5.out.symm)))
          clear hAp hrawd hp3 hp4 HAN HM5 hE5 hap5 hjl5 hjl hjt
          go_wp2_with fail
          refine hAp5.mono ?_
          rintro e w6 ⟨rfl, fv6, ev6, js6, HA6, HE6, HM6⟩
          have HA6 := hide0 HA6
          have HE6 := hide0 HE6
          have HB6 := hide0 (HB5.out.trans (HM6.below (by omega) (fun q hq => (HA5.out.lt q hq).1)))
          rw [HAY.out.1] at HA6
          rw [HAY.out.2, HE5.out, HJ.out, HN.out.2.2.2] at HE6
          clear hAp5 HAY HM6
          go_wp2_with fail
          go_roundw
          case rel => exact ⟨u, i + 1, _, fv6, ev6, js6, by go_num, by go_num, by have := HU.out; omega, by have := HU.out; omega, by rw [HU.out, ← hes]; exact hide0 HN.out.1, by rw [HU.out]; exact hide0 ⟨HN.out.2.1, HN.out.2.2.1⟩, HA6, by rw [HU.out]; exact HE6, HB6⟩
          case measure => simp [intOf]; have := HU.out; omega
    · have htn : t = its.length := by omega
      subst htn
      obtain ⟨ea, ec, rfl, t1, t2, t3⟩ := HA.out.evs.at HA.out.good
      have hjl : js.length = its.length := by have := congrArg List.length HJ.out; simpa [evs] using this
      have hLn := len_any p fv ea js.length ec wr HA.out.blk
      rw [hjl] at hLn
      have HX : Hid (cs = fillC hn hv its.length 0 (evs its)) := by
        have h := HC.out
        rw [show (evs its).drop its.length = [] by rw [← hes]; exact List.drop_length, fillC_end, List.append_nil] at h
        exact h
      clear t1 t2 t3 hjl
      go_wp2_with (go_at_call 17; refine hLn.mono ?_; rintro e w' ⟨rfl, hw'⟩; have hw2 := hw'.symm; subst hw2)
      go_ret
      exact ⟨p, fv, _, js, rfl, by rw [← HX.out]; exact HA, by rw [HJ.out, ← hes, List.take_length]; exact hide0 rfl, HB⟩
end Go.Proofs.Ytdjllnhahhjgmab
namespace Go.Proofs.Ytdjllnhahhjgmab
open Go.RowKit Chron
theorem IntsAt.sub {w : World} {a : Option Addr} {n i : Nat} (h : IntsAt w a n) (hi : i < n) : ∃ b off, a = some ⟨b, off, none⟩ ∧ IntsAt w (some ⟨b, off + i, none⟩) (n - i) := by
  obtain ⟨b, off, _, rfl, _⟩ := h i hi
  refine ⟨b, off, rfl, fun j hj => ?_⟩
  obtain ⟨b', off', z, he, hc, hz⟩ := h (i + j) (by omega)
  cases he
  exact ⟨b, off + i, z, rfl, by rw [Nat.add_assoc]; exact hc, hz⟩
def slLen : Value → Nat
  | .slice _ n _ => n
  | _ => 0
set_option maxRecDepth 100000 in
set_option maxHeartbeats 4000000 in
theorem events_all (v : Int) (hv1 : 1 ≤ v) (hv3 : v ≤ 3) (a : Option Addr) (n cap : Nat) (w : World) (hI : Hid (IntsAt w a n)) (hn : n ≤ 1000000000000000) (hnc : n ≤ cap) :
    Calls Try.prog 5 #[.slice a n cap, .int .i64 v] w fun e w' => ∃ (lv : Value) (its : List Item), e = .returned lv ∧ its.length ≤ 20 ∧ Hid (MadeO w.heap.size w' lv its) ∧ Hid (∀ it ∈ its, isB it.ev = true) ∧ Below w.heap.size w w' := by
  obtain ⟨i0, hi, hz0, hz1, hz2⟩ := info_parts infoEvent5
  go_enter Try.func5, Try.ntmps5
  go_wp2_with fail
  go_loopw [5, 6] (fun lv iv wx => ∃ (i : Nat) (its : List Item) (la : Option Addr) (lc : Nat), i ≤ n + 6 ∧ its.length ≤ 20 ∧ iv = .int .i64 i ∧ lv = .slice la its.length lc ∧ Hid (MadeO w.heap.size wx (.slice la its.length lc) its) ∧ Hid (∀ it ∈ its, isB it.ev = true) ∧ Hid (Below w.heap.size w wx)) (fun lv _ _ => 20 - slLen lv)
  case atStart => exact ⟨0, [], none, 0, by omega, by decide, rfl, rfl, MadeO.nil _ _, (fun it h => by cases h), Below.refl _ _⟩
  case round =>
    obtain ⟨i, its, la, lc, hin, hl, rfl, rfl, HM, HB, HW⟩ := hrel
    by_cases hlt : i < n
    · by_cases h20 : its.length < 20
      · have hsz := HW.out.size
        have HIr := hide0 (hI.out.below HW.out (Nat.le_refl _))
        obtain ⟨ib, io, rfl, hsub⟩ := HIr.out.sub hlt
        have hE := event_any v (some ⟨ib, io + i, none⟩) (n - i) (cap - i) wr hsub (by unfold maxLen; omega) hv1 hv3
        have hlti : (i : Int) < (n : Int) := by omega
        have hli : (its.length : Int) < 20 := by omega
        clear hsub
        go_wp2_with fail
        refine hE.mono ?_
        rintro e w3 ⟨E, x, rfl, HG, hvo, hb3⟩
        obtain ⟨va, vc, hve, _⟩ := own_tags hvo
        subst hve
        have hisB := goes_is (HG.out 3 hv3 (by decide))
        obtain ⟨F0, F1, F2, F3, F4⟩ := E
        simp only [evVal]
        have HVO := hide0 hvo
        have hs3 := hb3.size
        have HM3 := hide0 (HM.out.keep (w' := w3) (fun q _ h2 => hb3.block q h2))
        have HM3b := hide0 (HM3.out.alloc (.cells #[.int .i64 F0, .string F1, .int .i64 F2, .string F3, .slice va F4.length vc] 36))
        have HB3 := hide0 (HW.out.trans (hb3.mono hsz))
        have HLV := hide0 HM.out.lts
        have hNew := five_new (w3.alloc (.cells #[.int .i64 F0, .string F1, .int .i64 F2, .string F3, .slice va F4.length vc] 36)) ⟨⟨F0, F1, F2, F3, F4⟩, va, vc⟩
        rw [World.size_alloc] at hNew
        have hbase : w.heap.size ≤ ((w3.alloc (.cells #[.int .i64 F0, .string F1, .int .i64 F2, .string F3, .slice va F4.length vc] 36)).alloc (.cells #[.int .i64 F0, .string F1, .int .i64 F2, .string F3, .slice va F4.length vc] 36)).heap.size := by simp only [World.size_alloc]; omega
        have hrow := HM3b.out.row
        have HALL : Hid (∀ it ∈ its ++ [⟨⟨F0, F1, F2, F3, F4⟩, va, vc⟩], isB it.ev = true) := by
          intro it hit
          rcases List.mem_append.1 hit with hit | hit
          · exact HB.out it hit
          · simp only [List.mem_singleton] at hit; rw [hit]; exact hisB
        clear hE hvo hb3 hisB HG HM3
        go_wp2_with (first
          | (at_builtin; go_must (refine wpList_append_lies _ rfl _ _ 23 rfl w.heap.size 36 i0 (.agg #[.int .i64 0, .string ⟨#[]⟩, .int .i64 0, .string ⟨#[]⟩, .slice none 0 0]) 5 72 Try.underlying23 hi hz0 hz1 hz2 rfl (by decide) _ its.length (fives its) rfl (hrow.alloc _) ⟨w3.heap.size + 1, 0, none⟩ 1 1 (Item.five ⟨⟨F0, F1, F2, F3, F4⟩, va, vc⟩) rfl rfl hNew (five_one _) Nat.one_pos (by unfold maxLen; omega) (by omega) hbase _ rfl ?_)
             intro g gcap wa hown hgr hat hlt2))
        have HO7 := hide0 (HM3b.out.push (i := ⟨⟨F0, F1, F2, F3, F4⟩, va, vc⟩) (HVO.out.alloc _) hsz HLV.out.1 HLV.out.2 hgr hown hat)
        have HF7 := hide0 (Below.grown ((HB3.out.alloc (by omega) _).alloc (by simp only [World.size_alloc]; omega) _) hgr hbase (fun q hq => (hrow.lt q hq).1))
        clear hown hgr hat hlt2 hrow hNew hbase
        go_wp2
        go_roundw
        case rel => exact ⟨i + 6, its ++ [⟨⟨F0, F1, F2, F3, F4⟩, va, vc⟩], some ⟨g, 0, none⟩, gcap, by omega, by simp; omega, by go_num, by simp, by simpa using HO7, HALL, HF7⟩
        case measure => simp [slLen]; omega
      · go_wp2
        go_ret
        exact ⟨_, its, rfl, hl, HM, HB, HW.out⟩
    · go_wp2
      go_ret
      exact ⟨_, its, rfl, hl, HM, HB, HW.out⟩
theorem events_any (a : Option Addr) (n cap : Nat) (w : World) (hI : Hid (IntsAt w a n)) (hn : n ≤ 1000000000000000) (hnc : n ≤ cap) :
    Calls Try.prog 5 #[.slice a n cap, .int .i64 3] w fun e w' => ∃ (lv : Value) (its : List Item), e = .returned lv ∧ its.length ≤ 20 ∧ Hid (MadeO w.heap.size w' lv its) ∧ Hid (∀ it ∈ its, isB it.ev = true) ∧ Below w.heap.size w w' :=
  events_all 3 (by decide) (by decide) a n cap w hI hn hnc
end Go.Proofs.Ytdjllnhahhjgmab
