/- Walk of chroniclekeep.Back, over what chroniclekeep.event does. -/
import Derived.Test.YtdjllnhahhjgmaaX1
import Derived.Test.YtdjllnhahhjgmaaB1
import Derived.Test.YtdjllnhahhjgmaaB2
namespace Go.Proofs.Ytdjllnhahhjgmaa
open Go.RowKit Chron
def EventDoes (a : Option Addr) (n cap : Nat) (v : Int) (w : World) : Prop :=
  Calls Try.prog 23 #[.slice a n cap, .int .i64 v] w fun e w' =>
      ∃ E x, e = .returned (evVal E x) ∧ Hid (∀ k, v ≤ k → k ≤ 3 → goesB k E = true) ∧ w'.ownsRow w.heap.size 9 1 x E.tags.length (E.tags.map Value.string) ∧ Below w.heap.size w w'
set_option maxRecDepth 100000 in
set_option maxHeartbeats 2000000 in
theorem back_over (a : Option Addr) (n cap : Nat) (c : Int) (w : World) (h0 : -9223372036854775808 ≤ c) (hEv : ∀ v, 1 ≤ v → v ≤ 3 → EventDoes a n cap v w) :
    Calls Try.prog 6 #[.slice a n cap, .int .i64 c] w fun e w' => e = .returned (.bool true) ∧ Below w.heap.size w w' := by
  have hP := pick_any c 3 w h0 (by omega)
  clear h0
  go_enter Try.func6, Try.ntmps6
  go_wp2_with fail
  refine hP.mono ?_
  rintro e wq ⟨⟨p, rfl, hp0, hp3⟩, hwq⟩
  have hwq' := hwq.symm; subst hwq'; clear hwq hP
  obtain ⟨v, hv, hv1, hv3⟩ : ∃ v, 1 + p = v ∧ 1 ≤ v ∧ v ≤ 3 := ⟨1 + p, rfl, by omega, by omega⟩
  have hE := hEv v hv1 hv3
  unfold EventDoes at hE
  go_wp2_with fail
  refine hE.mono ?_
  rintro e w1 ⟨E, x, rfl, HG, ho, hb1⟩
  obtain ⟨a1, cap1, rfl, hta, _⟩ := own_form ho
  have hkn : Known E := is_known (goes_is (HG.out 3 hv3 (by omega)))
  have HTA := hide0 (TagsAt.alloc hta (.cells #[.int .i64 E.kind, .string E.task, .int .i64 E.time, .string E.body, .slice a1 E.tags.length cap1] 24))
  have HBX := hide0 (heap_alloc_new w1 (.cells #[.int .i64 E.kind, .string E.task, .int .i64 E.time, .string E.body, .slice a1 E.tags.length cap1] 24))
  have HB1 := hide0 (hb1.alloc hb1.size (.cells #[.int .i64 E.kind, .string E.task, .int .i64 E.time, .string E.body, .slice a1 E.tags.length cap1] 24))
  have hs1 := hb1.size
  have htl : E.task.size ≤ maxLen := Nat.le_trans hkn.task (by unfold maxLen; omega)
  have hbl : E.body.size ≤ maxLen := Nat.le_trans hkn.body (by unfold maxLen; omega)
  have hfw : E.tags.length ≤ maxLen := Nat.le_trans hkn.few (by unfold maxLen; omega)
  have HSH : Hid (Short E.tags) := short_of (Fits.mk (n := 60) hkn.task hkn.body hkn.few hkn.lines) (by unfold maxLen; omega)
  clear hEv hE ho hb1 hta hkn
  simp only [evVal]
  go_wp2_with fail
  obtain ⟨W, hW⟩ : ∃ W, w1.alloc (.cells #[.int .i64 E.kind, .string E.task, .int .i64 E.time, .string E.body, .slice a1 E.tags.length cap1] 24) = W := ⟨_, rfl⟩
  have hWs : w1.heap.size < W.heap.size := by rw [← hW, World.size_alloc]; omega
  rw [hW] at HTA HBX HB1
  rw [hW]
  clear hW
  go_loopw [7] (fun i wx => ∃ k : Int, v ≤ k ∧ k ≤ 4 ∧ i = .int .i64 k ∧ Hid (Below W.heap.size W wx)) (fun i _ => (4 - intOf i).toNat)
  case atStart => exact ⟨v, by omega, by omega, rfl, Below.refl _ _⟩
  case round =>
    obtain ⟨k, hk1, hk4, rfl, HB⟩ := hrel
    by_cases hk3 : k ≤ 3
    · have hg := HG.out k hk1 hk3
      obtain ⟨hen2, hdec⟩ := dec_of hg
      have hpos := enc_pos hg
      have hless := dec_less hg
      have hEn := fun X hX => encode_any k E.kind E.task E.time E.body a1 cap1 E.tags X hX HSH hfw htl hbl
      have heta : (⟨E.kind, E.task, E.time, E.body, E.tags⟩ : Ev) = E := rfl
      rw [heta, hen2] at hEn
      have hmk := enc_len hg
      have hmx : (encB k E).1.length ≤ maxLen := Nat.le_trans (enc_len hg) (by unfold maxLen; omega)
      generalize (encB k E).1 = s at hEn hdec hpos hless hmx hmk
      have hbx : wr.heap[w1.heap.size]? = _ := (HB.out.block _ hWs).trans HBX.out
      obtain ⟨c0, c1, c2, c3, c4, cz⟩ := res_cells hbx
      have HTr : Hid (TagsAt wr a1 E.tags) := HTA.out.below HB.out (Nat.le_refl _)
      clear heta hen2 hg
      go_wp2_with fail
      refine (hEn _ HTr).mono ?_
      rintro e w2 ⟨rfl, hb2⟩
      have hs2 := hb2.size
      have hsr := HB.out.size
      have HB2 : Hid (Below W.heap.size W w2) := HB.out.trans (hb2.mono hsr)
      go_wp2_with fail
      refine (decode_any k s _ hmx).mono ?_
      rintro e w3 ⟨x3, rfl, ho3, hb3⟩
      rw [hdec] at ho3 ⊢
      obtain ⟨a3, cap3, rfl, hta3, _⟩ := own_form ho3
      have hs3 := hb3.size
      have HB3 : Hid (Below W.heap.size W w3) := HB2.out.trans (hb3.mono (by omega))
      simp only [evVal]
      clear ho3 c0 c1 c2 c3 c4 cz hbx hEn hb2 hb3
      have hbx3 : w3.heap[w1.heap.size]? = _ := (HB3.out.block _ hWs).trans HBX.out
      obtain ⟨c0, c1, c2, c3, c4, cz⟩ := alloc_cells hbx3
      have hne3 : ¬ w3.heap.size = w1.heap.size := by omega
      have hS3 := fun o => same_keep E E a1 a3 cap1 cap3 (w3.alloc o) ((HTA.out.below HB3.out (Nat.le_refl _)).alloc _) (hta3.alloc _) hfw hfw
      simp only [evVal, (sameEv_iff (e := E) (f := E)).2 rfl] at hS3
      clear hta3
      go_wp2_with fail
      refine (hS3 _).mono ?_
      rintro e w4 ⟨rfl, hb4⟩
      have hs4 := hb4.size
      rw [World.size_alloc] at hs4
      have HB4 : Hid (Below W.heap.size W w4) := (HB3.out.alloc (by omega) _).trans (hb4.mono (by rw [World.size_alloc]; omega))
      clear hS3 c0 c1 c2 c3 c4 cz hb4 hbx3
      have hsb : (⟨s.toArray⟩ : ByteArray).toList.isEmpty = false := by rw [mk_toList]; cases s with
        | nil => simp at hpos
        | cons _ _ => rfl
      have hse : s.isEmpty = false := by cases s with
        | nil => simp at hpos
        | cons _ _ => rfl
      have hcut : (⟨s.toArray⟩ : ByteArray).extract 0 (s.length - 1) = ⟨(s.take (s.length - 1)).toArray⟩ := extract_mk_take s (s.length - 1)
      obtain ⟨hny, her⟩ := hless (s.take (s.length - 1)) (by rw [List.length_take]; omega)
      have hfy := dec_few k (s.take (s.length - 1))
      have hDy := fun X => decode_any k (s.take (s.length - 1)) X (by rw [List.length_take]; omega)
      generalize decB k (s.take (s.length - 1)) = D at hny her hDy hfy
      obtain ⟨Y, er⟩ := D
      simp only at hny her hDy hfy
      have hnq : sameEv E Y = false := by
        rcases hh : sameEv E Y with _ | _
        · rfl
        · exact absurd (sameEv_iff.1 hh).symm hny
      have hfy' : Y.tags.length ≤ maxLen := Nat.le_trans hfy (by unfold maxLen; omega)
      clear hless hny hfy
      go_wp2_with fail
      refine (hDy _).mono ?_
      rintro e w5 ⟨x5, rfl, ho5, hb5⟩
      obtain ⟨a5, cap5, rfl, hta5, _⟩ := own_form ho5
      have hs5 := hb5.size
      have HB5 : Hid (Below W.heap.size W w5) := HB4.out.trans (hb5.mono (by omega))
      simp only [evVal]
      clear ho5 hb5 hDy
      have hbx5 : w5.heap[w1.heap.size]? = _ := (HB5.out.block _ hWs).trans HBX.out
      obtain ⟨c0, c1, c2, c3, c4, cz⟩ := alloc_cells hbx5
      have hne5 : ¬ w5.heap.size = w1.heap.size := by omega
      have hS5 := fun o => same_keep E Y a1 a5 cap1 cap5 (w5.alloc o) ((HTA.out.below HB5.out (Nat.le_refl _)).alloc _) (hta5.alloc _) hfw hfy'
      simp only [evVal, hnq] at hS5
      clear hta5 hnq
      go_wp2_with fail
      refine (hS5 _).mono ?_
      rintro e w6 ⟨rfl, hb6⟩
      have HB6 : Hid (Below W.heap.size W w6) := (HB5.out.alloc (by omega) _).trans (hb6.mono (by rw [World.size_alloc]; omega))
      clear hS5 c0 c1 c2 c3 c4 cz hb6 hbx5
      rcases her with rfl | rfl
      all_goals
        go_wp2
        go_roundw
        case rel => exact ⟨k + 1, by omega, by omega, rfl, HB6⟩
        case measure => simp [intOf]; omega
    · go_wp2
      go_ret
      exact ⟨rfl, HB1.out.trans (HB.out.mono (by omega))⟩
end Go.Proofs.Ytdjllnhahhjgmaa
