/- Walk of chronicleref.Encode. -/
import Derived.Test.YtdjllnhahhjgmaaC3
namespace Go.Proofs.Ytdjllnhahhjgmaa
open Go.RowKit Chron
set_option maxRecDepth 100000 in
set_option maxHeartbeats 2000000 in
theorem encodeRef_any (v k : Int) (t : ByteArray) (m : Int) (b : ByteArray) (a : Option Addr) (cap : Nat) (ts : List ByteArray) (w : World) (ht : Hid (TagsAt w a ts)) (hs : Hid (Short ts)) (hl : ts.length ≤ maxLen)
    (htl : t.size ≤ maxLen) (hbl : b.size ≤ maxLen) :
    Calls Try.prog 11 #[.int .i64 v, .agg #[.int .i64 k, .string t, .int .i64 m, .string b, .slice a ts.length cap]] w fun e w' =>
      e = .returned (.tuple #[.string ⟨(encB v ⟨k, t, m, b, ts⟩).1.toArray⟩, .int .i64 (encB v ⟨k, t, m, b, ts⟩).2]) ∧ Below w.heap.size w w' := by
  by_cases hv : isVer v = true
  · have hv13 : 1 ≤ v ∧ v ≤ 3 := by simpa [isVer] using hv
    obtain ⟨hv1, hv3⟩ := hv13
    have hG := good_any k t m b a cap ts (w.alloc (.cells #[.int .i64 k, .string t, .int .i64 m, .string b, .slice a ts.length cap] 24)) (TagsAt.alloc ht.out _) hs hl htl hbl
    have hF := fun X => fits_any v k t m b a ts.length cap X
    have hfe : fitsR v k t m ts.length = fitsB v ⟨k, t, m, b, ts⟩ := fitsR_eq (e := ⟨k, t, m, b, ts⟩) hv
    rw [hfe] at hF
    have hgo : goesB v ⟨k, t, m, b, ts⟩ = (isB ⟨k, t, m, b, ts⟩ && fitsB v ⟨k, t, m, b, ts⟩) := by simp [goesB, hv]
    clear hfe
    generalize hqi : isB ⟨k, t, m, b, ts⟩ = qi at hG hgo
    generalize hqf : fitsB v ⟨k, t, m, b, ts⟩ = qf at hF hgo
    have HQI := hide0 hqi
    clear hqi hqf
    by_cases hq : (qi && qf) = true
    · simp only [Bool.and_eq_true] at hq
      obtain ⟨rfl, rfl⟩ := hq
      have HGO : Hid (goesB v ⟨k, t, m, b, ts⟩ = true) := hgo
      clear hgo
      obtain ⟨h1, h4, htk, _, ht0, ht1, hbd, hfew, hlines⟩ := is_known HQI.out
      simp only at h1 h4 htk ht0 ht1 hbd hfew hlines
      have HTM := hide0 (time_small ht1)
      have HLN := hide0 hlines
      clear ht1 hlines
      have htx : (text t.data.toList).length ≤ 70 := by have := text_len t.data.toList; simp at this; omega
      by_cases hv1' : v = 1
      · subst hv1'
        have HE : Hid (encB 1 ⟨k, t, m, b, ts⟩ = (letterB ⟨k, t, m, b, ts⟩, 0)) := by simp [Hid, encB, hv, HGO.out]
        have hk4 : ¬ k = 4 := (goes_one HGO.out).1
        have w0 : IntKind.i64.wrap (1 - 1) = 0 := by decide
        have w1' : IntKind.i64.wrap (2 - 1) = 1 := by decide
        have w2' : IntKind.i64.wrap (3 - 1) = 2 := by decide
        rcases letter_cases h1 h4 hk4 with ⟨rfl, hlo⟩ | ⟨rfl, hlo⟩ | ⟨rfl, hlo⟩
        · go_enter Try.func11, Try.ntmps11
          go_wp2_with (first
            | (go_at_call 30; refine hG.mono ?_; rintro e w1 ⟨rfl, hb1⟩; obtain ⟨hc1, hf1⟩ := bcell hb1)
            | (go_at_call 31; refine (hF _).mono ?_; rintro e w2 ⟨rfl, hb2⟩))
          have hs1 := hb1.size
          have hs2 := hb2.size
          rw [World.size_alloc] at hs1
          have hbx2 := (hb2.block w.heap.size (by omega)).trans ((hb1.block w.heap.size (by rw [World.size_alloc]; omega)).trans (heap_alloc_new w _))
          obtain ⟨d0, d1, d2, d3, d4, dz⟩ := res_cells hbx2
          have HB2 : Hid (Below w.heap.size w w2) := (((Below.refl w.heap.size w).alloc (Nat.le_refl _) _).trans (hb1.mono (by rw [World.size_alloc]; omega))).trans (hb2.mono (by omega))
          have hltb : w.heap.size < w2.heap.size := by omega
          clear hG hF hc1 hf1 hb1 hb2 hbx2 hs hl ht
          go_region_held (fun w' => w'.cell? ⟨w.heap.size, 0, none⟩ = some (.int .i64 1) ∧ w'.cell? ⟨w.heap.size, 1, none⟩ = some (.string t) ∧ w'.cell? ⟨w.heap.size, 3, none⟩ = some (.string b)) (go_keep)
            (first | (go_at_call 32; refine (textRef_any t _ (by omega)).mono ?_; rintro e w3 ⟨rfl, hb3⟩; have q0 : w3.cell? ⟨w.heap.size, 0, none⟩ = some (.int .i64 1) := (hb3.cell (p := ⟨w.heap.size, 0, none⟩) hltb).trans d0; have q1 : w3.cell? ⟨w.heap.size, 1, none⟩ = some (.string t) := (hb3.cell (p := ⟨w.heap.size, 1, none⟩) hltb).trans d1; have q3 : w3.cell? ⟨w.heap.size, 3, none⟩ = some (.string b) := (hb3.cell (p := ⟨w.heap.size, 3, none⟩) hltb).trans d3))
          all_goals
           go_wp2
           go_ret2
           exact ⟨ret_enc (letter_eq (by rw [hlo]; decide)) HE.out, HB2.out.drew.trans (hb3.mono (by show w.heap.size ≤ w2.heap.size; omega))⟩
        · go_enter Try.func11, Try.ntmps11
          go_wp2_with (first
            | (go_at_call 30; refine hG.mono ?_; rintro e w1 ⟨rfl, hb1⟩; obtain ⟨hc1, hf1⟩ := bcell hb1)
            | (go_at_call 31; refine (hF _).mono ?_; rintro e w2 ⟨rfl, hb2⟩))
          have hs1 := hb1.size
          have hs2 := hb2.size
          rw [World.size_alloc] at hs1
          have hbx2 := (hb2.block w.heap.size (by omega)).trans ((hb1.block w.heap.size (by rw [World.size_alloc]; omega)).trans (heap_alloc_new w _))
          obtain ⟨d0, d1, d2, d3, d4, dz⟩ := res_cells hbx2
          have HB2 : Hid (Below w.heap.size w w2) := (((Below.refl w.heap.size w).alloc (Nat.le_refl _) _).trans (hb1.mono (by rw [World.size_alloc]; omega))).trans (hb2.mono (by omega))
          have hltb : w.heap.size < w2.heap.size := by omega
          clear hG hF hc1 hf1 hb1 hb2 hbx2 hs hl ht
          go_region_held (fun w' => w'.cell? ⟨w.heap.size, 0, none⟩ = some (.int .i64 2) ∧ w'.cell? ⟨w.heap.size, 1, none⟩ = some (.string t) ∧ w'.cell? ⟨w.heap.size, 3, none⟩ = some (.string b)) (go_keep)
            (first | (go_at_call 32; refine (textRef_any t _ (by omega)).mono ?_; rintro e w3 ⟨rfl, hb3⟩; have q0 : w3.cell? ⟨w.heap.size, 0, none⟩ = some (.int .i64 2) := (hb3.cell (p := ⟨w.heap.size, 0, none⟩) hltb).trans d0; have q1 : w3.cell? ⟨w.heap.size, 1, none⟩ = some (.string t) := (hb3.cell (p := ⟨w.heap.size, 1, none⟩) hltb).trans d1; have q3 : w3.cell? ⟨w.heap.size, 3, none⟩ = some (.string b) := (hb3.cell (p := ⟨w.heap.size, 3, none⟩) hltb).trans d3))
          all_goals
           go_wp2
           go_ret2
           exact ⟨ret_enc (letter_eq (by rw [hlo]; decide)) HE.out, HB2.out.drew.trans (hb3.mono (by show w.heap.size ≤ w2.heap.size; omega))⟩
        · go_enter Try.func11, Try.ntmps11
          go_wp2_with (first
            | (go_at_call 30; refine hG.mono ?_; rintro e w1 ⟨rfl, hb1⟩; obtain ⟨hc1, hf1⟩ := bcell hb1)
            | (go_at_call 31; refine (hF _).mono ?_; rintro e w2 ⟨rfl, hb2⟩))
          have hs1 := hb1.size
          have hs2 := hb2.size
          rw [World.size_alloc] at hs1
          have hbx2 := (hb2.block w.heap.size (by omega)).trans ((hb1.block w.heap.size (by rw [World.size_alloc]; omega)).trans (heap_alloc_new w _))
          obtain ⟨d0, d1, d2, d3, d4, dz⟩ := res_cells hbx2
          have HB2 : Hid (Below w.heap.size w w2) := (((Below.refl w.heap.size w).alloc (Nat.le_refl _) _).trans (hb1.mono (by rw [World.size_alloc]; omega))).trans (hb2.mono (by omega))
          have hltb : w.heap.size < w2.heap.size := by omega
          clear hG hF hc1 hf1 hb1 hb2 hbx2 hs hl ht
          go_region_held (fun w' => w'.cell? ⟨w.heap.size, 0, none⟩ = some (.int .i64 3) ∧ w'.cell? ⟨w.heap.size, 1, none⟩ = some (.string t) ∧ w'.cell? ⟨w.heap.size, 3, none⟩ = some (.string b)) (go_keep)
            (first | (go_at_call 32; refine (textRef_any t _ (by omega)).mono ?_; rintro e w3 ⟨rfl, hb3⟩; have q0 : w3.cell? ⟨w.heap.size, 0, none⟩ = some (.int .i64 3) := (hb3.cell (p := ⟨w.heap.size, 0, none⟩) hltb).trans d0; have q1 : w3.cell? ⟨w.heap.size, 1, none⟩ = some (.string t) := (hb3.cell (p := ⟨w.heap.size, 1, none⟩) hltb).trans d1; have q3 : w3.cell? ⟨w.heap.size, 3, none⟩ = some (.string b) := (hb3.cell (p := ⟨w.heap.size, 3, none⟩) hltb).trans d3))
          all_goals
           go_wp2
           go_ret2
           exact ⟨ret_enc (letter_eq (by rw [hlo]; decide)) HE.out, HB2.out.drew.trans (hb3.mono (by show w.heap.size ≤ w2.heap.size; omega))⟩
      · exact encodeRef_fields v k t m b a cap ts w ht hs hl htl hbl hv hv1' HGO HQI
    · have HGO : Hid (goesB v ⟨k, t, m, b, ts⟩ = false) := hide0 (by rw [hgo]; simpa using hq)
      have HE : Hid (encB v ⟨k, t, m, b, ts⟩ = ([], 2)) := by simp [Hid, encB, hv, HGO.out]
      clear hgo
      have hcase : qi = false ∨ (qi = true ∧ qf = false) := by cases qi <;> cases qf <;> simp_all
      clear hq
      go_enter Try.func11, Try.ntmps11
      rcases hcase with rfl | ⟨rfl, rfl⟩
      all_goals
        go_wp2_with (first
          | (go_at_call 30; refine hG.mono ?_; rintro e w1 ⟨rfl, hb1⟩; obtain ⟨hc1, hf1⟩ := bcell hb1)
          | (go_at_call 31; refine (hF _).mono ?_; rintro e w2 ⟨rfl, hb2⟩))
        go_ret2
        exact ⟨ret_enc rfl HE.out, (((Below.refl w.heap.size w).alloc (Nat.le_refl _) _).trans (hb1.mono (by rw [World.size_alloc]; omega))).trans (hb2.mono (by have := hb1.size; rw [World.size_alloc] at this; omega))⟩
  · have hv' : isVer v = false := by simpa using hv
    have HE : Hid (encB v ⟨k, t, m, b, ts⟩ = ([], 1)) := by simp [Hid, encB, hv']
    have hvv : v < 1 ∨ 3 < v := by
      simp [isVer] at hv'
      omega
    clear hv hv'
    go_enter Try.func11, Try.ntmps11
    rcases hvv with hvv | hvv
    all_goals
      go_wp2
      go_ret2
      exact ⟨ret_enc rfl HE.out, (Below.refl _ _).alloc (Nat.le_refl _) _⟩
end Go.Proofs.Ytdjllnhahhjgmaa
