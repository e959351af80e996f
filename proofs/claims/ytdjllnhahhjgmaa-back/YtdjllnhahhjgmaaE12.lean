/- Walks of chroniclekeep.pick and chroniclekeep.OneWay. -/
import Derived.Test.YtdjllnhahhjgmaaU
import Derived.Test.YtdjllnhahhjgmaaE11
namespace Go.Proofs.Ytdjllnhahhjgmaa
open Go.RowKit Chron
set_option maxRecDepth 100000 in
set_option maxHeartbeats 400000 in
theorem pick_any (c n : Int) (w : World) (h0 : -9223372036854775808 ≤ c) (hn : 0 < n) :
    Calls Try.prog 22 #[.int .i64 c, .int .i64 n] w fun e w' => (∃ p, e = .returned (.int .i64 p) ∧ 0 ≤ p ∧ p < n) ∧ w' = w := by
  have HH : Hid (-9223372036854775808 ≤ c) := h0
  have hnz : (n == 0) = false := by simp; omega
  have hn1 : (n == -1) = false := by simp; omega
  clear h0
  by_cases hc : c < 0
  · have HP : Hid _ := pick_neg HH.out hc hn
    go_enter Try.func22, Try.ntmps22
    go_wp2
    go_ret
    exact ⟨⟨_, rfl, HP.out.1, HP.out.2⟩, rfl⟩
  · go_enter Try.func22, Try.ntmps22
    go_wp2
    go_ret
    exact ⟨⟨_, rfl, Int.emod_nonneg _ (by omega), Int.emod_lt_of_pos _ hn⟩, rfl⟩
set_option maxRecDepth 100000 in
set_option maxHeartbeats 1000000 in
theorem oneWay_any (c : Int) (s : List UInt8) (w : World) (h0 : -9223372036854775808 ≤ c) (hs : s.length ≤ maxLen) :
    Calls Try.prog 7 #[.int .i64 c, .string ⟨s.toArray⟩] w fun e w' => e = .returned (.bool true) ∧ Below w.heap.size w w' := by
  have hE0 : ∀ w', Calls Try.prog 9 #[.int .i64 2, .agg #[.int .i64 4, .string ⟨#[45]⟩, .int .i64 0, .string ⟨#[]⟩, .slice none 0 0]] w' fun e w'' => e = .returned (.tuple #[.string ⟨#[1, 3, 2, 1, 45]⟩, .int .i64 0]) ∧ Below w'.heap.size w' w'' := fun w' => by
    have := encode_any 2 4 ⟨#[45]⟩ 0 ⟨#[]⟩ none 0 [] w' (tags_none w') short_none (Nat.zero_le _) (by decide) (by decide)
    rw [first_two] at this
    exact this
  have hP := pick_any c 3 w h0 (by omega)
  clear h0
  go_enter Try.func7, Try.ntmps7
  go_wp2_with fail
  refine hP.mono ?_
  rintro e w0 ⟨⟨p, rfl, hp0, hp3⟩, hw0⟩
  have hw1 := hw0.symm
  subst hw1
  clear hP hw0
  obtain ⟨v, hv, hv1, hv3⟩ : ∃ v, 1 + p = v ∧ 1 ≤ v ∧ v ≤ 3 := ⟨1 + p, rfl, by omega, by omega⟩
  have hiv : isVer v = true := by simp [isVer]; omega
  have hD := fun w' => decode_any v s w' hs
  have hone : (decB v s).2 = 0 → OneWayB v s (decB v s).1 ∧ Known (decB v s).1 := by
    intro h
    have hd : decB v s = if (rdB v s).2 = false then (zeroEv, 3) else ((rdB v s).1, 0) := by simp [decB, hiv]
    rw [hd] at h ⊢
    by_cases hr : (rdB v s).2 = false
    · rw [if_pos hr] at h; simp at h
    · rw [if_neg hr]; have hr' : (rdB v s).2 = true := by simpa using hr
      exact ⟨rd_oneWay hiv hr', is_known (rd_is hr')⟩
  have herr : (decB v s).2 = 0 ∨ (decB v s).2 = 3 := by
    unfold decB
    rw [if_neg (by simp [hiv])]
    split <;> simp
  generalize decB v s = E at *
  obtain ⟨⟨k, t, m, b, ts⟩, er⟩ := E
  simp only at hD hone herr
  go_wp2_with fail
  refine (hE0 _).mono ?_
  rintro e w1 ⟨rfl, hb1⟩
  have hs1 := hb1.size
  clear hE0
  go_wp2_with fail
  refine (hD _).mono ?_
  rintro e w2 ⟨x, rfl, ho2, hb2⟩
  simp only [evVal]
  obtain ⟨a, cap, rfl, hta, _⟩ := own_form ho2
  have hs2 := hb2.size
  clear hD ho2
  have HB : Hid (Below w.heap.size w w2) := hb1.trans (hb2.mono hs1)
  rcases herr with her | her
  · subst her
    obtain ⟨how, hkn⟩ := hone rfl
    have hE := encode_any v k t m b a cap ts (w2.alloc (.cells #[.int .i64 k, .string t, .int .i64 m, .string b, .slice a ts.length cap] 24)) (TagsAt.alloc hta _) (short_of (Fits.mk (n := 60) hkn.task hkn.body hkn.few hkn.lines) (by unfold maxLen; omega)) (Nat.le_trans hkn.few (by unfold maxLen; omega)) (Nat.le_trans hkn.task (by unfold maxLen; omega)) (Nat.le_trans hkn.body (by unfold maxLen; omega))
    rw [OneWayB] at how
    generalize hen : encB v ⟨k, t, m, b, ts⟩ = en at hE how
    obtain ⟨en1, en2⟩ := en
    clear hen hkn
    simp only at hE how
    by_cases hd : v = 1 ∧ t.toList = [45]
    · rw [if_pos hd] at how
      obtain ⟨h2, q, hsq⟩ := how
      obtain ⟨hd1, hd2⟩ := hd
      have hdb : (t.toList == [45]) = true := by simp [hd2]
      subst h2 hd1
      clear hd2 hone
      go_wp2_with fail
      refine hE.mono ?_
      rintro e w3 ⟨rfl, hb3⟩
      obtain ⟨hc3, hf3⟩ := bcell hb3
      have HB3 : Hid (Below w.heap.size w w3) := (HB.out.alloc (by omega) _).trans (hb3.mono (by rw [World.size_alloc]; omega))
      obtain ⟨S, hS, hS2, hS1, hS0⟩ : ∃ S : ByteArray, (⟨s.toArray⟩ : ByteArray) = S ∧ 2 ≤ S.size ∧ (∀ h : 1 < S.size, ((S[1]'h).toNat : Int) = 0) ∧ (S.extract 2 S.size).toList = b.toList := by
        refine ⟨⟨s.toArray⟩, rfl, ?_, ?_, ?_⟩
        · rw [hsq]; show 2 ≤ b.toList.length + 1 + 1; omega
        · subst hsq; intro _; rfl
        · rw [extract_end, mk_toList]; subst hsq; rfl
      have hd3 : decide ((2 : Int) ≤ (S.size : Int)) = true := by simp; omega
      have h12 : 1 < S.size := by omega
      have h12i : (1 : Int) < (S.size : Int) := by omega
      have h22i : (2 : Int) ≤ (S.size : Int) := by omega
      have hz : ((S[1].toNat : Int) == 0) = true := by rw [hS1 h12]; rfl
      have hbb : ((S.extract 2 S.size).toList == b.toList) = true := by rw [hS0]; simp
      clear hS1 hS0 hsq
      rw [hS]
      clear hS hs
      go_wp2_with fail
      go_quiet (fail)
      go_wp2
      go_ret
      exact ⟨rfl, below_drewN HB3.out _⟩
    · rw [if_neg hd] at how
      simp only [Prod.mk.injEq] at how
      obtain ⟨h1, h2⟩ := how
      subst h1 h2
      clear hone
      by_cases hv1' : v = 1
      · have hdb : (t.toList == [45]) = false := by
          have : ¬ t.toList = [45] := fun h => hd ⟨hv1', h⟩
          simp [this]
        subst hv1'
        clear hd
        go_wp2_with fail
        refine hE.mono ?_
        rintro e w3 ⟨rfl, hb3⟩
        obtain ⟨hc3, hf3⟩ := bcell hb3
        have HB3 : Hid (Below w.heap.size w w3) := (HB.out.alloc (by omega) _).trans (hb3.mono (by rw [World.size_alloc]; omega))
        go_wp2
        go_ret
        exact ⟨rfl, HB3.out⟩
      · have hvb : (v == 1) = false := by simp [hv1']
        clear hd hv1'
        go_wp2_with fail
        refine hE.mono ?_
        rintro e w3 ⟨rfl, hb3⟩
        obtain ⟨hc3, hf3⟩ := bcell hb3
        have HB3 : Hid (Below w.heap.size w w3) := (HB.out.alloc (by omega) _).trans (hb3.mono (by rw [World.size_alloc]; omega))
        go_wp2
        go_ret
        exact ⟨rfl, HB3.out⟩
  · subst her
    go_wp2
    go_ret
    exact ⟨rfl, HB.out.alloc (by omega) _⟩
end Go.Proofs.Ytdjllnhahhjgmaa
