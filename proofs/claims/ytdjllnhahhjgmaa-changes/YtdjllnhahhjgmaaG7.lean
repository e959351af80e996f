/- Walk of chronicleref.Apply. -/
import Derived.Test.YtdjllnhahhjgmaaG6
namespace Go.Proofs.Ytdjllnhahhjgmaa
open Go.RowKit Chron
set_option maxRecDepth 100000 in
set_option maxHeartbeats 2000000 in
theorem applyRef_any (o c : ByteArray) (w : World) (ho : o.size ≤ maxLen) (hc : c.size ≤ maxLen) :
    Calls Try.prog 21 #[.string o, .string c] w fun e w' => e = .returned (seVal (applyB o.data.toList c.data.toList)) ∧ Below w.heap.size w w' := by
  unfold maxLen at ho hc
  by_cases h1 : 65536 < o.size
  · have HX := hide0 (apply_long (o := o) (c := c) (.inl h1))
    go_enter Try.func21, Try.ntmps21
    go_wp2
    go_ret2
    exact ⟨ret_bad HX.out, Below.refl _ _⟩
  by_cases h2 : 65536 < c.size
  · have HX := hide0 (apply_long (o := o) (c := c) (.inr h2))
    go_enter Try.func21, Try.ntmps21
    go_wp2
    go_ret2
    exact ⟨ret_bad HX.out, Below.refl _ _⟩
  have hR := numberAt_any c 0 w (by omega) (by omega)
  rw [List.drop_zero] at hR
  rcases hq : readNum c.data.toList with _ | ⟨f, r⟩
  · have HX := hide0 (apply_none (o := o) hq)
    rw [hq] at hR
    clear hq
    go_enter Try.func21, Try.ntmps21
    go_wp2_with fail
    refine hR.mono ?_
    rintro e w' ⟨rfl, hw⟩
    subst hw
    simp only [atVal]
    go_wp2
    go_ret2
    exact ⟨ret_bad HX.out, Below.refl _ _⟩
  have hrs := num_suffix (l := c.data.toList) (p := 0) (by rw [List.drop_zero]; exact hq)
  have hlc : c.data.toList.length = c.size := rfl
  rw [hlc] at hrs
  obtain ⟨hrd, hrl⟩ := hrs
  rw [hq] at hR
  simp only [atVal] at hR
  obtain ⟨p, hp, hpr⟩ : ∃ p : Nat, c.size - r.length = p ∧ p + r.length = c.size := ⟨_, rfl, by omega⟩
  rw [hp] at hR hrd
  have hR2 := numberAt_any c p w (by omega) (by omega)
  rw [hrd] at hR2
  rcases hq2 : readNum r with _ | ⟨n, m⟩
  · have HX := hide0 (apply_none2 (o := o) hq hq2)
    rw [hq2] at hR2
    simp only [atVal] at hR2
    clear hq hq2 hp
    go_enter Try.func21, Try.ntmps21
    go_wp2_with fail
    refine hR.mono ?_
    rintro e w' ⟨rfl, hw⟩
    subst hw
    go_wp2_with fail
    refine hR2.mono ?_
    rintro e w' ⟨rfl, hw⟩
    subst hw
    go_wp2
    go_ret2
    exact ⟨ret_bad HX.out, Below.refl _ _⟩
  have hms := num_suffix (l := c.data.toList) (p := p) (by rw [hrd]; exact hq2)
  rw [hlc] at hms
  obtain ⟨hmd, hml⟩ := hms
  rw [hq2] at hR2
  simp only [atVal] at hR2
  obtain ⟨t, ht, htm⟩ : ∃ t : Nat, c.size - m.length = t ∧ t + m.length = c.size := ⟨_, rfl, by omega⟩
  rw [ht] at hR2 hmd
  have HX := hide0 (apply_some (o := o) (by omega) (by omega) hq hq2)
  have HMD := hide0 hmd
  clear hq hq2 hp ht hrd hmd
  by_cases hf : o.size < f
  · have HY := hide0 (join_bad (o := o) (f := f) (e := n) (m := m) (by omega))
    go_enter Try.func21, Try.ntmps21
    go_wp2_with fail
    refine hR.mono ?_
    rintro e w' ⟨rfl, hw⟩
    subst hw
    go_wp2_with fail
    refine hR2.mono ?_
    rintro e w' ⟨rfl, hw⟩
    subst hw
    go_wp2
    go_ret2
    exact ⟨ret_bad (HX.out.trans HY.out), Below.refl _ _⟩
  by_cases hn : o.size < n
  · have HY := hide0 (join_bad (o := o) (f := f) (e := n) (m := m) (by omega))
    go_enter Try.func21, Try.ntmps21
    go_wp2_with fail
    refine hR.mono ?_
    rintro e w' ⟨rfl, hw⟩
    subst hw
    go_wp2_with fail
    refine hR2.mono ?_
    rintro e w' ⟨rfl, hw⟩
    subst hw
    go_wp2
    go_ret2
    exact ⟨ret_bad (HX.out.trans HY.out), Below.refl _ _⟩
  by_cases hfn : o.size < f + n
  · have HY := hide0 (join_bad (o := o) (f := f) (e := n) (m := m) (by omega))
    have hfi : (o.size : Int) < (f : Int) + (n : Int) := by omega
    go_enter Try.func21, Try.ntmps21
    go_wp2_with fail
    refine hR.mono ?_
    rintro e w' ⟨rfl, hw⟩
    subst hw
    go_wp2_with fail
    refine hR2.mono ?_
    rintro e w' ⟨rfl, hw⟩
    subst hw
    go_wp2
    go_ret2
    exact ⟨ret_bad (HX.out.trans HY.out), Below.refl _ _⟩
  have hfi : ¬ (o.size : Int) < (f : Int) + (n : Int) := by omega
  by_cases hs : 65536 < f + m.length + n
  · have HY := hide0 (join_bad (o := o) (f := f) (e := n) (m := m) (by omega))
    have hsi : (65536 : Int) < (f : Int) + (n : Int) + (c.size : Int) - (t : Int) := by omega
    go_enter Try.func21, Try.ntmps21
    go_wp2_with fail
    refine hR.mono ?_
    rintro e w' ⟨rfl, hw⟩
    subst hw
    go_wp2_with fail
    refine hR2.mono ?_
    rintro e w' ⟨rfl, hw⟩
    subst hw
    go_wp2
    go_ret2
    exact ⟨ret_bad (HX.out.trans HY.out), Below.refl _ _⟩
  have hsi : ¬ (65536 : Int) < (f : Int) + (n : Int) + (c.size : Int) - (t : Int) := by omega
  have HY := hide0 (join_good (o := o) (f := f) (e := n) (m := m) (by omega))
  obtain ⟨q, hq, hq2, HQ⟩ : ∃ q : Nat, IntKind.i64.wrap ((o.size : Int) - (n : Int)) = q ∧ q ≤ o.size ∧ Hid (q = o.size - n) := ⟨o.size - n, by rw [wrapI_small (by omega) (by omega)]; omega, by omega, rfl⟩
  have hfo : f ≤ o.size := by omega
  have htc : t ≤ c.size := by omega
  go_enter Try.func21, Try.ntmps21
  go_wp2_with fail
  refine hR.mono ?_
  rintro e w' ⟨rfl, hw⟩
  subst hw
  go_wp2_with fail
  refine hR2.mono ?_
  rintro e w' ⟨rfl, hw⟩
  subst hw
  go_wp2_with fail
  go_quiet (fail)
  go_wp2
  go_ret2
  refine ⟨(ret_se (p := (o.data.toList.take f ++ m ++ o.data.toList.drop (o.size - n), 0)) ?_ rfl).trans (by rw [HX.out, HY.out]), below_of_drewN _⟩
  rw [extract_front, extract_end, extract_end, HQ.out, HMD.out]; apply bytes_inj; simp
end Go.Proofs.Ytdjllnhahhjgmaa
