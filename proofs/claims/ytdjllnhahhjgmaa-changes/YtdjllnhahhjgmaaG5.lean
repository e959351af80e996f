/- Walk of delta.Make. -/
import Derived.Test.YtdjllnhahhjgmaaG4
namespace Go.Proofs.Ytdjllnhahhjgmaa
open Go.RowKit Chron
theorem make_long {o c : ByteArray} (h : 65536 < o.size ∨ 65536 < c.size) : makeB o.data.toList c.data.toList = ([], 3) := by
  rw [makeB, if_pos]; simpa using h
theorem make_eq {o c : ByteArray} {f e : Nat} (h1 : o.size ≤ 65536) (h2 : c.size ≤ 65536) (hf : fr o.data.toList c.data.toList = f) (he : en o.data.toList c.data.toList = e) :
    makeB o.data.toList c.data.toList = (num f ++ num e ++ (c.data.toList.drop f).take (c.size - f - e), 0) := by
  rw [makeB, if_neg (by simp; omega), hf, he, mid, hf, he]; rfl
set_option maxRecDepth 100000 in
set_option maxHeartbeats 3000000 in
theorem make_any (o c : ByteArray) (w : World) (ho : o.size ≤ maxLen) (hc : c.size ≤ maxLen) :
    Calls Try.prog 19 #[.string o, .string c] w fun e w' => e = .returned (seVal (makeB o.data.toList c.data.toList)) ∧ Below w.heap.size w w' := by
  unfold maxLen at ho hc
  by_cases h1 : 65536 < o.size
  · have HX := hide0 (make_long (o := o) (c := c) (.inl h1))
    go_enter Try.func19, Try.ntmps19
    go_wp2
    go_ret2
    exact ⟨ret_bad HX.out, Below.refl _ _⟩
  by_cases h2 : 65536 < c.size
  · have HX := hide0 (make_long (o := o) (c := c) (.inr h2))
    go_enter Try.func19, Try.ntmps19
    go_wp2
    go_ret2
    exact ⟨ret_bad HX.out, Below.refl _ _⟩
  have hF := fun w' => front_any o c w' (by omega) (by omega)
  have hfl := fr_le o.data.toList c.data.toList
  have hel := en_le o.data.toList c.data.toList
  have h3 : o.data.toList.length = o.size := rfl
  have h4 : c.data.toList.length = c.size := rfl
  rw [h3, h4] at hfl hel
  rw [show pre o.data.toList c.data.toList = fr o.data.toList c.data.toList from rfl] at hF
  obtain ⟨f, hf⟩ : ∃ f, fr o.data.toList c.data.toList = f := ⟨_, rfl⟩
  obtain ⟨n, hn⟩ : ∃ n, en o.data.toList c.data.toList = n := ⟨_, rfl⟩
  have HX := hide0 (make_eq (o := o) (c := c) (by omega) (by omega) hf hn)
  have hn2 : pre (o.data.toList.drop f).reverse (c.data.toList.drop f).reverse = n := by rw [← hf]; exact hn
  rw [hf] at hF hfl hel
  rw [hn] at hel
  obtain ⟨O, hO, hOs⟩ : ∃ O : ByteArray, o.extract f o.size = O ∧ O.data.toList = o.data.toList.drop f := ⟨_, rfl, by rw [extract_end]⟩
  obtain ⟨N, hN, hNs⟩ : ∃ N : ByteArray, c.extract f c.size = N ∧ N.data.toList = c.data.toList.drop f := ⟨_, rfl, by rw [extract_end]⟩
  have hOl : O.size = o.size - f := by have := congrArg List.length hOs; rw [List.length_drop] at this; exact this
  have hNl : N.size = c.size - f := by have := congrArg List.length hNs; rw [List.length_drop] at this; exact this
  have hE := fun w' => end_any O N w' (by omega) (by omega)
  rw [hOs, hNs, hn2] at hE
  obtain ⟨q, hq, hq2, HQ⟩ : ∃ q : Nat, IntKind.i64.wrap ((N.size : Int) - (n : Int)) = q ∧ q ≤ N.size ∧ Hid (q = c.size - f - n) := ⟨N.size - n, by rw [wrapI_small (by omega) (by omega)]; omega, by omega, by show _ = _; omega⟩
  have hNk : ∀ (k : Nat) (w' : World), k ≤ 65536 → Hid (Below w.heap.size w w') → Calls Try.prog 46 #[.int .i64 k] w' fun e w'' => e = .returned (.string ⟨(num k).toArray⟩) ∧ Hid (Below w.heap.size w w'') := by
    intro k w' hk HB
    refine (wireNumber_any (k : Int) w' (by omega) (by show (k : Int).toNat < 128 ^ 9; omega)).mono ?_
    rintro e w'' ⟨rfl, hb⟩
    exact ⟨by rw [Int.toNat_natCast], HB.out.trans (hb.mono HB.out.size)⟩
  have hfo : f ≤ o.size := hfl.1
  have hfc : f ≤ c.size := hfl.2
  have hl1 := num_len f
  have hl2 := num_len n
  have HNS := hide0 hNs
  have hf6 : f ≤ 65536 := by omega
  have hn6 : n ≤ 65536 := by omega
  have hN6 : N.size ≤ 65536 := by omega
  clear hf hn hn2 hOs hNs hOl hNl
  go_enter Try.func19, Try.ntmps19
  go_wp2_with fail
  refine (hF _).mono ?_
  rintro e w1 ⟨rfl, nq, rfl⟩
  go_wp2_with fail
  go_quiet (fail)
  go_wp2_with fail
  refine (hE _).mono ?_
  rintro e w1 ⟨rfl, nq2, rfl⟩
  go_wp2_with fail
  clear hF hE h3 h4
  go_region_held (fun _ => True) (go_keep)
    (first
      | (go_at_call 46; refine (hNk _ _ (by assumption) (by first | assumption | exact below_of_drewN _)).mono ?_; rintro e w3 ⟨rfl, HB3⟩))
  all_goals
    go_wp2
    go_ret2
    exact ⟨(ret_se (p := (num f ++ num n ++ (c.data.toList.drop f).take (c.size - f - n), 0)) (by rw [extract_front, HNS.out, HQ.out]; apply bytes_inj; simp) rfl).trans (by rw [HX.out]), HB3.out⟩
end Go.Proofs.Ytdjllnhahhjgmaa
