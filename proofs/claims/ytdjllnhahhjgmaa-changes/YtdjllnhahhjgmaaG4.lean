/- Walks of delta.Apply and delta.Make. -/
import Derived.Test.YtdjllnhahhjgmaaG3
import Derived.Test.YtdjllnhahhjgmaaE7
namespace Go.Proofs.Ytdjllnhahhjgmaa
open Go.RowKit Chron
def seVal (p : List UInt8 × Int) : Value := .tuple #[.string ⟨p.1.toArray⟩, .int .i64 p.2]
theorem ret_se {p : List UInt8 × Int} {x : ByteArray} {y : Int} (hx : x = ⟨p.1.toArray⟩) (hy : y = p.2) : Ending.returned (.tuple #[.string x, .int .i64 y]) = .returned (seVal p) := by rw [hx, hy]; rfl
theorem ret_bad {p : List UInt8 × Int} (h : p = ([], 3)) : Ending.returned (.tuple #[.string ⟨#[]⟩, .int .i64 3]) = .returned (seVal p) := by rw [h]; rfl
theorem apply_long {o c : ByteArray} (h : 65536 < o.size ∨ 65536 < c.size) : applyB o.data.toList c.data.toList = ([], 3) := by
  rw [applyB, if_pos]; simpa using h
theorem apply_none {o c : ByteArray} (h : readNum c.data.toList = none) : applyB o.data.toList c.data.toList = ([], 3) := by
  rw [applyB]; split
  · rfl
  · rw [h]
theorem apply_none2 {o c : ByteArray} {f : Nat} {r : List UInt8} (h : readNum c.data.toList = some (f, r)) (h2 : readNum r = none) : applyB o.data.toList c.data.toList = ([], 3) := by
  rw [applyB]; split
  · rfl
  · rw [h]; simp only; rw [h2]
theorem apply_some {o c : ByteArray} {f e : Nat} {r m : List UInt8} (ho : o.size ≤ 65536) (hc : c.size ≤ 65536) (h : readNum c.data.toList = some (f, r)) (h2 : readNum r = some (e, m)) : applyB o.data.toList c.data.toList = joinB o.data.toList f e m := by
  rw [applyB, if_neg (by simp; omega), h]; simp only; rw [h2]
theorem join_bad {o : ByteArray} {f e : Nat} {m : List UInt8} (h : ¬ (f + e ≤ o.size ∧ f + m.length + e ≤ 65536)) : joinB o.data.toList f e m = ([], 3) := by
  rw [joinB, if_neg (by simpa using h)]
theorem join_good {o : ByteArray} {f e : Nat} {m : List UInt8} (h : f + e ≤ o.size ∧ f + m.length + e ≤ 65536) : joinB o.data.toList f e m = (o.data.toList.take f ++ m ++ o.data.toList.drop (o.size - e), 0) := by
  rw [joinB, if_pos (by simpa using h)]; rfl
theorem extract_front (s : ByteArray) (k : Nat) : s.extract 0 k = ⟨(s.data.toList.take k).toArray⟩ := by
  apply bytes_inj; simp [ByteArray.data_extract, Array.toList_extract, List.extract]
theorem tags_three (w : World) (a b c : ByteArray) (T : TypeId) : TagsAt (w.alloc (.cells #[.string a, .string b, .string c] T)) (some ⟨w.heap.size, 0, none⟩) [a, b, c] := by
  intro _
  refine ⟨w.heap.size, 0, rfl, fun i hi => ?_⟩
  simp only [World.cell?, heap_alloc_new]
  match i, hi with
  | 0, _ => rfl
  | 1, _ => rfl
  | 2, _ => rfl
set_option maxRecDepth 100000 in
set_option maxHeartbeats 800000 in
theorem apply_any (o c : ByteArray) (w : World) (ho : o.size ≤ maxLen) (hc : c.size ≤ maxLen) :
    Calls Try.prog 18 #[.string o, .string c] w fun e w' => e = .returned (seVal (applyB o.data.toList c.data.toList)) ∧ Below w.heap.size w w' := by
  have hR := fun w' => readNumber_any c w' hc
  unfold maxLen at ho hc
  by_cases h1 : 65536 < o.size
  · have HX := hide0 (apply_long (o := o) (c := c) (.inl h1))
    go_enter Try.func18, Try.ntmps18
    go_wp2
    go_ret2
    exact ⟨ret_bad HX.out, Below.refl _ _⟩
  by_cases h2 : 65536 < c.size
  · have HX := hide0 (apply_long (o := o) (c := c) (.inr h2))
    go_enter Try.func18, Try.ntmps18
    go_wp2
    go_ret2
    exact ⟨ret_bad HX.out, Below.refl _ _⟩
  rcases hq : readNum c.data.toList with _ | ⟨f, r⟩
  · have HX := hide0 (apply_none (o := o) hq)
    rw [hq] at hR
    clear hq
    go_enter Try.func18, Try.ntmps18
    go_wp2_with fail
    refine (hR _).mono ?_
    rintro e w' ⟨rfl, nq, rfl⟩
    simp only [rdVal]
    go_wp2
    go_ret2
    exact ⟨ret_bad HX.out, below_of_drewN _⟩
  have hrl : r.length ≤ c.size := by have := readNum_len hq; simpa using this
  have hR2 := fun w' => readNumber_any ⟨r.toArray⟩ w' (by unfold maxLen; show r.length ≤ _; omega)
  rw [hq] at hR
  rcases hq2 : readNum r with _ | ⟨n, m⟩
  · have HX := hide0 (apply_none2 (o := o) hq hq2)
    rw [show (⟨r.toArray⟩ : ByteArray).data.toList = r from rfl, hq2] at hR2
    clear hq hq2
    go_enter Try.func18, Try.ntmps18
    go_wp2_with fail
    refine (hR _).mono ?_
    rintro e w' ⟨rfl, nq, rfl⟩
    simp only [rdVal]
    go_wp2_with fail
    refine (hR2 _).mono ?_
    rintro e w' ⟨rfl, nq2, rfl⟩
    simp only [rdVal]
    go_wp2
    go_ret2
    exact ⟨ret_bad HX.out, below_of_drewN _⟩
  have hml : m.length ≤ r.length := by have := readNum_len hq2; simpa using this
  rw [show (⟨r.toArray⟩ : ByteArray).data.toList = r from rfl, hq2] at hR2
  have HX := hide0 (apply_some (o := o) (by omega) (by omega) hq hq2)
  have hsm : (⟨m.toArray⟩ : ByteArray).size = m.length := rfl
  clear hq hq2
  by_cases hf : o.size < f
  · have HY := hide0 (join_bad (o := o) (f := f) (e := n) (m := m) (by omega))
    go_enter Try.func18, Try.ntmps18
    go_wp2_with fail
    refine (hR _).mono ?_
    rintro e w' ⟨rfl, nq, rfl⟩
    simp only [rdVal]
    go_wp2_with fail
    refine (hR2 _).mono ?_
    rintro e w' ⟨rfl, nq2, rfl⟩
    simp only [rdVal]
    go_wp2
    go_ret2
    exact ⟨ret_bad (HX.out.trans HY.out), below_of_drewN _⟩
  by_cases hn : o.size - f < n
  · have HY := hide0 (join_bad (o := o) (f := f) (e := n) (m := m) (by omega))
    have hni : (o.size : Int) - (f : Int) < (n : Int) := by omega
    go_enter Try.func18, Try.ntmps18
    go_wp2_with fail
    refine (hR _).mono ?_
    rintro e w' ⟨rfl, nq, rfl⟩
    simp only [rdVal]
    go_wp2_with fail
    refine (hR2 _).mono ?_
    rintro e w' ⟨rfl, nq2, rfl⟩
    simp only [rdVal]
    go_wp2
    go_ret2
    exact ⟨ret_bad (HX.out.trans HY.out), below_of_drewN _⟩
  have hni : (n : Int) ≤ (o.size : Int) - (f : Int) := by omega
  by_cases hs : 65536 < f + m.length + n
  · have HY := hide0 (join_bad (o := o) (f := f) (e := n) (m := m) (by omega))
    go_enter Try.func18, Try.ntmps18
    go_wp2_with fail
    refine (hR _).mono ?_
    rintro e w' ⟨rfl, nq, rfl⟩
    simp only [rdVal]
    go_wp2_with fail
    refine (hR2 _).mono ?_
    rintro e w' ⟨rfl, nq2, rfl⟩
    simp only [rdVal]
    go_wp2
    go_ret2
    exact ⟨ret_bad (HX.out.trans HY.out), below_of_drewN _⟩
  have HY := hide0 (join_good (o := o) (f := f) (e := n) (m := m) (by omega))
  go_enter Try.func18, Try.ntmps18
  go_wp2_with fail
  refine (hR _).mono ?_
  rintro e w' ⟨rfl, nq, rfl⟩
  simp only [rdVal]
  go_wp2_with fail
  refine (hR2 _).mono ?_
  rintro e w' ⟨rfl, nq2, rfl⟩
  simp only [rdVal]
  have hJ : ∀ (X : World) (x y z : ByteArray), x = o.extract 0 f → y = ⟨m.toArray⟩ → z = o.extract (o.size - n) o.size → Calls Try.prog 43 #[.slice (some ⟨X.heap.size, 0, none⟩) 3 3] (X.alloc (.cells #[.string x, .string y, .string z] 9)) fun e w' => e = .returned (.string ⟨(cat [x, y, z]).toArray⟩) ∧ Below (X.heap.size + 1) (X.alloc (.cells #[.string x, .string y, .string z] 9)) w' := by
    intro X x y z hx hy hz
    have := join_any (some ⟨X.heap.size, 0, none⟩) 3 [x, y, z] _ (tags_three X x y z 9) (by subst hx hy hz; simp [cat]; omega) (by simp)
    rw [World.size_alloc] at this
    exact this
  obtain ⟨q, hq, hq2, HQ⟩ : ∃ q : Nat, IntKind.i64.wrap ((o.size : Int) - (n : Int)) = q ∧ q ≤ o.size ∧ Hid (q = o.size - n) := ⟨o.size - n, by rw [wrapI_small (by omega) (by omega)]; omega, by omega, rfl⟩
  rw [← HQ.out] at hJ
  have hfo : f ≤ o.size := by omega
  clear hR hR2
  go_wp2_with fail
  go_region_held (fun _ => True) (go_keep)
    (first | (go_at_call 43; refine (hJ _ _ _ _ (by first | rfl | go_goals) (by first | rfl | go_goals) (by first | rfl | go_goals)).mono ?_; rintro e w3 ⟨rfl, hb3⟩))
  go_wp2
  go_ret2
  refine ⟨(ret_se (p := (o.data.toList.take f ++ m ++ o.data.toList.drop (o.size - n), 0)) (by rw [extract_front, extract_end, HQ.out]; simp [cat]) rfl).trans (by rw [HX.out, HY.out]), ?_⟩
  have hbw := below_of_drewN (w := w) (nq + nq2 + 1)
  exact (hbw.alloc hbw.size _).trans (hb3.mono (Nat.le_succ_of_le hbw.size))

end Go.Proofs.Ytdjllnhahhjgmaa
