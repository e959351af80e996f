/- Walks of chronicleref.Make and chronicleref.Apply. -/
import Derived.Test.YtdjllnhahhjgmaaG5
import Derived.Test.YtdjllnhahhjgmaaF2
namespace Go.Proofs.Ytdjllnhahhjgmaa
open Go.RowKit Chron
theorem rev_drop_get (s : ByteArray) (a k i : Nat) (h : a + k < s.size) (hi : i = s.size - k - 1) : (s.data.toList.drop a).reverse[k]'(by simp; omega) = s[i]'(by omega) := by
  subst hi; rw [List.getElem_reverse, List.getElem_drop]
  have : a + ((s.data.toList.drop a).length - 1 - k) = s.size - k - 1 := by simp; omega
  simp only [this]; rfl
set_option maxRecDepth 100000 in
set_option maxHeartbeats 2000000 in
theorem makeRef_any (o c : ByteArray) (w : World) (ho : o.size ≤ maxLen) (hc : c.size ≤ maxLen) :
    Calls Try.prog 20 #[.string o, .string c] w fun e w' => e = .returned (seVal (makeB o.data.toList c.data.toList)) ∧ Below w.heap.size w w' := by
  unfold maxLen at ho hc
  by_cases h1 : 65536 < o.size
  · have HX := hide0 (make_long (o := o) (c := c) (.inl h1))
    go_enter Try.func20, Try.ntmps20
    go_wp2
    go_ret2
    exact ⟨ret_bad HX.out, Below.refl _ _⟩
  by_cases h2 : 65536 < c.size
  · have HX := hide0 (make_long (o := o) (c := c) (.inr h2))
    go_enter Try.func20, Try.ntmps20
    go_wp2
    go_ret2
    exact ⟨ret_bad HX.out, Below.refl _ _⟩
  have hNk : ∀ (k : Nat) (w' : World), k ≤ 65536 → Hid (Below w.heap.size w w') → Calls Try.prog 33 #[.int .i64 k] w' fun e w'' => e = .returned (.string ⟨(num k).toArray⟩) ∧ Hid (Below w.heap.size w w'') := by
    intro k w' hk HB
    refine (numRef_any (k : Int) w' (by omega) (by show (k : Int).toNat < 128 ^ 9; omega)).mono ?_
    rintro e w'' ⟨rfl, hb⟩
    exact ⟨by rw [Int.toNat_natCast], HB.out.trans (hb.mono HB.out.size)⟩
  have hlo : o.data.toList.length = o.size := rfl
  have hlc : c.data.toList.length = c.size := rfl
  go_enter Try.func20, Try.ntmps20
  go_wp2
  go_loopw [6] (fun m wr => ∃ k nq : Nat, wr = w.drewN nq ∧ k ≤ o.size ∧ m = .int .i64 k ∧ Hid (Akin o.data.toList c.data.toList k)) (fun m _ => o.size - (intOf m).toNat)
  case atStart => exact ⟨0, 0, rfl, Nat.zero_le _, rfl, alike_zero _ _⟩
  case round =>
    obtain ⟨k, nq, rfl, hk, rfl, HA⟩ := hrel
    by_cases hgo : ∃ (hla : k < o.size) (hlb : k < c.size), o[k] = c[k]
    · obtain ⟨hla, hlb, he⟩ := hgo
      have HM := hide0 (alike_more HA.out (by simpa using hla) (by simpa using hlb) he)
      have heb := byteSame he
      clear he
      go_wp2_with fail
      go_quiet (fail)
      go_wp2
      go_roundw
      case rel => exact ⟨k + 1, _, rfl, by omega, by go_num, HM⟩
      case measure => simp [intOf]; omega
    have hkc := HA.out.le.2
    rw [hlc] at hkc
    have HF : Hid (fr o.data.toList c.data.toList = k) := by
      by_cases hlt : k < o.size ∧ k < c.size
      · exact alike_other HA.out hlt.1 hlt.2 (fun he => hgo ⟨hlt.1, hlt.2, he⟩)
      · exact alike_end HA.out hlt
    have h3 : (∃ (hla : k < o.size) (hlb : k < c.size), ((o[k].toNat : Int) == (c[k].toNat : Int)) = false) ∨ (¬ k < o.size) ∨ (k < o.size ∧ ¬ k < c.size) := by
      by_cases hla : k < o.size
      · by_cases hlb : k < c.size
        · exact .inl ⟨hla, hlb, byteDiff fun he => hgo ⟨hla, hlb, he⟩⟩
        · exact .inr (.inr ⟨hla, hlb⟩)
      · exact .inr (.inl hla)
    clear hgo HA
    rcases h3 with ⟨hla, hlb, heb⟩ | hla | ⟨hla, hlb⟩
    all_goals
      go_wp2_with fail
      go_quiet (fail)
      go_wp2
    all_goals try clear heb
    all_goals
      go_loopw [7] (fun m wr => ∃ j nq : Nat, wr = w.drewN nq ∧ k + j ≤ o.size ∧ k + j ≤ c.size ∧ m = .int .i64 j ∧ Hid (Akin (o.data.toList.drop k).reverse (c.data.toList.drop k).reverse j)) (fun m _ => o.size - (intOf m).toNat)
      case atStart => exact ⟨0, _, World.drewN_drewN _ _ _, hk, hkc, rfl, alike_zero _ _⟩
      case round =>
        obtain ⟨j, nq3, rfl, hjo, hjc, rfl, HA⟩ := hrel
        obtain ⟨z, hz, HZ⟩ : ∃ z : Nat, IntKind.i64.wrap ((k : Int) + (j : Int)) = z ∧ Hid (z = k + j) := ⟨k + j, by rw [wrapI_small (by omega) (by omega)]; omega, rfl⟩
        by_cases hin : k + j < o.size ∧ k + j < c.size
        · obtain ⟨hla, hlb⟩ := hin
          obtain ⟨x, hx, hx2, HXo⟩ : ∃ x : Nat, (o.size : Int) - j - 1 = x ∧ x < o.size ∧ Hid (x = o.size - j - 1) := ⟨o.size - j - 1, by omega, by omega, rfl⟩
          obtain ⟨y, hy, hy2, HYo⟩ : ∃ y : Nat, (c.size : Int) - j - 1 = y ∧ y < c.size ∧ Hid (y = c.size - j - 1) := ⟨c.size - j - 1, by omega, by omega, rfl⟩
          have hga := rev_drop_get o k j x hla HXo.out
          have hgb := rev_drop_get c k j y hlb HYo.out
          have hza : z < o.size := by rw [HZ.out]; exact hla
          have hzb : z < c.size := by rw [HZ.out]; exact hlb
          by_cases he : o[x] = c[y]
          · have HM := hide0 (alike_more HA.out (by simp; omega) (by simp; omega) (by rw [hga, hgb]; exact he))
            have heb := byteSame he
            clear he hga hgb
            go_wp2_with fail
            go_quiet (fail)
            go_wp2
            go_roundw
            case rel => exact ⟨j + 1, _, rfl, by omega, by omega, by go_num, HM⟩
            case measure => simp [intOf]; omega
          · have HO := hide0 (alike_other HA.out (by simp; omega) (by simp; omega) (by rw [hga, hgb]; exact he))
            have heb := byteDiff he
            clear he hga hgb
            go_wp2_with fail
            go_quiet (fail)
            first
            | exfalso; omega
            | have HE : Hid (en o.data.toList c.data.toList = j) := by show pre _ _ = j; rw [HF.out]; exact HO.out
              have HX := hide0 (make_eq (o := o) (c := c) (by omega) (by omega) HF.out HE.out)
              obtain ⟨q, hq, hq2, hq3, HQ⟩ : ∃ q : Nat, IntKind.i64.wrap ((c.size : Int) - (j : Int)) = q ∧ k ≤ q ∧ q ≤ c.size ∧ Hid (q = k + (c.size - k - j)) := ⟨c.size - j, by rw [wrapI_small (by omega) (by omega)]; omega, by omega, by omega, by show _ = _; omega⟩
              have hk6 : k ≤ 65536 := by omega
              have hj6 : j ≤ 65536 := by omega
              have hl1 := num_len k
              have hl2 := num_len j
              clear HE HO HA
              go_wp2_with fail
              go_region_held (fun _ => True) (go_keep)
                (first
                  | (go_at_call 33; refine (hNk _ _ (by assumption) (by first | assumption | exact below_of_drewN _ | exact below_drewN (below_of_drewN _) _)).mono ?_; rintro e w3 ⟨rfl, HB3⟩))
              all_goals
                go_wp2
                go_ret2
                exact ⟨(ret_se (p := (num k ++ num j ++ (c.data.toList.drop k).take (c.size - k - j), 0)) (by rw [HQ.out, extract_drop_take]; apply bytes_inj; simp) rfl).trans (by rw [HX.out]), HB3.out⟩
        · have HO := hide0 (alike_end HA.out (by simp; omega))
          by_cases hla : k + j < o.size
          · have hza : z < o.size := by rw [HZ.out]; exact hla
            have hzb : ¬ z < c.size := by rw [HZ.out]; omega
            clear hin
            go_wp2_with fail
            go_quiet (fail)
            first
            | exfalso; omega
            | have HE : Hid (en o.data.toList c.data.toList = j) := by show pre _ _ = j; rw [HF.out]; exact HO.out
              have HX := hide0 (make_eq (o := o) (c := c) (by omega) (by omega) HF.out HE.out)
              obtain ⟨q, hq, hq2, hq3, HQ⟩ : ∃ q : Nat, IntKind.i64.wrap ((c.size : Int) - (j : Int)) = q ∧ k ≤ q ∧ q ≤ c.size ∧ Hid (q = k + (c.size - k - j)) := ⟨c.size - j, by rw [wrapI_small (by omega) (by omega)]; omega, by omega, by omega, by show _ = _; omega⟩
              have hk6 : k ≤ 65536 := by omega
              have hj6 : j ≤ 65536 := by omega
              have hl1 := num_len k
              have hl2 := num_len j
              clear HE HO HA
              go_wp2_with fail
              go_region_held (fun _ => True) (go_keep)
                (first
                  | (go_at_call 33; refine (hNk _ _ (by assumption) (by first | assumption | exact below_of_drewN _ | exact below_drewN (below_of_drewN _) _)).mono ?_; rintro e w3 ⟨rfl, HB3⟩))
              all_goals
                go_wp2
                go_ret2
                exact ⟨(ret_se (p := (num k ++ num j ++ (c.data.toList.drop k).take (c.size - k - j), 0)) (by rw [HQ.out, extract_drop_take]; apply bytes_inj; simp) rfl).trans (by rw [HX.out]), HB3.out⟩
          · have hza : ¬ z < o.size := by rw [HZ.out]; exact hla
            clear hin
            go_wp2_with fail
            go_quiet (fail)
            first
            | exfalso; omega
            | have HE : Hid (en o.data.toList c.data.toList = j) := by show pre _ _ = j; rw [HF.out]; exact HO.out
              have HX := hide0 (make_eq (o := o) (c := c) (by omega) (by omega) HF.out HE.out)
              obtain ⟨q, hq, hq2, hq3, HQ⟩ : ∃ q : Nat, IntKind.i64.wrap ((c.size : Int) - (j : Int)) = q ∧ k ≤ q ∧ q ≤ c.size ∧ Hid (q = k + (c.size - k - j)) := ⟨c.size - j, by rw [wrapI_small (by omega) (by omega)]; omega, by omega, by omega, by show _ = _; omega⟩
              have hk6 : k ≤ 65536 := by omega
              have hj6 : j ≤ 65536 := by omega
              have hl1 := num_len k
              have hl2 := num_len j
              clear HE HO HA
              go_wp2_with fail
              go_region_held (fun _ => True) (go_keep)
                (first
                  | (go_at_call 33; refine (hNk _ _ (by assumption) (by first | assumption | exact below_of_drewN _ | exact below_drewN (below_of_drewN _) _)).mono ?_; rintro e w3 ⟨rfl, HB3⟩))
              all_goals
                go_wp2
                go_ret2
                exact ⟨(ret_se (p := (num k ++ num j ++ (c.data.toList.drop k).take (c.size - k - j), 0)) (by rw [HQ.out, extract_drop_take]; apply bytes_inj; simp) rfl).trans (by rw [HX.out]), HB3.out⟩
end Go.Proofs.Ytdjllnhahhjgmaa
