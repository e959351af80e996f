/- Walk of chronicleref.Good. -/
import Derived.Test.YtdjllnhahhjgmaaC1
namespace Go.Proofs.Ytdjllnhahhjgmaa
open Go.RowKit Chron
theorem bytesLess_not : ∀ x y : List UInt8, (Op.bytesLess x y || x == y) = !Op.bytesLess y x
  | [], [] => rfl
  | [], _ :: _ => rfl
  | _ :: _, [] => rfl
  | a :: x, b :: y => by
    have ih := bytesLess_not x y
    simp only [Op.bytesLess]
    rcases Nat.lt_trichotomy a.toNat b.toNat with h | h | h
    · have h1 : a < b := UInt8.lt_iff_toNat_lt.2 h
      have h2 : ¬ b < a := fun h' => by have := UInt8.lt_iff_toNat_lt.1 h'; omega
      have h3 : ¬ b = a := fun h' => by subst h'; omega
      have h4 : ¬ a = b := fun h' => h3 h'.symm
      simp [h1, h2, h3]
    · have h1 : a = b := UInt8.toNat_inj.1 h
      subst h1
      have h2 : ¬ a < a := fun h' => by have := UInt8.lt_iff_toNat_lt.1 h'; omega
      have e : (a :: x == a :: y) = (x == y) := by simp
      simp only [h2, e]
      simpa using ih
    · have h1 : b < a := UInt8.lt_iff_toNat_lt.2 h
      have h2 : ¬ a < b := fun h' => by have := UInt8.lt_iff_toNat_lt.1 h'; omega
      have h3 : ¬ a = b := fun h' => by subst h'; omega
      simp [h1, h2, h3]
def frontR (k : Int) (t : ByteArray) (m : Int) (b : ByteArray) (n : Nat) : Bool :=
  lineB t && (lineB b && (!t.toList.isEmpty && (decide (1 ≤ k) && (decide (k ≤ 4) && (decide (0 ≤ m) && (decide (m ≤ 1125899906842624) && decide (n ≤ 4)))))))
theorem isB_front {k : Int} {t : ByteArray} {m : Int} {b : ByteArray} {ts : List ByteArray} (h : frontR k t m b ts.length = false) : isB ⟨k, t, m, b, ts⟩ = false := by
  rw [Bool.eq_false_iff] at h ⊢
  intro hi
  apply h
  simp only [isB, nameB, tagsB, frontR, Bool.and_eq_true, decide_eq_true_eq] at hi ⊢
  obtain ⟨h1, h2, ⟨h3, h4⟩, h5, h6, h7, h8, _⟩ := hi
  exact ⟨h4, h7, h3, h1, h2, h5, h6, h8⟩
theorem isB_tags {k : Int} {t : ByteArray} {m : Int} {b : ByteArray} {ts : List ByteArray} (h : frontR k t m b ts.length = true) : isB ⟨k, t, m, b, ts⟩ = tagsB ts := by
  simp only [isB, nameB, frontR, Bool.and_eq_true, decide_eq_true_eq] at h ⊢
  obtain ⟨h4, h7, h3, h1, h2, h5, h6, _⟩ := h
  simp only [h1, h2, h3, h4, h5, h6, h7]; simp
set_option maxRecDepth 100000 in
set_option maxHeartbeats 2000000 in
theorem good_any (k : Int) (t : ByteArray) (m : Int) (b : ByteArray) (a : Option Addr) (cap : Nat) (ts : List ByteArray) (w : World) (ht : Hid (TagsAt w a ts)) (hs : Hid (Short ts)) (_hl : ts.length ≤ maxLen)
    (htl : t.size ≤ maxLen) (hbl : b.size ≤ maxLen) :
    Calls Try.prog 30 #[.agg #[.int .i64 k, .string t, .int .i64 m, .string b, .slice a ts.length cap]] w fun e w' => e = .returned (.bool (isB ⟨k, t, m, b, ts⟩)) ∧ Below w.heap.size w w' := by
  by_cases hfr : frontR k t m b ts.length = true
  · have HI := hide0 (isB_tags hfr)
    simp only [frontR, Bool.and_eq_true, decide_eq_true_eq] at hfr
    obtain ⟨g1, g2, g3, g4, g5, g6, g7, g8⟩ := hfr
    have g3' : t.toList.isEmpty = false := by simpa using g3
    clear g3
    go_enter Try.func30, Try.ntmps30
    go_wp2_with (go_at_call 40; refine (lineOK_any _ _ ?_).mono ?_; first | exact htl | exact hbl
                 rintro e w' ⟨rfl, rfl⟩)
    go_loopw [5] (fun i wx => ∃ (n nq : Nat), n ≤ ts.length ∧ i = .int .i64 n ∧ wx = (w.alloc (.cells #[.int .i64 k, .string t, .int .i64 m, .string b, .slice a ts.length cap] 24)).drewN nq ∧ Hid (∀ j, j < n → tagOk ts j = true)) (fun i _ => ts.length - (intOf i).toNat)
    case atStart => exact ⟨0, 0, Nat.zero_le _, rfl, rfl, fun j hj => by omega⟩
    case round =>
      obtain ⟨n, nq, hn, rfl, rfl, HA⟩ := hrel
      by_cases hlt : n < ts.length
      · obtain ⟨q, off, rfl, hc⟩ := (TagsAt.alloc ht.out (.cells #[.int .i64 k, .string t, .int .i64 m, .string b, .slice a ts.length cap] 24)) (by omega)
        have hck := hc n hlt
        have hsk := hs.out n hlt
        have HC := hide0 hc
        clear hc
        have HO : Hid (tagOk ts n = (nameB (ts[n]?.getD ByteArray.empty) && (decide (n = 0) || Op.bytesLess (ts[n - 1]?.getD ByteArray.empty).toList (ts[n]?.getD ByteArray.empty).toList))) := rfl
        generalize ts[n]?.getD ByteArray.empty = x at hck hsk HO
        have i1 : (n : Int) < (ts.length : Int) := by omega
        have i0 : (0 : Int) ≤ (n : Int) := by omega
        by_cases hln : lineB x = true
        · by_cases hem : x.toList = []
          · have hemb : x.toList.isEmpty = true := by simp [hem]
            have HNM : Hid (nameB x = false) := by simp [Hid, nameB, hemb]
            clear hem
            go_wp2_with (go_at_call 40; refine (lineOK_any _ _ hsk).mono ?_; rintro e w' ⟨rfl, hw'⟩; have hw2 := hw'.symm; subst hw2; clear hw')
            go_quiet (fail)
            go_wp2
            go_ret
            exact ⟨ret_bool (by rw [HI.out]; exact (tags_not hlt (tag_bad HO.out HNM.out)).symm), below_drewN (below_drewN ((Below.refl _ _).alloc (Nat.le_refl _) _) _) _⟩
          · have hemb : x.toList.isEmpty = false := by simp [hem]
            have HNM : Hid (nameB x = true) := by simp [Hid, nameB, hemb, hln]
            clear hem
            by_cases hn0 : 0 < n
            · have hcp := HC.out (n - 1) (by omega)
              generalize ts[n - 1]?.getD ByteArray.empty = p at hcp HO
              have hd1 : decide ((0 : Int) < (n : Int)) = true := by simp; omega
              have hlq := bytesLess_not x.toList p.toList
              have i2 : (n : Int) - 1 < (ts.length : Int) := by omega
              rcases hbq : Op.bytesLess p.toList x.toList with _ | _
              · rw [hbq] at hlq
                have HBQ := hide0 hbq
                clear hbq
                simp only [Bool.not_false] at hlq
                go_wp2_with (go_at_call 40; refine (lineOK_any _ _ hsk).mono ?_; rintro e w' ⟨rfl, hw'⟩; have hw2 := hw'.symm; subst hw2; clear hw')
                go_quiet (fail)
                go_wp2
                go_ret
                exact ⟨ret_bool (by rw [HI.out]; exact (tags_not hlt (tag_fall HO.out hn0 (by rw [HBQ.out]; rfl))).symm), below_drewN (below_drewN ((Below.refl _ _).alloc (Nat.le_refl _) _) _) _⟩
              · rw [hbq] at hlq
                have HBQ := hide0 hbq
                clear hbq
                simp only [Bool.not_true] at hlq
                go_wp2_with (go_at_call 40; refine (lineOK_any _ _ hsk).mono ?_; rintro e w' ⟨rfl, hw'⟩; have hw2 := hw'.symm; subst hw2; clear hw')
                go_quiet (fail)
                go_wp2
                go_roundw
                case rel => exact ⟨n + 1, _, by omega, by go_num, rfl, tag_next HA.out (tag_rise HO.out HNM.out (by rw [HBQ.out]; rfl))⟩
                case measure => simp [intOf]; omega
            · have hd1 : decide ((0 : Int) < (n : Int)) = false := by simp; omega
              have hn1 : n = 0 := by omega
              clear hn1
              go_wp2_with (go_at_call 40; refine (lineOK_any _ _ hsk).mono ?_; rintro e w' ⟨rfl, hw'⟩; have hw2 := hw'.symm; subst hw2; clear hw')
              go_quiet (fail)
              go_wp2
              go_roundw
              case rel => exact ⟨n + 1, _, by omega, by go_num, rfl, tag_next HA.out (tag_first HO.out HNM.out hn0)⟩
              case measure => simp [intOf]; omega
        · have hlb : lineB x = false := by simpa using hln
          have HNM : Hid (nameB x = false) := by simp [Hid, nameB, hlb]
          clear hln
          go_wp2_with (go_at_call 40; refine (lineOK_any _ _ hsk).mono ?_; rintro e w' ⟨rfl, hw'⟩; have hw2 := hw'.symm; subst hw2; clear hw')
          go_quiet (fail)
          go_wp2
          go_ret
          exact ⟨ret_bool (by rw [HI.out]; exact (tags_not hlt (tag_bad HO.out HNM.out)).symm), below_drewN (below_drewN ((Below.refl _ _).alloc (Nat.le_refl _) _) _) _⟩
      · go_wp2
        go_ret
        exact ⟨ret_bool (by rw [HI.out]; exact (tags_all (by omega) (by omega) HA.out).symm), below_drewN ((Below.refl _ _).alloc (Nat.le_refl _) _) nq⟩
  · have HI := hide0 (isB_front (by simpa using hfr))
    have HF := hide0 hfr
    clear hfr
    go_enter Try.func30, Try.ntmps30
    go_wp2_with (go_at_call 40; refine (lineOK_any _ _ ?_).mono ?_; first | exact htl | exact hbl
                 rintro e w' ⟨rfl, rfl⟩)
    all_goals first
      | (go_ret; exact ⟨ret_bool HI.out.symm, (Below.refl _ _).alloc (Nat.le_refl _) _⟩)
      | (exfalso; apply HF.out; simp [frontR, *]; omega)
      | (exfalso; apply HF.out; simp_all [frontR]; omega)
end Go.Proofs.Ytdjllnhahhjgmaa
