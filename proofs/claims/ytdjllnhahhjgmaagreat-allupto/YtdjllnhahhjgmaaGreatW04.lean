/- Walks and plain facts, in the order in which they lean on one another. -/
import Derived.Test.YtdjllnhahhjgmaaGreatW03
import Derived.Laws.CopyOwn
import Derived.Deep.AppendLies
namespace Go.Proofs.YtdjllnhahhjgmaaGreat
open Go.RowKit Chron
theorem bytesLess_not : ∀ x y : List UInt8, (Op.bytesLess x y || x == y) = !Op.bytesLess y x
  | [], [] => rfl
  | [], _ :: _ => rfl
  | _ :: _, [] => rfl
  | a :: x, b :: y => by
    have ih := bytesLess_not x y
    simp only [Op.bytesLess]
    rcases Nat.lt_trichotomy a.toNat b.toNat with h | h | h
    · have h1 : a < b := UInt8.lt_iff_toNat_lt.2 h
      have h2 : ¬ b < a := fun h' => by have := UInt8.lt_iff_toNat_lt.1 h'; omega
      have h3 : ¬ b = a := fun h' => by subst h'; omega
      have h4 : ¬ a = b := fun h' => h3 h'.symm
      simp [h1, h2, h3]
    · have h1 : a = b := UInt8.toNat_inj.1 h
      subst h1
      have h2 : ¬ a < a := fun h' => by have := UInt8.lt_iff_toNat_lt.1 h'; omega
      have e : (a :: x == a :: y) = (x == y) := by simp
      simp only [h2, e]
      simpa using ih
    · have h1 : b < a := UInt8.lt_iff_toNat_lt.2 h
      have h2 : ¬ a < b := fun h' => by have := UInt8.lt_iff_toNat_lt.1 h'; omega
      have h3 : ¬ a = b := fun h' => by subst h'; omega
      simp [h1, h2, h3]
def frontR (k : Int) (t : ByteArray) (m : Int) (b : ByteArray) (n : Nat) : Bool :=
  lineB t && (lineB b && (!t.toList.isEmpty && (decide (1 ≤ k) && (decide (k ≤ 4) && (decide (0 ≤ m) && (decide (m ≤ 1125899906842624) && decide (n ≤ 4)))))))
theorem isB_front {k : Int} {t : ByteArray} {m : Int} {b : ByteArray} {ts : List ByteArray} (h : frontR k t m b ts.length = false) : isB ⟨k, t, m, b, ts⟩ = false := by
  rw [Bool.eq_false_iff] at h ⊢
  intro hi
  apply h
  simp only [isB, nameB, tagsB, frontR, Bool.and_eq_true, decide_eq_true_eq] at hi ⊢
  obtain ⟨h1, h2, ⟨h3, h4⟩, h5, h6, h7, h8, _⟩ := hi
  exact ⟨h4, h7, h3, h1, h2, h5, h6, h8⟩
theorem isB_tags {k : Int} {t : ByteArray} {m : Int} {b : ByteArray} {ts : List ByteArray} (h : frontR k t m b ts.length = true) : isB ⟨k, t, m, b, ts⟩ = tagsB ts := by
  simp only [isB, nameB, frontR, Bool.and_eq_true, decide_eq_true_eq] at h ⊢
  obtain ⟨h4, h7, h3, h1, h2, h5, h6, _⟩ := h
  simp only [h1, h2, h3, h4, h5, h6, h7]; simp
set_option maxRecDepth 100000 in
set_option maxHeartbeats 2000000 in
theorem good_any (k : Int) (t : ByteArray) (m : Int) (b : ByteArray) (a : Option Addr) (cap : Nat) (ts : List ByteArray) (w : World) (ht : Hid (TagsAt w a ts)) (hs : Hid (Short ts)) (_hl : ts.length ≤ maxLen)
    (htl : t.size ≤ maxLen) (hbl : b.size ≤ maxLen) :
    Calls Tryz.prog 44 #[.agg #[.int .i64 k, .string t, .int .i64 m, .string b, .slice a ts.length cap]] w fun e w' => e = .returned (.bool (isB ⟨k, t, m, b, ts⟩)) ∧ Below w.heap.size w w' := by
  by_cases hfr : frontR k t m b ts.length = true
  · have HI := hide0 (isB_tags hfr)
    simp only [frontR, Bool.and_eq_true, decide_eq_true_eq] at hfr
    obtain ⟨g1, g2, g3, g4, g5, g6, g7, g8⟩ := hfr
    have g3' : t.toList.isEmpty = false := by simpa using g3
    clear g3
    go_enter Tryz.func44, Tryz.ntmps44
    go_wp2_with (go_at_call 62; refine (lineOK_any _ _ ?_).mono ?_; first | exact htl | exact hbl
                 rintro e w' ⟨rfl, rfl⟩)
    go_loopw [5] (fun i wx => ∃ (n nq : Nat), n ≤ ts.length ∧ i = .int .i64 n ∧ wx = (w.alloc (.cells #[.int .i64 k, .string t, .int .i64 m, .string b, .slice a ts.length cap] 38)).drewN nq ∧ Hid (∀ j, j < n → tagOk ts j = true)) (fun i _ => ts.length - (intOf i).toNat)
    case atStart => exact ⟨0, 0, Nat.zero_le _, rfl, rfl, fun j hj => by omega⟩
    case round =>
      obtain ⟨n, nq, hn, rfl, rfl, HA⟩ := hrel
      by_cases hlt : n < ts.length
      · obtain ⟨q, off, rfl, hc⟩ := (TagsAt.alloc ht.out (.cells #[.int .i64 k, .string t, .int .i64 m, .string b, .slice a ts.length cap] 38)) (by omega)
        have hck := hc n hlt
        have hsk := hs.out n hlt
        have HC := hide0 hc
        clear hc
        have HO : Hid (tagOk ts n = (nameB (ts[n]?.getD ByteArray.empty) && (decide (n = 0) || Op.bytesLess (ts[n - 1]?.getD ByteArray.empty).toList (ts[n]?.getD ByteArray.empty).toList))) := rfl
        generalize ts[n]?.getD ByteArray.empty = x at hck hsk HO
        have i1 : (n : Int) < (ts.length : Int) := by omega
        have i0 : (0 : Int) ≤ (n : Int) := by omega
        by_cases hln : lineB x = true
        · by_cases hem : x.toList = []
          · have hemb : x.toList.isEmpty = true := by simp [hem]
            have HNM : Hid (nameB x = false) := by simp [Hid, nameB, hemb]
            clear hem
            go_wp2_with (go_at_call 62; refine (lineOK_any _ _ hsk).mono ?_; rintro e w' ⟨rfl, hw'⟩; have hw2 := hw'.symm; subst hw2; clear hw')
            go_quiet (fail)
            go_wp2
            go_ret
            exact ⟨ret_bool (by rw [HI.out]; exact (tags_not hlt (tag_bad HO.out HNM.out)).symm), below_drewN (below_drewN ((Below.refl _ _).alloc (Nat.le_refl _) _) _) _⟩
          · have hemb : x.toList.isEmpty = false := by simp [hem]
            have HNM : Hid (nameB x = true) := by simp [Hid, nameB, hemb, hln]
            clear hem
            by_cases hn0 : 0 < n
            · have hcp := HC.out (n - 1) (by omega)
              generalize ts[n - 1]?.getD ByteArray.empty = p at hcp HO
              have hd1 : decide ((0 : Int) < (n : Int)) = true := by simp; omega
              have hlq := bytesLess_not x.toList p.toList
              have i2 : (n : Int) - 1 < (ts.length : Int) := by omega
              rcases hbq : Op.bytesLess p.toList x.toList with _ | _
              · rw [hbq] at hlq
                have HBQ := hide0 hbq
                clear hbq
                simp only [Bool.not_false] at hlq
                go_wp2_with (go_at_call 62; refine (lineOK_any _ _ hsk).mono ?_; rintro e w' ⟨rfl, hw'⟩; have hw2 := hw'.symm; subst hw2; clear hw')
                go_quiet (fail)
                go_wp2
                go_ret
                exact ⟨ret_bool (by rw [HI.out]; exact (tags_not hlt (tag_fall HO.out hn0 (by rw [HBQ.out]; rfl))).symm), below_drewN (below_drewN ((Below.refl _ _).alloc (Nat.le_refl _) _) _) _⟩
              · rw [hbq] at hlq
                have HBQ := hide0 hbq
                clear hbq
                simp only [Bool.not_true] at hlq
                go_wp2_with (go_at_call 62; refine (lineOK_any _ _ hsk).mono ?_; rintro e w' ⟨rfl, hw'⟩; have hw2 := hw'.symm; subst hw2; clear hw')
                go_quiet (fail)
                go_wp2
                go_roundw
                case rel => exact ⟨n + 1, _, by omega, by go_num, rfl, tag_next HA.out (tag_rise HO.out HNM.out (by rw [HBQ.out]; rfl))⟩
                case measure => simp [intOf]; omega
            · have hd1 : decide ((0 : Int) < (n : Int)) = false := by simp; omega
              have hn1 : n = 0 := by omega
              clear hn1
              go_wp2_with (go_at_call 62; refine (lineOK_any _ _ hsk).mono ?_; rintro e w' ⟨rfl, hw'⟩; have hw2 := hw'.symm; subst hw2; clear hw')
              go_quiet (fail)
              go_wp2
              go_roundw
              case rel => exact ⟨n + 1, _, by omega, by go_num, rfl, tag_next HA.out (tag_first HO.out HNM.out hn0)⟩
              case measure => simp [intOf]; omega
        · have hlb : lineB x = false := by simpa using hln
          have HNM : Hid (nameB x = false) := by simp [Hid, nameB, hlb]
          clear hln
          go_wp2_with (go_at_call 62; refine (lineOK_any _ _ hsk).mono ?_; rintro e w' ⟨rfl, hw'⟩; have hw2 := hw'.symm; subst hw2; clear hw')
          go_quiet (fail)
          go_wp2
          go_ret
          exact ⟨ret_bool (by rw [HI.out]; exact (tags_not hlt (tag_bad HO.out HNM.out)).symm), below_drewN (below_drewN ((Below.refl _ _).alloc (Nat.le_refl _) _) _) _⟩
      · go_wp2
        go_ret
        exact ⟨ret_bool (by rw [HI.out]; exact (tags_all (by omega) (by omega) HA.out).symm), below_drewN ((Below.refl _ _).alloc (Nat.le_refl _) _) nq⟩
  · have HI := hide0 (isB_front (by simpa using hfr))
    have HF := hide0 hfr
    clear hfr
    go_enter Tryz.func44, Tryz.ntmps44
    go_wp2_with (go_at_call 62; refine (lineOK_any _ _ ?_).mono ?_; first | exact htl | exact hbl
                 rintro e w' ⟨rfl, rfl⟩)
    all_goals first
      | (go_ret; exact ⟨ret_bool HI.out.symm, (Below.refl _ _).alloc (Nat.le_refl _) _⟩)
      | (exfalso; apply HF.out; simp [frontR, *]; omega)
      | (exfalso; apply HF.out; simp_all [frontR]; omega)
end Go.Proofs.YtdjllnhahhjgmaaGreat
namespace Go.Proofs.YtdjllnhahhjgmaaGreat
open Go.RowKit Chron
theorem refLetter_eq {e b : ByteArray} {c : UInt8} {x : List UInt8} (he : e.data.toList = [c]) : e ++ ⟨x.toArray⟩ ++ b = ⟨(c :: x ++ b.data.toList).toArray⟩ := letter_eq he
theorem refFront_eq (j : Nat) (t : ByteArray) : (⟨#[1]⟩ ++ ⟨(num j).toArray⟩ ++ ⟨#[2]⟩ ++ ⟨(text t.data.toList).toArray⟩ : ByteArray) = ⟨(front j t).toArray⟩ := by
  apply bytes_inj
  have h1 : num 1 = [1] := rfl
  have h2 : num 2 = [2] := rfl
  simp [front, h1, h2]
theorem mk_push (l : List UInt8) (c : UInt8) (x : List UInt8) : (⟨l.toArray⟩ ++ ⟨#[c]⟩ ++ ⟨x.toArray⟩ : ByteArray) = ⟨(l ++ (c :: x)).toArray⟩ := by
  apply bytes_inj; simp
end Go.Proofs.YtdjllnhahhjgmaaGreat
namespace Go.Proofs.YtdjllnhahhjgmaaGreat
open Go.RowKit Chron
end Go.Proofs.YtdjllnhahhjgmaaGreat
namespace Go.Proofs.YtdjllnhahhjgmaaGreat
open Go.RowKit Chron
def sameTs (xs ys : List ByteArray) : Bool := decide (xs = ys)
def sameEv (e f : Ev) : Bool := sameTs e.tags f.tags && (decide (e.kind = f.kind) && (decide (e.task = f.task) && (decide (e.time = f.time) && decide (e.body = f.body))))
theorem sameEv_iff {e f : Ev} : sameEv e f = true ↔ e = f := by
  obtain ⟨a, b, c, d, g⟩ := e; obtain ⟨a', b', c', d', g'⟩ := f
  simp only [sameEv, sameTs, Bool.and_eq_true, decide_eq_true_eq, Ev.mk.injEq]
  constructor
  · rintro ⟨h1, h2, h3, h4, h5⟩; exact ⟨h2, h3, h4, h5, h1⟩
  · rintro ⟨h2, h3, h4, h5, h1⟩; exact ⟨h1, h2, h3, h4, h5⟩
theorem toList_inj {a b : ByteArray} (h : a.toList = b.toList) : a = b := by
  rw [ByteArray.toList_eq, ByteArray.toList_eq] at h; exact bytes_inj h
theorem sameTs_len {xs ys : List ByteArray} (h : ¬ xs.length = ys.length) : sameTs xs ys = false := by
  simp only [sameTs, decide_eq_false_iff_not]; rintro rfl; exact h rfl
theorem sameTs_all {xs ys : List ByteArray} {k : Nat} (hl : xs.length = ys.length) (hk : xs.length ≤ k) (h : ∀ j, j < k → j < xs.length → xs[j]?.getD ByteArray.empty = ys[j]?.getD ByteArray.empty) : sameTs xs ys = true := by
  simp only [sameTs, decide_eq_true_eq]
  apply List.ext_getElem hl
  intro i h1 h2
  have := h i (by omega) h1
  rw [List.getElem?_eq_getElem h1, List.getElem?_eq_getElem h2] at this
  exact this
theorem sameTs_not {xs ys : List ByteArray} {k : Nat} (h : ¬ xs[k]?.getD ByteArray.empty = ys[k]?.getD ByteArray.empty) : sameTs xs ys = false := by
  simp only [sameTs, decide_eq_false_iff_not]; rintro rfl; exact h rfl
set_option maxRecDepth 100000 in
set_option maxHeartbeats 400000 in
theorem sameTexts_law (a1 a2 : Option Addr) (cap1 cap2 : Nat) (xs ys : List ByteArray) (w : World) (h1 : Hid (TagsAt w a1 xs)) (h2 : Hid (TagsAt w a2 ys)) (hx : xs.length ≤ maxLen) (_hy : ys.length ≤ maxLen) :
    Calls Tryz.prog 33 #[.slice a1 xs.length cap1, .slice a2 ys.length cap2] w fun e w' => e = .returned (.bool (sameTs xs ys)) ∧ ∃ nq, w' = w.drewN nq := by
  unfold maxLen at hx _hy
  by_cases hl : xs.length = ys.length
  · have hlb : ((xs.length : Int) != (ys.length : Int)) = false := by simp [hl]
    have HL := hide0 hl
    have hly : xs.length ≤ ys.length := by omega
    have hyl : ys.length ≤ xs.length := by omega
    clear hl
    go_enter Tryz.func33, Tryz.ntmps33
    go_wp2
    go_loopw [5] (fun i wx => ∃ (k nq : Nat), k ≤ xs.length ∧ i = .int .i64 k ∧ wx = w.drewN nq ∧ Hid (∀ j, j < k → j < xs.length → xs[j]?.getD ByteArray.empty = ys[j]?.getD ByteArray.empty)) (fun i _ => xs.length - (intOf i).toNat)
    case atStart => exact ⟨0, 0, Nat.zero_le _, rfl, rfl, fun j hj => by omega⟩
    case round =>
      obtain ⟨k, nq, hk, rfl, rfl, HA⟩ := hrel
      by_cases hlt : k < xs.length
      · obtain ⟨b1, o1, rfl, hc1⟩ := h1.out (by omega)
        obtain ⟨b2, o2, rfl, hc2⟩ := h2.out (by omega)
        have e1 := hc1 k hlt
        have e2 := hc2 k (by omega)
        have HX : Hid (xs[k]?.getD ByteArray.empty = xs[k]?.getD ByteArray.empty ∧ ys[k]?.getD ByteArray.empty = ys[k]?.getD ByteArray.empty) := ⟨rfl, rfl⟩
        obtain ⟨x, hxk⟩ : ∃ x, x = xs[k]?.getD ByteArray.empty := ⟨_, rfl⟩
        obtain ⟨y, hyk⟩ : ∃ y, y = ys[k]?.getD ByteArray.empty := ⟨_, rfl⟩
        rw [← hxk] at e1
        rw [← hyk] at e2
        have HXK := hide0 hxk
        have HYK := hide0 hyk
        clear hc1 hc2 hxk hyk HX
        have i1 : (k : Int) < (xs.length : Int) := by omega
        have i2 : (k : Int) < (ys.length : Int) := by omega
        by_cases hq : x.toList = y.toList
        · have hqb : (x.toList == y.toList) = true := by simp [hq]
          have HQ := hide0 (toList_inj hq)
          clear hq
          go_wp2_with fail
          go_quiet (fail)
          go_wp2
          go_roundw
          case rel => exact ⟨k + 1, _, by omega, by go_num, rfl, fun j hj hjl => by
            rcases Nat.lt_or_ge j k with hj2 | hj2
            · exact HA.out j hj2 hjl
            · rw [show j = k by omega, ← HXK.out, ← HYK.out]; exact HQ.out⟩
          case measure => simp [intOf]; omega
        · have hqb : (x.toList == y.toList) = false := by simp [hq]
          have HQ := hide0 hq
          clear hq
          go_wp2_with fail
          go_quiet (fail)
          go_wp2
          go_ret
          exact ⟨ret_bool (sameTs_not (k := k) (by rw [← HXK.out, ← HYK.out]; intro h; exact HQ.out (by rw [h]))).symm, _, World.drewN_drewN _ _ _⟩
      · go_wp2
        go_ret
        exact ⟨ret_bool (sameTs_all HL.out (by omega) HA.out).symm, nq, rfl⟩
  · have hlb : ((xs.length : Int) != (ys.length : Int)) = true := by simp; omega
    go_enter Tryz.func33, Tryz.ntmps33
    go_wp2
    go_ret
    exact ⟨ret_bool (sameTs_len hl).symm, 0, rfl⟩
set_option maxRecDepth 100000 in
set_option maxHeartbeats 1000000 in
theorem same_law (e f : Ev) (a1 a2 : Option Addr) (cap1 cap2 : Nat) (w : World) (h1 : Hid (TagsAt w a1 e.tags)) (h2 : Hid (TagsAt w a2 f.tags)) (hx : e.tags.length ≤ maxLen) (hy : f.tags.length ≤ maxLen) :
    Calls Tryz.prog 19 #[evVal e (.slice a1 e.tags.length cap1), evVal f (.slice a2 f.tags.length cap2)] w fun r w' => r = .returned (.bool (sameEv e f)) ∧ Below w.heap.size w w' := by
  obtain ⟨k, t, m, b, xs⟩ := e
  obtain ⟨k', t', m', b', ys⟩ := f
  simp only [evVal] at *
  have hS := sameTexts_law a1 a2 cap1 cap2 xs ys ((w.alloc (.cells #[.int .i64 k, .string t, .int .i64 m, .string b, .slice a1 xs.length cap1] 38)).alloc (.cells #[.int .i64 k', .string t', .int .i64 m', .string b', .slice a2 ys.length cap2] 38)) ((h1.out.alloc _).alloc _) ((h2.out.alloc _).alloc _) hx hy
  have HE : Hid (sameEv ⟨k, t, m, b, xs⟩ ⟨k', t', m', b', ys⟩ = (sameTs xs ys && (decide (k = k') && (decide (t = t') && (decide (m = m') && decide (b = b')))))) := rfl
  generalize sameTs xs ys = q at hS HE
  go_enter Tryz.func19, Tryz.ntmps19
  go_wp2_with fail
  refine hS.mono ?_
  rintro r w1 ⟨rfl, nq, rfl⟩
  have HB : Hid (Below w.heap.size w (((w.alloc (.cells #[.int .i64 k, .string t, .int .i64 m, .string b, .slice a1 xs.length cap1] 38)).alloc (.cells #[.int .i64 k', .string t', .int .i64 m', .string b', .slice a2 ys.length cap2] 38)).drewN nq)) := below_drewN (((Below.refl _ _).alloc (Nat.le_refl _) _).alloc (by simp) _) nq
  clear hS
  cases q
  · go_wp2
    go_ret
    exact ⟨ret_bool (by rw [HE.out]; rfl), HB.out⟩
  · by_cases hk : k = k'
    · subst hk
      have hkb : (k == k) = true := by simp
      by_cases ht : t.toList = t'.toList
      · have htb : (t.toList == t'.toList) = true := by simp [ht]
        have HT := hide0 (toList_inj ht)
        clear ht
        by_cases hm : m = m'
        · subst hm
          have hmb : (m == m) = true := by simp
          by_cases hb : b.toList = b'.toList
          · have hbb : (b.toList == b'.toList) = true := by simp [hb]
            have HBB := hide0 (toList_inj hb)
            clear hb
            go_wp2
            go_ret
            exact ⟨ret_bool (by rw [HE.out, HT.out, HBB.out]; simp), HB.out⟩
          · have hbb : (b.toList == b'.toList) = false := by simp [hb]
            have HBB : Hid (¬ b = b') := fun h => hb (by rw [h])
            clear hb
            go_wp2
            go_ret
            exact ⟨ret_bool (by rw [HE.out, decide_eq_false HBB.out]; simp), HB.out⟩
        · have hmb : (m == m') = false := by simp [hm]
          have HM := hide0 hm
          clear hm
          go_wp2
          go_ret
          exact ⟨ret_bool (by rw [HE.out, decide_eq_false HM.out]; simp), HB.out⟩
      · have htb : (t.toList == t'.toList) = false := by simp [ht]
        have HT : Hid (¬ t = t') := fun h => ht (by rw [h])
        clear ht
        go_wp2
        go_ret
        exact ⟨ret_bool (by rw [HE.out, decide_eq_false HT.out]; simp), HB.out⟩
    · have hkb : (k == k') = false := by simp [hk]
      have HK := hide0 hk
      clear hk
      go_wp2
      go_ret
      exact ⟨ret_bool (by rw [HE.out, decide_eq_false HK.out]; simp), HB.out⟩
end Go.Proofs.YtdjllnhahhjgmaaGreat
namespace Go.Proofs.YtdjllnhahhjgmaaGreat
open Go.RowKit Chron
def badT : ByteArray := ⟨#[116, 104, 101, 32, 99, 97, 108, 108, 101, 114, 39, 115, 32]⟩
theorem badTag_zero (w : World) : Calls Tryz.prog 18 #[.int .i64 0] w fun e w' => e = .returned (.string badT) ∧ w' = w := by
  go_enter Tryz.func18, Tryz.ntmps18
  go_wp2
  go_loop [0, 3] (fun i s => i = .int .i64 0 ∧ s = .string badT) (fun _ _ => 0)
  case atStart => exact ⟨rfl, rfl⟩
  case round =>
    obtain ⟨rfl, rfl⟩ := hrel
    go_wp2
    go_ret
    exact ⟨rfl, rfl⟩
/- all but some blocks is as it was -/
structure Far (w w' : World) (R : List (Option Nat)) : Prop where
  os : w'.os = w.os
  tape : w'.tape = w.tape
  output : w'.output = w.output
  size : w.heap.size ≤ w'.heap.size
  block : ∀ k, k < w.heap.size → (∀ r ∈ R, r ≠ some k) → w'.heap[k]? = w.heap[k]?
theorem Far.refl (w : World) (R : List (Option Nat)) : Far w w R := ⟨rfl, rfl, rfl, Nat.le_refl _, fun _ _ _ => rfl⟩
theorem Far.trans {R : List (Option Nat)} {a b c : World} (h : Far a b R) (k : Far b c R) : Far a c R :=
  ⟨k.os.trans h.os, k.tape.trans h.tape, k.output.trans h.output, Nat.le_trans h.size k.size, fun i hi hR => (k.block i (Nat.lt_of_lt_of_le hi h.size) hR).trans (h.block i hi hR)⟩
theorem Far.of_below {R : List (Option Nat)} {a b : World} {B : Nat} (h : Below B a b) (hB : a.heap.size ≤ B) : Far a b R := ⟨h.os, h.tape, h.output, h.size, fun k hk _ => h.block k (Nat.lt_of_lt_of_le hk hB)⟩
theorem Far.setCell {R : List (Option Nat)} {a b : World} (h : Far a b R) {p : Addr} (hp : some p.block ∈ R ∨ a.heap.size ≤ p.block) (u : Value) : Far a (b.setCell p u) R :=
  ⟨h.os, h.tape, h.output, by simpa [World.setCell] using h.size, fun k hk hR => by
    rw [Below.heap_setCell _ _ _ _ (by
      rintro rfl
      rcases hp with hp | hp
      · exact hR _ hp rfl
      · omega)]; exact h.block k hk hR⟩
theorem Far.alloc {R : List (Option Nat)} {a b : World} (h : Far a b R) (o : Obj) : Far a (b.alloc o) R :=
  h.trans (Far.of_below ((Below.refl _ _).alloc (Nat.le_refl _) o) (Nat.le_refl _))
theorem Far.grown {R : List (Option Nat)} {a b c : World} (h : Far a b R) {row : Option Nat} (hg : b.grownBy c row) (hr : ∀ q, row = some q → row ∈ R ∨ a.heap.size ≤ q) : Far a c R :=
  ⟨hg.os.trans h.os, hg.tape.trans h.tape, hg.output.trans h.output, Nat.le_trans h.size hg.size, fun k hk hR => by
    refine (hg.block k (Nat.lt_of_lt_of_le hk h.size) ?_).trans (h.block k hk hR)
    rintro e
    rcases hr k e.symm with hp | hp
    · exact hR _ hp e.symm
    · omega⟩
theorem Far.below {R : List (Option Nat)} {a b : World} (h : Far a b R) {B : Nat} (hB : B ≤ a.heap.size) (hr : ∀ q, some q ∈ R → B ≤ q) : Below B a b :=
  ⟨h.os, h.tape, h.output, h.size, fun k hk => h.block k (by omega) (fun r hR e => by subst e; have := hr k hR; omega)⟩
/- a loan: its lists and their counts are rows of its own -/
structure LoanAt (b : Nat) (tv cv ev nv lv : Value) (nT : Nat) (xs : List Value) (nC : Nat) (cs : List Value) (w : World) : Prop where
  blk : w.heap[b]? = some (.cells #[tv, cv, ev, nv, lv] 67)
  tags : w.ownsRow (b + 1) 36 1 tv nT xs
  counts : w.ownsRow (b + 1) 3 1 cv nC cs
  apart : ∀ q, tv.ownBlock = some q → cv.ownBlock ≠ some q
theorem LoanAt.kept {b : Nat} {tv cv ev nv lv : Value} {nT : Nat} {xs : List Value} {nC : Nat} {cs : List Value} {w w' : World} {B : Nat} (h : LoanAt b tv cv ev nv lv nT xs nC cs w) (hb : Below B w w') (hB : w.heap.size ≤ B) : LoanAt b tv cv ev nv lv nT xs nC cs w' :=
  ⟨(hb.block b (Nat.lt_of_lt_of_le (Array.getElem?_eq_some_iff.1 h.blk).1 hB)).trans h.blk, own_below h.tags (hb.mono hB), own_below h.counts (hb.mono hB), h.apart⟩
theorem LoanAt.lt {b : Nat} {tv cv ev nv lv : Value} {nT : Nat} {xs : List Value} {nC : Nat} {cs : List Value} {w : World} (h : LoanAt b tv cv ev nv lv nT xs nC cs w) : b < w.heap.size := (Array.getElem?_eq_some_iff.1 h.blk).1
theorem loan_set {w : World} {b i : Nat} {x0 x1 x2 x3 x4 u : Value} {t : TypeId} (h : w.heap[b]? = some (.cells #[x0, x1, x2, x3, x4] t)) : (w.setCell ⟨b, i, none⟩ u).heap[b]? = some (.cells (#[x0, x1, x2, x3, x4].setIfInBounds i u) t) := by
  rw [setCell_eq_setRow w b i _ t (0, 0) u h, setRow_heap w b _ _ t (0, 0) h]
theorem LoanAt.tagged {b : Nat} {tv cv ev nv lv : Value} {nT : Nat} {xs ys : List Value} {nC : Nat} {cs : List Value} {w wa : World} {o : Obj} {g cap n : Nat} (h : LoanAt b tv cv ev nv lv nT xs nC cs w)
    (hg : (w.alloc o).grownBy wa tv.ownBlock) (hown : wa.ownsRow (b + 1) 36 1 (.slice (some ⟨g, 0, none⟩) n cap) n ys) (hat : tv.ownBlock = some g ∨ g = (w.alloc o).heap.size) :
    wa.heap[b]? = some (.cells #[tv, cv, ev, nv, lv] 67) ∧ LoanAt b (.slice (some ⟨g, 0, none⟩) n cap) cv ev nv lv n ys nC cs (wa.setCell ⟨b, 0, none⟩ (.slice (some ⟨g, 0, none⟩) n cap)) := by
  have hlt := h.lt
  have hblk : wa.heap[b]? = some (.cells #[tv, cv, ev, nv, lv] 67) := by
    rw [hg.block b (by rw [World.size_alloc]; omega) (fun e => by have := (h.tags.lt b e.symm).1; omega), Below.heap_alloc _ _ _ hlt]; exact h.blk
  refine ⟨hblk, loan_set hblk, ownsRow_setCell_below hown (Nat.lt_succ_self _) _, ownsRow_setCell_below ((h.counts.alloc o).kept hg ?_) (Nat.lt_succ_self _) _, ?_⟩
  · cases hc : cv.ownBlock with
    | none => exact .inl rfl
    | some q => exact .inr (fun e => h.apart q e.symm hc)
  · intro q hq hc
    simp only [Value.ownBlock, Option.some.injEq] at hq
    subst hq
    rcases hat with hat | hat
    · exact h.apart g hat hc
    · have := (h.counts.lt g hc).2
      rw [World.size_alloc] at hat; omega
theorem LoanAt.counted {b : Nat} {tv cv ev nv lv : Value} {nT : Nat} {xs : List Value} {nC : Nat} {cs ys : List Value} {w wa : World} {o : Obj} {g cap n : Nat} (h : LoanAt b tv cv ev nv lv nT xs nC cs w)
    (hg : (w.alloc o).grownBy wa cv.ownBlock) (hown : wa.ownsRow (b + 1) 3 1 (.slice (some ⟨g, 0, none⟩) n cap) n ys) (hat : cv.ownBlock = some g ∨ g = (w.alloc o).heap.size) :
    wa.heap[b]? = some (.cells #[tv, cv, ev, nv, lv] 67) ∧ LoanAt b tv (.slice (some ⟨g, 0, none⟩) n cap) ev nv lv nT xs n ys (wa.setCell ⟨b, 1, none⟩ (.slice (some ⟨g, 0, none⟩) n cap)) := by
  have hlt := h.lt
  have hblk : wa.heap[b]? = some (.cells #[tv, cv, ev, nv, lv] 67) := by
    rw [hg.block b (by rw [World.size_alloc]; omega) (fun e => by have := (h.counts.lt b e.symm).1; omega), Below.heap_alloc _ _ _ hlt]; exact h.blk
  refine ⟨hblk, loan_set hblk, ownsRow_setCell_below ((h.tags.alloc o).kept hg ?_) (Nat.lt_succ_self _) _, ownsRow_setCell_below hown (Nat.lt_succ_self _) _, ?_⟩
  · cases hc : tv.ownBlock with
    | none => exact .inl rfl
    | some q => exact .inr (fun e => h.apart q hc e.symm)
  · intro q hq hc
    simp only [Value.ownBlock, Option.some.injEq] at hc
    subst hc
    rcases hat with hat | hat
    · exact h.apart g hq hat
    · have := (h.tags.lt g hq).2
      rw [World.size_alloc] at hat; omega
def lent (ts : List ByteArray) (j : Nat) : List Value := ts.map Value.string ++ (List.replicate j (.string badT) ++ List.replicate (8 - j) (.string ⟨#[]⟩))
theorem lent_len (ts : List ByteArray) {j : Nat} (hj : j ≤ 8) : (lent ts j).length = ts.length + 8 := by simp [lent]; omega
theorem lent_set (ts : List ByteArray) {j : Nat} (hj : j < 8) : (lent ts j).set (ts.length + j) (.string badT) = lent ts (j + 1) := by
  obtain ⟨m, hm⟩ : ∃ m, 8 - j = m + 1 := ⟨7 - j, by omega⟩
  have hm2 : 8 - (j + 1) = m := by omega
  have e : List.replicate (j + 1) (Value.string badT) = List.replicate j (.string badT) ++ [.string badT] := by rw [List.replicate_succ']
  rw [lent, lent, hm, hm2, e, List.set_append_right _ _ (by simp), List.set_append_right _ _ (by simp)]
  simp [List.replicate_succ]
theorem made_splice (ts : List ByteArray) : splice (List.replicate (ts.length + 8) (Value.string ⟨#[]⟩)) 0 (ts.map Value.string) = lent ts 0 := by
  simp [splice, lent]
theorem set_row {w : World} {g i : Nat} {L : List Value} {t : TypeId} {u : Value} (h : w.heap[g]? = some (.cells L.toArray t (0, 0))) : (w.setCell ⟨g, i, none⟩ u).heap[g]? = some (.cells (L.set i u).toArray t (0, 0)) := by
  rw [setCell_eq_setRow w g i L.toArray t (0, 0) u h, setRow_heap w g _ _ t (0, 0) h]
  simp
end Go.Proofs.YtdjllnhahhjgmaaGreat
namespace Go.Proofs.YtdjllnhahhjgmaaGreat
open Go.RowKit Chron
theorem infoText : (Tryz.prog.info? 9).map (fun i => (i.zero, i.size, i.bytes)) = some (some (.string ⟨#[]⟩), 1, 16) := by kernel_rfl
theorem infoTexts : (Tryz.prog.info? 36).map (fun i => (i.zero, i.size, i.bytes)) = some (some (.slice none 0 0), 1, 24) := by kernel_rfl
theorem infoInt : (Tryz.prog.info? 3).map (fun i => (i.zero, i.size, i.bytes)) = some (some (.int .i64 0), 1, 8) := by kernel_rfl
theorem sizeText : (Tryz.prog.info? 9).map (·.size) = some 1 := by kernel_rfl
theorem made_strings (n : Nat) : (madeCells (Value.string ⟨#[]⟩).cells (n * 1)).toList = List.replicate n (.string ⟨#[]⟩) := by
  apply List.ext_getElem
  · simp [madeCells]
  · intro i h1 h2
    simp [madeCells, Value.cells, Nat.mod_one]
theorem own_whole {w : World} {base : Nat} {e : TypeId} {g n : Nat} {xs : List Value} (h : w.ownsRow base e 1 (.slice (some ⟨g, 0, none⟩) n n) n xs) : w.heap[g]? = some (.cells xs.toArray e (0, 0)) := by
  rcases h.2 with ⟨h0, _⟩ | ⟨g', cap, cur, hv, hb, hg, h1, h2, h3, h4⟩
  · cases h0
  · simp only [Value.slice.injEq, Option.some.injEq, Addr.mk.injEq] at hv
    obtain ⟨⟨rfl, _⟩, _, rfl⟩ := hv
    rw [hg, ← h4, List.take_of_length_le (by simp; omega)]
structure OneAt (N : Nat) (w wx : World) (k : Int) (t : ByteArray) (m : Int) (b : ByteArray) (v : Value) (L : List Value) : Prop where
  box : wx.heap[N]? = some (.cells #[.int .i64 k, .string t, .int .i64 m, .string b, v] 38)
  res : wx.heap[N + 1]? = some (.cells #[.int .i64 0, .string ⟨#[]⟩, .int .i64 0, .string ⟨#[]⟩, .slice none 0 0] 38)
  row : wx.heap[N + 2]? = some (.cells L.toArray 9 (0, 0))
  bel : Below N w wx
  big : N + 3 ≤ wx.heap.size
theorem OneAt.below {N : Nat} {w wx wy : World} {k : Int} {t : ByteArray} {m : Int} {b : ByteArray} {v : Value} {L L' : List Value} (h : OneAt N w wx k t m b v L) (hb : Below (N + 2) wx wy) (hr : wy.heap[N + 2]? = some (.cells L'.toArray 9 (0, 0))) : OneAt N w wy k t m b v L' :=
  ⟨(hb.block N (by omega)).trans h.box, (hb.block (N + 1) (by omega)).trans h.res, hr, h.bel.trans (hb.mono (by omega)), Nat.le_trans h.big hb.size⟩
theorem OneAt.made {w w1 : World} {k : Int} {t : ByteArray} {m : Int} {b : ByteArray} {v : Value} {n : Nat}
    (hown : w1.ownsRow (w.heap.size + 2) 9 1 (.slice (some ⟨((w.alloc (.cells #[.int .i64 k, .string t, .int .i64 m, .string b, v] 38)).alloc (.cells #[.int .i64 0, .string ⟨#[]⟩, .int .i64 0, .string ⟨#[]⟩, .slice none 0 0] 38)).heap.size, 0, none⟩) n n) n (madeCells (Value.string ⟨#[]⟩).cells (n * 1)).toList)
    (hg : ((w.alloc (.cells #[.int .i64 k, .string t, .int .i64 m, .string b, v] 38)).alloc (.cells #[.int .i64 0, .string ⟨#[]⟩, .int .i64 0, .string ⟨#[]⟩, .slice none 0 0] 38)).grownBy w1 none) :
    OneAt w.heap.size w w1 k t m b v (List.replicate n (.string ⟨#[]⟩)) := by
  have hr := own_whole hown
  rw [made_strings] at hr
  simp only [World.size_alloc] at hr
  have hsz := hg.size
  simp only [World.size_alloc] at hsz
  have hlt := (Array.getElem?_eq_some_iff.1 hr).1
  refine ⟨?_, ?_, hr, ?_, by omega⟩
  · rw [hg.block w.heap.size (by simp only [World.size_alloc]; omega) (by simp), Below.heap_alloc _ _ _ (by simp)]; exact heap_alloc_new _ _
  · rw [hg.block (w.heap.size + 1) (by simp only [World.size_alloc]; omega) (by simp)]
    have := heap_alloc_new (w.alloc (.cells #[.int .i64 k, .string t, .int .i64 m, .string b, v] 38)) (.cells #[.int .i64 0, .string ⟨#[]⟩, .int .i64 0, .string ⟨#[]⟩, .slice none 0 0] 38)
    rw [World.size_alloc] at this; exact this
  · exact Below.grown (((Below.refl _ _).alloc (Nat.le_refl _) _).alloc (by simp) _) hg (by simp only [World.size_alloc]; omega) (fun q hq => by cases hq)
theorem row_cell {w : World} {g i : Nat} {L : List Value} {t : TypeId} (h : w.heap[g]? = some (.cells L.toArray t (0, 0))) (hi : i < L.length) : ∃ x, w.cell? ⟨g, i, none⟩ = some x ∧ w.frozen? ⟨g, i, none⟩ = false := by
  refine ⟨L[i], ?_, ?_⟩
  · simp [World.cell?, h, hi]
  · simp [World.frozen?, h]
theorem one_slice (a : Option Addr) (n c : Nat) : ∀ u ∈ [Value.slice a n c], u.oneCell' = true := fun u hu => by simp at hu; subst hu; rfl
theorem one_int (k : IntKind) (x : Int) : ∀ u ∈ [Value.int k x], u.oneCell' = true := fun u hu => by simp at hu; subst hu; rfl
/- behind the loop: what was there is as it was but for the loan -/
structure OneFar (N : Nat) (w wx : World) (R : List (Option Nat)) (k : Int) (t : ByteArray) (m : Int) (b : ByteArray) (v : Value) (L : List Value) : Prop where
  box : wx.heap[N]? = some (.cells #[.int .i64 k, .string t, .int .i64 m, .string b, v] 38)
  res : wx.heap[N + 1]? = some (.cells #[.int .i64 0, .string ⟨#[]⟩, .int .i64 0, .string ⟨#[]⟩, .slice none 0 0] 38)
  row : wx.heap[N + 2]? = some (.cells L.toArray 9 (0, 0))
  far : Far w wx R
  big : N + 3 ≤ wx.heap.size
  same : N = w.heap.size
theorem OneAt.far {N : Nat} {w wx : World} {k : Int} {t : ByteArray} {m : Int} {b : ByteArray} {v : Value} {L : List Value} (h : OneAt N w wx k t m b v L) (R : List (Option Nat)) (hN : N = w.heap.size) : OneFar N w wx R k t m b v L :=
  ⟨h.box, h.res, h.row, Far.of_below h.bel (by omega), h.big, hN⟩
theorem OneFar.grown {N : Nat} {w wx wy : World} {R : List (Option Nat)} {k : Int} {t : ByteArray} {m : Int} {b : ByteArray} {v : Value} {L : List Value} {row : Option Nat} {o : Obj} (h : OneFar N w wx R k t m b v L) (hg : (wx.alloc o).grownBy wy row) (hr : row ∈ R) (hlt : ∀ q, row = some q → q < N ∨ N + 3 ≤ q) : OneFar N w wy R k t m b v L := by
  have hbig := h.big
  have hs := hg.size
  rw [World.size_alloc] at hs
  have hblk : ∀ q, N ≤ q → q ≤ N + 2 → wy.heap[q]? = wx.heap[q]? := fun q h1 h2 => by
    rw [hg.block q (by rw [World.size_alloc]; omega) (fun e => by have := hlt q e.symm; omega), Below.heap_alloc _ _ _ (by omega)]
  exact ⟨(hblk _ (by omega) (by omega)).trans h.box, (hblk _ (by omega) (by omega)).trans h.res, (hblk _ (by omega) (by omega)).trans h.row, (h.far.alloc o).grown hg (fun _ _ => .inl hr), by omega, h.same⟩
theorem OneFar.set {N : Nat} {w wx : World} {R : List (Option Nat)} {k : Int} {t : ByteArray} {m : Int} {b : ByteArray} {v : Value} {L : List Value} {p : Addr} (h : OneFar N w wx R k t m b v L) (hp : p.block < N) (hR : some p.block ∈ R) (u : Value) : OneFar N w (wx.setCell p u) R k t m b v L := by
  have hblk : ∀ q, N ≤ q → (wx.setCell p u).heap[q]? = wx.heap[q]? := fun q h1 => Below.heap_setCell _ _ _ _ (by omega)
  exact ⟨(hblk _ (by omega)).trans h.box, (hblk _ (by omega)).trans h.res, (hblk _ (by omega)).trans h.row, h.far.setCell (.inl hR) u, by have := h.big; simpa [World.setCell] using this, h.same⟩
theorem cell_one_at (w : World) (v : Value) (t : TypeId) (N : Nat) (h : w.heap.size = N) : ∀ j u, [v][j]? = some u → (w.alloc (.cells #[v] t)).cell? ((⟨N, 0, none⟩ : Addr).add j) = some u := by
  subst h; exact cell_one_new w v t
theorem size_set (w : World) (p : Addr) (u : Value) : (w.setCell p u).heap.size = w.heap.size := by simp [World.setCell]
theorem le_alloc {w : World} {b : Nat} (o : Obj) (h : b < w.heap.size) : b + 1 ≤ (w.alloc o).heap.size := by rw [World.size_alloc]; omega
theorem at_far {tv : Value} {g N : Nat} {w : World} {o : Obj} (h : tv.ownBlock = some g ∨ g = (w.alloc o).heap.size) (hN : N + 2 < w.heap.size) : tv.ownBlock = some g ∨ N + 3 ≤ g :=
  h.imp id (fun e => by rw [World.size_alloc] at e; omega)
theorem own_of_block {w w' : World} {base : Nat} {e : TypeId} {size : Nat} {v : Value} {n : Nat} {xs : List Value} (h : w.ownsRow base e size v n xs) (hb : ∀ q, v.ownBlock = some q → w'.heap[q]? = w.heap[q]?) : w'.ownsRow base e size v n xs := by
  obtain ⟨h1, h2 | ⟨g, cap, cur, rfl, a2, a3, a4⟩⟩ := h
  · exact ⟨h1, .inl h2⟩
  · exact ⟨h1, .inr ⟨g, cap, cur, rfl, a2, (hb g rfl).trans a3, a4⟩⟩
theorem LoanAt.same {b : Nat} {tv cv ev nv lv : Value} {nT : Nat} {xs : List Value} {nC : Nat} {cs : List Value} {w w' : World} (h : LoanAt b tv cv ev nv lv nT xs nC cs w) (hb : ∀ q, q = b ∨ tv.ownBlock = some q ∨ cv.ownBlock = some q → w'.heap[q]? = w.heap[q]?) : LoanAt b tv cv ev nv lv nT xs nC cs w' :=
  ⟨(hb b (.inl rfl)).trans h.blk, own_of_block h.tags (fun q hq => hb q (.inr (.inl hq))), own_of_block h.counts (fun q hq => hb q (.inr (.inr hq))), h.apart⟩
theorem set6_other {w : World} {N q : Nat} {s x0 x1 x2 x3 x4 : Value} (h1 : ¬ q = N) (h2 : ¬ q = N + 1) :
    ((((((w.setCell ⟨N, 4, none⟩ s).setCell ⟨N + 1, 0, none⟩ x0).setCell ⟨N + 1, 1, none⟩ x1).setCell ⟨N + 1, 2, none⟩ x2).setCell ⟨N + 1, 3, none⟩ x3).setCell ⟨N + 1, 4, none⟩ x4).heap[q]? = w.heap[q]? := by
  rw [Below.heap_setCell _ _ _ _ h2, Below.heap_setCell _ _ _ _ h2, Below.heap_setCell _ _ _ _ h2, Below.heap_setCell _ _ _ _ h2, Below.heap_setCell _ _ _ _ h2, Below.heap_setCell _ _ _ _ h1]
theorem copy_pos {w w1 : World} {a : Option Addr} {ts : List ByteArray} {N : Nat} (ht : TagsAt w a ts) (hb : Below w.heap.size w w1) : 0 < (ts.map Value.string).length → (some (⟨N + 1 + 1, 0, none⟩ : Addr)) = some ⟨N + 2, 0, none⟩ ∧ ∃ ad, a = some ad ∧ ∀ j v, (ts.map Value.string)[j]? = some v → w1.cell? (ad.add j) = some v := by
  intro h0
  refine ⟨rfl, ?_⟩
  obtain ⟨q, off, rfl, hc⟩ := ht (by simpa using h0)
  refine ⟨_, rfl, fun j v hv => ?_⟩
  simp only [List.getElem?_map, Option.map_eq_some_iff] at hv
  obtain ⟨x, hx, rfl⟩ := hv
  have hj := (List.getElem?_eq_some_iff.1 hx).1
  have hcj := hc j hj
  rw [hx] at hcj
  have hlt := World.block_lt_of_cell? w _ hcj
  rw [show (⟨q, off, none⟩ : Addr).add j = ⟨q, off + j, none⟩ by simp [Addr.add], hb.cell (p := ⟨q, off + j, none⟩) hlt]; exact hcj
set_option maxRecDepth 100000 in
set_option maxHeartbeats 1000000 in
theorem one_any (b : Nat) (tv cv ev nv lv : Value) (nT : Nat) (xs cs : List Value) (k : Int) (t : ByteArray) (m : Int) (bd : ByteArray) (a : Option Addr) (cap : Nat) (ts : List ByteArray) (w : World)
    (HL : Hid (LoanAt b tv cv ev nv lv nT xs nT cs w)) (ht : Hid (TagsAt w a ts)) (hl : ts.length * 16 ≤ 140737488351232) (hnT : (nT + 1) * 24 ≤ 140737488355328) :
    Calls Tryz.prog 40 #[.pointer (some ⟨b, 0, none⟩), .agg #[.int .i64 k, .string t, .int .i64 m, .string bd, .slice a ts.length cap]] w fun e w' =>
      ∃ M tv' cv', e = .returned (.agg #[.int .i64 k, .string t, .int .i64 m, .string bd, .slice (some ⟨M, 0, none⟩) ts.length (ts.length + 8)]) ∧ w.heap.size ≤ M ∧ w'.heap[M]? = some (.cells (lent ts 8).toArray 9 (0, 0)) ∧
        LoanAt b tv' cv' ev nv lv (nT + 1) (xs ++ [.slice (some ⟨M, 0, none⟩) (ts.length + 8) (ts.length + 8)]) (nT + 1) (cs ++ [.int .i64 ts.length]) w' ∧
        (∀ q, tv'.ownBlock = some q → q ≠ M ∧ (tv.ownBlock = some q ∨ w.heap.size ≤ q)) ∧ (∀ q, cv'.ownBlock = some q → q ≠ M ∧ (cv.ownBlock = some q ∨ w.heap.size ≤ q)) ∧
        Far w w' [some b, tv.ownBlock, cv.ownBlock] := by
  obtain ⟨i0, hi, hz0, hz1, hz2⟩ := info_parts infoText
  have hb2 : i0.bytes * (ts.length + 8) ≤ 281474976710656 := by rw [hz2]; omega
  have hb3 : ts.length + 8 ≤ maxLen := by unfold maxLen; omega
  go_enter Tryz.func40, Tryz.ntmps40
  have hlenm : (ts.map Value.string).length = Nat.min ts.length (ts.length + 8) := by simp
  have hfit : 0 + (ts.map Value.string).length ≤ (List.replicate (ts.length + 8) (Value.string ⟨#[]⟩)).length := by simp
  have hone : ∀ v ∈ ts.map Value.string, v.oneCell' = true := by intro v hv; simp at hv; obtain ⟨x, _, rfl⟩ := hv; rfl
  go_wp2_with (first
    | (at_make; go_must (refine wpList_make_full _ rfl _ _ 36 rfl (w.heap.size + 2) 9 i0 (.string ⟨#[]⟩) 1 Tryz.underlying36 hi hz0 hz1 .i64 .i64 _ _ (ts.length + 8) rfl rfl (by simp) (by simp) hb2 hb3 (by simp) ?_); intro w1 hown1 hgr1
       have HO : Hid (OneAt w.heap.size w w1 k t m bd (.slice a ts.length cap) (List.replicate (ts.length + 8) (.string ⟨#[]⟩))) := OneAt.made hown1 hgr1
       have d4 := (res_cells HO.out.box).2.2.2.2.1
       clear hown1 hgr1)
    | (have hO9 := HO; clear hO9; refine (wpList_copy_splice rfl _ _ 36 36 rfl 9 Tryz.underlying36 sizeText _ _ _ _ _ _ rfl rfl (w.heap.size + 2) 0 (List.replicate (ts.length + 8) (.string ⟨#[]⟩)) 9 HO.out.row (ts.map Value.string) hlenm (copy_pos ht.out HO.out.bel) hfit hone (w.heap.size + 2) w1 (Below.refl _ _) (Nat.le_refl _) ?_)
       intro w2 HG2 hB2
       have HO2 : Hid (OneAt w.heap.size w w2 k t m bd (.slice a ts.length cap) (lent ts 0)) := HO.out.below hB2 (by rw [HG2.out, made_splice])
       clear HO HG2 hB2 d4))
  clear hlenm hfit hone hb2 hb3
  go_loopw [7] (fun i wx => ∃ p : Nat, ts.length ≤ p ∧ p ≤ ts.length + 8 ∧ i = .int .i64 p ∧ Hid (OneAt w.heap.size w wx k t m bd (.slice a ts.length cap) (lent ts (p - ts.length)))) (fun i _ => ts.length + 8 - (intOf i).toNat)
  case atStart => exact ⟨ts.length, Nat.le_refl _, by omega, rfl, by rw [Nat.sub_self]; exact HO2⟩
  case round =>
    obtain ⟨p, hp1, hp2, rfl, HR⟩ := hrel
    by_cases hlt : p < ts.length + 8
    · obtain ⟨x, hcell, hfr⟩ := row_cell HR.out.row (i := p) (by rw [lent_len ts (by omega)]; omega)
      have HN : Hid (OneAt w.heap.size w (wr.setCell ⟨w.heap.size + 1 + 1, p, none⟩ (.string badT)) k t m bd (.slice a ts.length cap) (lent ts (p + 1 - ts.length))) := by
        refine HR.out.below ((Below.refl _ _).setCell (p := ⟨w.heap.size + 1 + 1, p, none⟩) (Nat.le_refl _) _) ?_
        have e := lent_set ts (j := p - ts.length) (by omega)
        rw [show ts.length + (p - ts.length) = p by omega, show p - ts.length + 1 = p + 1 - ts.length by omega] at e
        rw [← e]
        exact set_row HR.out.row
      have hpi : (p : Int) < (ts.length : Int) + 8 := by omega
      go_wp2_with (first | (go_at_call 18; refine (badTag_zero _).mono ?_; rintro e w' ⟨rfl, rfl⟩))
      go_roundw
      case rel => exact ⟨p + 1, by omega, by omega, by go_num, HN⟩
      case measure => simp [intOf]; omega
    · have HF : Hid (OneAt w.heap.size w wr k t m bd (.slice a ts.length cap) (lent ts 8)) := by
        have := HR.out
        rwa [show p - ts.length = 8 by omega] at this
      clear HR
      obtain ⟨i1, hi1, hy0, hy1, hy2⟩ := info_parts infoTexts
      obtain ⟨i2, hi2, hx0, hx1, hx2⟩ := info_parts infoInt
      have HLr : Hid (LoanAt b tv cv ev nv lv nT xs nT cs wr) := HL.out.kept HF.out.bel (Nat.le_refl _)
      have HG : Hid (OneFar w.heap.size w wr [some b, tv.ownBlock, cv.ownBlock] k t m bd (.slice a ts.length cap) (lent ts 8)) := HF.out.far _ rfl
      have hblt := HL.out.lt
      have hbr := HLr.out.lt
      obtain ⟨db0, db1, db2, db3, db4, dbf⟩ := res_cells HLr.out.blk
      have e1 : nT + 1 ≤ maxLen := by unfold maxLen; omega
      have e2 : (nT + 1) * 8 ≤ 140737488355328 := by omega
      have hmt : tv.ownBlock ∈ [some b, tv.ownBlock, cv.ownBlock] := by simp
      have hmc : cv.ownBlock ∈ [some b, tv.ownBlock, cv.ownBlock] := by simp
      have hmb : some b ∈ [some b, tv.ownBlock, cv.ownBlock] := by simp
      have HTL : Hid (∀ q, tv.ownBlock = some q → q < w.heap.size) := fun q hq => (HL.out.tags.lt q hq).2
      have HCL : Hid (∀ q, cv.ownBlock = some q → q < w.heap.size) := fun q hq => (HL.out.counts.lt q hq).2
      have HM : Hid (tv.ownBlock ∈ [some b, tv.ownBlock, cv.ownBlock] ∧ cv.ownBlock ∈ [some b, tv.ownBlock, cv.ownBlock] ∧ some b ∈ [some b, tv.ownBlock, cv.ownBlock]) := ⟨hmt, hmc, hmb⟩
      have e3 : ∀ o, b + 1 ≤ (wr.alloc o).heap.size := fun o => by rw [World.size_alloc]; omega
      have hpe : (ts.length : Int) + 8 ≤ (p : Int) := by omega
      clear HF hmt hmc hmb hlt hp2 hp1
      have n1 : ¬ b = w.heap.size := by omega
      have n2 : ¬ w.heap.size = b := by omega
      have n3 : ¬ b = w.heap.size + 1 := by omega
      have n4 : ¬ w.heap.size + 1 = b := by omega
      go_wp2_with (first
        | (at_builtin; refine wpList_append_lies _ rfl _ _ 27 rfl (b + 1) 36 i1 (.slice none 0 0) 1 24 Tryz.underlying27 hi1 hy0 hy1 hy2 rfl Nat.one_pos tv nT xs rfl (HLr.out.tags.alloc _) ⟨wr.heap.size, 0, none⟩ 1 1 [_] rfl rfl (cell_one_new _ _ _) (one_slice _ _ _) Nat.one_pos e1 hnT (e3 _) _ rfl ?_
           intro g1 cap1 wa hown1 hgr1 hat1 hlt1
           obtain ⟨ba, HL1⟩ := HLr.out.tagged hgr1 hown1 hat1
           have HG1 := (HG.out.grown hgr1 HM.out.1 (fun q hq => .inl (HTL.out q hq))).set (p := ⟨b, 0, none⟩) hblt HM.out.2.2 (.slice (some ⟨g1, 0, none⟩) (nT + 1) cap1)
           have HLa := hide0 HL1
           have HGa := hide0 HG1
           have HAT := hide0 (at_far hat1 (Nat.lt_of_lt_of_le (Nat.lt_succ_self _) HG.out.big))
           have e4 := HL1.lt
           obtain ⟨da0, da1, da2, da3, da4, daf⟩ := res_cells ba
           clear hown1 hgr1 hat1 HL1 HG1 ba HLr HG db0 db1 db2 db3 db4 dbf)
        | (at_builtin; have hz := HLa; clear hz; go_must (refine wpList_append_lies _ rfl _ _ 48 rfl (b + 1) 3 i2 (.int .i64 0) 1 8 Tryz.underlying48 hi2 hx0 hx1 hx2 rfl Nat.one_pos cv nT cs rfl (HLa.out.counts.alloc _) _ 1 1 [_] rfl rfl (cell_one_at _ _ _ _ (size_set _ _ _)) (one_int _ _) Nat.one_pos e1 e2 (le_alloc _ e4) _ rfl ?_)
           intro g2 cap2 wc hown2 hgr2 hat2 hlt2
           obtain ⟨bc, HL2⟩ := HLa.out.counted hgr2 hown2 hat2
           have HG2 := HGa.out.grown hgr2 HM.out.2.1 (fun q hq => .inl (HCL.out q hq))
           have HG3 := hide0 (HG2.set (p := ⟨b, 1, none⟩) hblt HM.out.2.2 (.slice (some ⟨g2, 0, none⟩) (nT + 1) cap2))
           have HLb := hide0 HL2
           have HATc := hide0 (at_far hat2 (Nat.lt_of_lt_of_le (Nat.lt_succ_self _) HGa.out.big))
           obtain ⟨dc0, dc1, dc2, dc3, dc4, dcf⟩ := res_cells bc
           obtain ⟨ee0, ee1, ee2, ee3, ee4, eef⟩ := res_cells HG2.box
           obtain ⟨er0, er1, er2, er3, er4, erf⟩ := res_cells HG2.res
           clear hown2 hgr2 hat2 HL2 HG2 bc HLa HGa da0 da1 da2 da3 da4 daf))
      refine bodyPost_ret (v := .agg #[.int .i64 k, .string t, .int .i64 m, .string bd, .slice (some ⟨w.heap.size + 1 + 1, 0, none⟩) ts.length (ts.length + 8)]) (by simp [results, Tryz.results40, go_sem, er0, er1, er2, er3, er4]) rfl ?_
      have hall : ∀ q, ¬ q = w.heap.size → ¬ q = w.heap.size + 1 → _ := fun q h1 h2 => set6_other (w := wc.setCell ⟨b, 1, none⟩ (.slice (some ⟨g2, 0, none⟩) (nT + 1) cap2)) (N := w.heap.size) (q := q) (s := .slice (some ⟨w.heap.size + 1 + 1, 0, none⟩) ts.length (ts.length + 8)) (x0 := .int .i64 k) (x1 := .string t) (x2 := .int .i64 m) (x3 := .string bd) (x4 := .slice (some ⟨w.heap.size + 1 + 1, 0, none⟩) ts.length (ts.length + 8)) h1 h2
      have hg1 : ∀ q, some g1 = some q → q ≠ w.heap.size + 1 + 1 ∧ (tv.ownBlock = some q ∨ w.heap.size ≤ q) := by
        intro q hq
        simp only [Option.some.injEq] at hq
        subst hq
        rcases HAT.out with h | h
        · exact ⟨by have := HTL.out g1 h; omega, .inl h⟩
        · exact ⟨by omega, .inr (by omega)⟩
      have hg2 : ∀ q, some g2 = some q → q ≠ w.heap.size + 1 + 1 ∧ (cv.ownBlock = some q ∨ w.heap.size ≤ q) := by
        intro q hq
        simp only [Option.some.injEq] at hq
        subst hq
        rcases HATc.out with h | h
        · exact ⟨by have := HCL.out g2 h; omega, .inl h⟩
        · exact ⟨by omega, .inr (by omega)⟩
      refine ⟨_, _, _, rfl, by omega, (hall _ (by omega) (by omega)).trans HG3.out.row, HLb.out.same (fun q hq => hall q ?_ ?_), hg1, hg2, ?_⟩
      · rcases hq with rfl | hq | hq
        · omega
        · simp only [Value.ownBlock, Option.some.injEq] at hq
          subst hq
          rcases HAT.out with h | h
          · have := HTL.out g1 h; omega
          · omega
        · simp only [Value.ownBlock, Option.some.injEq] at hq
          subst hq
          rcases HATc.out with h | h
          · have := HCL.out g2 h; omega
          · omega
      · rcases hq with rfl | hq | hq
        · omega
        · simp only [Value.ownBlock, Option.some.injEq] at hq
          subst hq
          rcases HAT.out with h | h
          · have := HTL.out g1 h; omega
          · omega
        · simp only [Value.ownBlock, Option.some.injEq] at hq
          subst hq
          rcases HATc.out with h | h
          · have := HCL.out g2 h; omega
          · omega
      · exact (((((HG3.out.far.setCell (.inr (Nat.le_refl _)) _).setCell (.inr (Nat.le_succ _)) _).setCell (.inr (Nat.le_succ _)) _).setCell (.inr (Nat.le_succ _)) _).setCell (.inr (Nat.le_succ _)) _).setCell (.inr (Nat.le_succ _)) _
end Go.Proofs.YtdjllnhahhjgmaaGreat
namespace Go.Proofs.YtdjllnhahhjgmaaGreat
open Go.RowKit Chron
/- a callee that only reads, met behind draws -/
theorem quiet_more {P : Program} {f : FuncId} {args : Array Value} {w : World} {a n : Nat} {v : Value}
    (h : Calls P f args (w.drewN (a + n)) fun e w' => e = .returned v ∧ w' = w.drewN (a + n)) : Calls P f args (w.drewN (a + n)) fun e w'' => e = .returned v ∧ ∃ m, w'' = w.drewN (a + m) :=
  h.mono fun _ _ ⟨he, hm⟩ => ⟨he, n, hm⟩
theorem quiet_draws {P : Program} {f : FuncId} {args : Array Value} {w : World} {a n : Nat} {v : Value}
    (h : Calls P f args (w.drewN (a + n)) fun e w' => e = .returned v ∧ ∃ m, w' = (w.drewN (a + n)).drewN m) : Calls P f args (w.drewN (a + n)) fun e w'' => e = .returned v ∧ ∃ m, w'' = w.drewN (a + m) :=
  h.mono fun _ _ ⟨he, m, hm⟩ => ⟨he, n + m, by rw [hm, World.drewN_drewN, Nat.add_assoc]⟩
theorem row_at {w : World} {base : Nat} {e : TypeId} {v : Value} {n : Nat} {xs : List Value} (h : w.ownsRow base e 1 v n xs) : ∃ a cap, v = .slice a n cap ∧ n ≤ cap ∧ xs.length = n ∧ ∀ i x, xs[i]? = some x → ∃ g, a = some ⟨g, 0, none⟩ ∧ w.cell? ⟨g, i, none⟩ = some x := by
  obtain ⟨h1, ⟨rfl, rfl⟩ | ⟨g, cap, cur, rfl, a2, a3, a4, a5, a6, a7⟩⟩ := h
  · refine ⟨none, 0, rfl, Nat.le_refl _, by omega, fun i x hx => ?_⟩
    have := (List.getElem?_eq_some_iff.1 hx).1
    omega
  · refine ⟨some ⟨g, 0, none⟩, cap, rfl, a4, by omega, fun i x hx => ⟨g, rfl, ?_⟩⟩
    have hi := (List.getElem?_eq_some_iff.1 hx).1
    rw [← a7, List.getElem?_take_of_lt (by omega)] at hx
    simpa [World.cell?, a3] using hx
theorem sameAll_nil (w : World) : Calls Tryz.prog 46 #[.slice none 0 0, .slice none 0 0] w fun e w' => e = .returned (.bool true) ∧ w' = w := by
  go_enter Tryz.func46, Tryz.ntmps46
  go_wp2
  go_loop [5] (fun i => i = .int .i64 0) (fun _ => 0)
  case atStart => rfl
  case round =>
    subst hrel
    go_wp2
    go_ret
    exact ⟨rfl, rfl⟩
/- lists that were lent: where each lies, and how many places of it are the list's -/
def lentV (ls : List (Nat × Nat)) : List Value := ls.map fun p => .slice (some ⟨p.1, 0, none⟩) (p.2 + 8) (p.2 + 8)
def lentN (ls : List (Nat × Nat)) : List Value := ls.map fun p => .int .i64 p.2
def LentOk (ls : List (Nat × Nat)) (w : World) : Prop := ∀ i M n : Nat, ls[i]? = some (M, n) → n * 16 ≤ 140737488351232 ∧ ∀ q, n ≤ q → q < n + 8 → w.cell? ⟨M, q, none⟩ = some (.string badT)
set_option maxRecDepth 100000 in
set_option maxHeartbeats 1000000 in
theorem kept_tags (b : Nat) (tv cv : Value) (ls : List (Nat × Nat)) (w : World)
    (HL : Hid (LoanAt b tv cv (.slice none 0 0) (.int .i64 0) (.slice none 0 0) ls.length (lentV ls) ls.length (lentN ls) w)) (HK : Hid (LentOk ls w)) (hl : ls.length * 24 ≤ 140737488355328) :
    Calls Tryz.prog 28 #[.pointer (some ⟨b, 0, none⟩)] w fun e w' => e = .returned (.bool true) ∧ ∃ nq, w' = w.drewN nq := by
  obtain ⟨d0, d1, d2, d3, d4, df⟩ := res_cells HL.out.blk
  obtain ⟨ta, tc, rfl, htc, _, hT⟩ := row_at HL.out.tags
  obtain ⟨ca, cc, rfl, hcc, _, hC⟩ := row_at HL.out.counts
  have HT := hide0 hT
  have HC := hide0 hC
  clear hT hC
  go_enter Tryz.func28, Tryz.ntmps28
  go_wp2
  go_loopw [3] (fun i wx => ∃ k nq : Nat, k ≤ ls.length ∧ i = .int .i64 k ∧ wx = w.drewN nq) (fun i _ => ls.length - (intOf i).toNat)
  case atStart => exact ⟨0, 0, Nat.zero_le _, rfl, rfl⟩
  case round =>
    obtain ⟨k, nq, hk, rfl, rfl⟩ := hrel
    by_cases hlt : k < ls.length
    · obtain ⟨M, n, hMn⟩ : ∃ M n, ls[k]? = some (M, n) := ⟨ls[k].1, ls[k].2, by simp [hlt]⟩
      obtain ⟨g1, rfl, c1⟩ := HT.out k (.slice (some ⟨M, 0, none⟩) (n + 8) (n + 8)) (by simp [lentV, hMn])
      obtain ⟨g2, rfl, c2⟩ := HC.out k (.int .i64 n) (by simp [lentN, hMn])
      obtain ⟨hn, hcells⟩ := HK.out k M n hMn
      have HCL := hide0 hcells
      have hki : (k : Int) < (ls.length : Int) := by omega
      clear hMn hcells
      go_wp2
      go_loopw [4] (fun i wx => ∃ p nq : Nat, n ≤ p ∧ p ≤ n + 8 ∧ i = .int .i64 p ∧ wx = w.drewN nq) (fun i _ => n + 8 - (intOf i).toNat)
      case atStart => exact ⟨n, nq, Nat.le_refl _, by omega, rfl, rfl⟩
      case round =>
        obtain ⟨p, nq', hp1, hp2, rfl, rfl⟩ := hrel
        by_cases hq : p < n + 8
        · have cq := HCL.out p hp1 hq
          have hpi : (p : Int) < (n : Int) + 8 := by omega
          have hbb : (badT.toList == badT.toList) = true := by simp
          go_wp2_with fail
          go_quiet (first | (go_at_call 18; refine quiet_more (badTag_zero _)))
          go_wp2
          go_roundw
          case rel => exact ⟨p + 1, _, by omega, by omega, by go_num, rfl⟩
          case measure => simp [intOf]; omega
        · have hpi : (n : Int) + 8 ≤ (p : Int) := by omega
          go_wp2
          go_roundw
          case rel => exact ⟨k + 1, nq', by omega, by go_num, rfl⟩
          case measure => simp [intOf]; omega
    · have hki : (ls.length : Int) ≤ (k : Int) := by omega
      go_wp2
      go_loopw [5] (fun i wx => i = .int .i64 0 ∧ ∃ nq : Nat, wx = w.drewN nq) (fun _ _ => 0)
      case atStart => exact ⟨rfl, nq, rfl⟩
      case round =>
        obtain ⟨rfl, nq', rfl⟩ := hrel
        go_wp2_with fail
        go_quiet (first | (go_at_call 46; refine quiet_more (sameAll_nil _)))
        go_wp2
        go_ret
        exact ⟨rfl, _, World.drewN_drewN _ _ _⟩
end Go.Proofs.YtdjllnhahhjgmaaGreat
namespace Go.Proofs.YtdjllnhahhjgmaaGreat
open Go.RowKit Chron
def firstB : ByteArray := ⟨#[1, 2, 2, 1, 116, 3, 172, 2, 4, 2, 104, 105, 5, 1, 97]⟩
theorem first_enc : encB 3 ⟨2, ⟨#[116]⟩, 300, ⟨#[104, 105]⟩, [⟨#[97]⟩]⟩ = ([1, 2, 2, 1, 116, 3, 172, 2, 4, 2, 104, 105, 5, 1, 97], 0) := by decide +kernel
def mix (ts us : List ByteArray) : List ByteArray := us.take ts.length ++ ts.drop us.length
theorem mix_len (ts us : List ByteArray) : (mix ts us).length = ts.length := by simp [mix]; omega
theorem mix_lt {ts us : List ByteArray} {i : Nat} (hi : i < ts.length) (hu : i < us.length) : (mix ts us)[i]? = us[i]? := by
  rw [mix, List.getElem?_append_left (by simp; omega), List.getElem?_take_of_lt hi]
theorem mix_ge {ts us : List ByteArray} {i : Nat} (hi : i < ts.length) (hu : us.length ≤ i) : (mix ts us)[i]? = ts[i]? := by
  rw [mix, List.getElem?_append_right (by simp; omega), List.getElem?_drop]
  congr 1
  simp; omega
theorem mix_short {ts us : List ByteArray} (h1 : Short ts) (h2 : Short us) : Short (mix ts us) := by
  intro i hi
  rw [mix_len] at hi
  rcases Nat.lt_or_ge i us.length with hu | hu
  · rw [mix_lt hi hu]; exact h2 i hu
  · rw [mix_ge hi hu]; exact h1 i hi
def half (zs ts : List ByteArray) (i : Nat) : List ByteArray := zs.take i ++ ts.drop i
theorem half_len {zs ts : List ByteArray} {i : Nat} (h : zs.length = ts.length) (hi : i ≤ ts.length) : (half zs ts i).length = ts.length := by simp [half]; omega
theorem half_zero (zs ts : List ByteArray) : half zs ts 0 = ts := by simp [half]
theorem half_all {zs ts : List ByteArray} (h : zs.length = ts.length) : half zs ts ts.length = zs := by
  rw [half, List.drop_length, List.append_nil, List.take_of_length_le (by omega)]
theorem half_at {zs ts : List ByteArray} {i : Nat} (h : zs.length = ts.length) (hi : i < ts.length) : (half zs ts i)[i]? = ts[i]? := by
  rw [half, List.getElem?_append_right (by simp; omega), List.getElem?_drop]
  congr 1
  simp; omega
theorem half_succ {zs ts : List ByteArray} {i : Nat} (h : zs.length = ts.length) (hi : i < ts.length) {x : ByteArray} (hx : zs[i]? = some x) : (half zs ts i).set i x = half zs ts (i + 1) := by
  have hz : i < zs.length := by omega
  have hx' : zs[i] = x := by rw [List.getElem?_eq_getElem hz] at hx; exact Option.some.inj hx
  have e1 : zs.take (i + 1) = zs.take i ++ [x] := by rw [← hx', List.take_succ_eq_append_getElem hz]
  have e2 : ts.drop i = ts[i] :: ts.drop (i + 1) := List.drop_eq_getElem_cons hi
  rw [half, half, e1, e2, List.set_append_right _ _ (by simp; omega)]
  have e3 : i - (zs.take i).length = 0 := by simp; omega
  rw [e3, List.append_assoc]; rfl
theorem half_now {zs ts : List ByteArray} {i : Nat} (h : zs.length = ts.length) (hi : i < ts.length) : (half zs ts (i + 1))[i]? = zs[i]? := by
  rw [half, List.getElem?_append_left (by simp; omega), List.getElem?_take_of_lt (by omega)]
theorem half_same {zs ts : List ByteArray} {i : Nat} (h : zs.length = ts.length) (hi : i < ts.length) (he : zs[i]? = ts[i]?) : half zs ts (i + 1) = half zs ts i := by
  rw [← half_succ (x := ts[i]) h hi (by rw [he, List.getElem?_eq_getElem hi])]
  have hl : i < (half zs ts i).length := by rw [half_len h (by omega)]; exact hi
  have : (half zs ts i)[i] = ts[i] := by
    have := half_at h hi
    rw [List.getElem?_eq_getElem hl, List.getElem?_eq_getElem hi] at this
    exact Option.some.inj this
  rw [← this, List.set_getElem_self]
theorem lent_put (l : List ByteArray) {i : Nat} (hi : i < l.length) (x : ByteArray) : (lent l 8).set i (.string x) = lent (l.set i x) 8 := by
  rw [lent, lent, List.set_append_left _ _ (by simpa using hi), List.map_set]
theorem lent_cell {w : World} {M : Nat} {l : List ByteArray} (h : w.heap[M]? = some (.cells (lent l 8).toArray 9 (0, 0))) {i : Nat} {x : ByteArray} (hx : l[i]? = some x) : w.cell? ⟨M, i, none⟩ = some (.string x) := by
  have hi := (List.getElem?_eq_some_iff.1 hx).1
  have : (lent l 8)[i]? = some (.string x) := by rw [lent, List.getElem?_append_left (by simpa using hi), List.getElem?_map, hx]; rfl
  simpa [World.cell?, h] using this
theorem lent_tags {w : World} {M : Nat} {l : List ByteArray} (h : w.heap[M]? = some (.cells (lent l 8).toArray 9 (0, 0))) : TagsAt w (some ⟨M, 0, none⟩) l := by
  intro _
  refine ⟨M, 0, rfl, fun i hi => ?_⟩
  rw [Nat.zero_add]
  exact lent_cell h (by rw [List.getElem?_eq_getElem hi]; rfl)
theorem lent_ok {w : World} {M : Nat} {l : List ByteArray} (h : w.heap[M]? = some (.cells (lent l 8).toArray 9 (0, 0))) (hl : l.length * 16 ≤ 140737488351232) : LentOk [(M, l.length)] w := by
  intro i M' n hi
  cases i with
  | zero =>
    simp at hi
    obtain ⟨rfl, rfl⟩ := hi
    refine ⟨hl, fun q h1 h2 => ?_⟩
    have : (lent l 8)[q]? = some (.string badT) := by
      rw [lent, List.getElem?_append_right (by simpa using h1), List.getElem?_append_left (by simp; omega), List.getElem?_replicate, if_pos (by simp; omega)]
    simpa [World.cell?, h] using this
  | succ j => simp at hi
theorem one_tag {w : World} {s : ByteArray} : TagsAt (w.alloc (.cells #[.string s] 9)) (some ⟨w.heap.size, 0, none⟩) [s] := by
  intro _
  refine ⟨w.heap.size, 0, rfl, fun i hi => ?_⟩
  have : i = 0 := by simpa using hi
  subst this
  exact cell_one_new w (.string s) 9 0 _ rfl
theorem own_tags {w : World} {base : Nat} {v : Value} {l : List ByteArray} (h : w.ownsRow base 9 1 v l.length (l.map Value.string)) : ∃ a cap, v = .slice a l.length cap ∧ TagsAt w a l := by
  obtain ⟨a, cap, rfl, _, _, hc⟩ := row_at h
  refine ⟨a, cap, rfl, fun h0 => ?_⟩
  obtain ⟨g, rfl, _⟩ := hc 0 (.string l[0]) (by simp [h0])
  refine ⟨g, 0, rfl, fun i hi => ?_⟩
  obtain ⟨g', e, hx⟩ := hc i (.string l[i]) (by simp [hi])
  simp only [Option.some.injEq, Addr.mk.injEq] at e
  obtain ⟨rfl, _⟩ := e
  rw [Nat.zero_add, hx, List.getElem?_eq_getElem hi]; rfl
end Go.Proofs.YtdjllnhahhjgmaaGreat
