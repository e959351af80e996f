/- Walks of sameTexts and same, of both packages of statements (their texts are alike). -/
import Derived.Test.YtdjllnhahhjgmaaE11
namespace Go.Proofs.Ytdjllnhahhjgmaa
open Go.RowKit Chron
def sameTs (xs ys : List ByteArray) : Bool := decide (xs = ys)
def sameEv (e f : Ev) : Bool := sameTs e.tags f.tags && (decide (e.kind = f.kind) && (decide (e.task = f.task) && (decide (e.time = f.time) && decide (e.body = f.body))))
theorem sameEv_iff {e f : Ev} : sameEv e f = true ↔ e = f := by
  obtain ⟨a, b, c, d, g⟩ := e; obtain ⟨a', b', c', d', g'⟩ := f
  simp only [sameEv, sameTs, Bool.and_eq_true, decide_eq_true_eq, Ev.mk.injEq]
  constructor
  · rintro ⟨h1, h2, h3, h4, h5⟩; exact ⟨h2, h3, h4, h5, h1⟩
  · rintro ⟨h2, h3, h4, h5, h1⟩; exact ⟨h1, h2, h3, h4, h5⟩
theorem toList_inj {a b : ByteArray} (h : a.toList = b.toList) : a = b := by
  rw [ByteArray.toList_eq, ByteArray.toList_eq] at h; exact bytes_inj h
theorem sameTs_len {xs ys : List ByteArray} (h : ¬ xs.length = ys.length) : sameTs xs ys = false := by
  simp only [sameTs, decide_eq_false_iff_not]; rintro rfl; exact h rfl
theorem sameTs_all {xs ys : List ByteArray} {k : Nat} (hl : xs.length = ys.length) (hk : xs.length ≤ k) (h : ∀ j, j < k → j < xs.length → xs[j]?.getD ByteArray.empty = ys[j]?.getD ByteArray.empty) : sameTs xs ys = true := by
  simp only [sameTs, decide_eq_true_eq]
  apply List.ext_getElem hl
  intro i h1 h2
  have := h i (by omega) h1
  rw [List.getElem?_eq_getElem h1, List.getElem?_eq_getElem h2] at this
  exact this
theorem sameTs_not {xs ys : List ByteArray} {k : Nat} (h : ¬ xs[k]?.getD ByteArray.empty = ys[k]?.getD ByteArray.empty) : sameTs xs ys = false := by
  simp only [sameTs, decide_eq_false_iff_not]; rintro rfl; exact h rfl
set_option maxRecDepth 100000 in
set_option maxHeartbeats 400000 in
theorem sameTexts_keep (a1 a2 : Option Addr) (cap1 cap2 : Nat) (xs ys : List ByteArray) (w : World) (h1 : Hid (TagsAt w a1 xs)) (h2 : Hid (TagsAt w a2 ys)) (hx : xs.length ≤ maxLen) (_hy : ys.length ≤ maxLen) :
    Calls Try.prog 50 #[.slice a1 xs.length cap1, .slice a2 ys.length cap2] w fun e w' => e = .returned (.bool (sameTs xs ys)) ∧ ∃ nq, w' = w.drewN nq := by
  unfold maxLen at hx _hy
  by_cases hl : xs.length = ys.length
  · have hlb : ((xs.length : Int) != (ys.length : Int)) = false := by simp [hl]
    have HL := hide0 hl
    have hly : xs.length ≤ ys.length := by omega
    have hyl : ys.length ≤ xs.length := by omega
    clear hl
    go_enter Try.func50, Try.ntmps50
    go_wp2
    go_loopw [5] (fun i wx => ∃ (k nq : Nat), k ≤ xs.length ∧ i = .int .i64 k ∧ wx = w.drewN nq ∧ Hid (∀ j, j < k → j < xs.length → xs[j]?.getD ByteArray.empty = ys[j]?.getD ByteArray.empty)) (fun i _ => xs.length - (intOf i).toNat)
    case atStart => exact ⟨0, 0, Nat.zero_le _, rfl, rfl, fun j hj => by omega⟩
    case round =>
      obtain ⟨k, nq, hk, rfl, rfl, HA⟩ := hrel
      by_cases hlt : k < xs.length
      · obtain ⟨b1, o1, rfl, hc1⟩ := h1.out (by omega)
        obtain ⟨b2, o2, rfl, hc2⟩ := h2.out (by omega)
        have e1 := hc1 k hlt
        have e2 := hc2 k (by omega)
        have HX : Hid (xs[k]?.getD ByteArray.empty = xs[k]?.getD ByteArray.empty ∧ ys[k]?.getD ByteArray.empty = ys[k]?.getD ByteArray.empty) := ⟨rfl, rfl⟩
        obtain ⟨x, hxk⟩ : ∃ x, x = xs[k]?.getD ByteArray.empty := ⟨_, rfl⟩
        obtain ⟨y, hyk⟩ : ∃ y, y = ys[k]?.getD ByteArray.empty := ⟨_, rfl⟩
        rw [← hxk] at e1
        rw [← hyk] at e2
        have HXK := hide0 hxk
        have HYK := hide0 hyk
        clear hc1 hc2 hxk hyk HX
        have i1 : (k : Int) < (xs.length : Int) := by omega
        have i2 : (k : Int) < (ys.length : Int) := by omega
        by_cases hq : x.toList = y.toList
        · have hqb : (x.toList == y.toList) = true := by simp [hq]
          have HQ := hide0 (toList_inj hq)
          clear hq
          go_wp2_with fail
          go_quiet (fail)
          go_wp2
          go_roundw
          case rel => exact ⟨k + 1, _, by omega, by go_num, rfl, fun j hj hjl => by
            rcases Nat.lt_or_ge j k with hj2 | hj2
            · exact HA.out j hj2 hjl
            · rw [show j = k by omega, ← HXK.out, ← HYK.out]; exact HQ.out⟩
          case measure => simp [intOf]; omega
        · have hqb : (x.toList == y.toList) = false := by simp [hq]
          have HQ := hide0 hq
          clear hq
          go_wp2_with fail
          go_quiet (fail)
          go_wp2
          go_ret
          exact ⟨ret_bool (sameTs_not (k := k) (by rw [← HXK.out, ← HYK.out]; intro h; exact HQ.out (by rw [h]))).symm, _, World.drewN_drewN _ _ _⟩
      · go_wp2
        go_ret
        exact ⟨ret_bool (sameTs_all HL.out (by omega) HA.out).symm, nq, rfl⟩
  · have hlb : ((xs.length : Int) != (ys.length : Int)) = true := by simp; omega
    go_enter Try.func50, Try.ntmps50
    go_wp2
    go_ret
    exact ⟨ret_bool (sameTs_len hl).symm, 0, rfl⟩
set_option maxRecDepth 100000 in
set_option maxHeartbeats 1000000 in
theorem same_keep (e f : Ev) (a1 a2 : Option Addr) (cap1 cap2 : Nat) (w : World) (h1 : Hid (TagsAt w a1 e.tags)) (h2 : Hid (TagsAt w a2 f.tags)) (hx : e.tags.length ≤ maxLen) (hy : f.tags.length ≤ maxLen) :
    Calls Try.prog 24 #[evVal e (.slice a1 e.tags.length cap1), evVal f (.slice a2 f.tags.length cap2)] w fun r w' => r = .returned (.bool (sameEv e f)) ∧ Below w.heap.size w w' := by
  obtain ⟨k, t, m, b, xs⟩ := e
  obtain ⟨k', t', m', b', ys⟩ := f
  simp only [evVal] at *
  have hS := sameTexts_keep a1 a2 cap1 cap2 xs ys ((w.alloc (.cells #[.int .i64 k, .string t, .int .i64 m, .string b, .slice a1 xs.length cap1] 24)).alloc (.cells #[.int .i64 k', .string t', .int .i64 m', .string b', .slice a2 ys.length cap2] 24)) ((h1.out.alloc _).alloc _) ((h2.out.alloc _).alloc _) hx hy
  have HE : Hid (sameEv ⟨k, t, m, b, xs⟩ ⟨k', t', m', b', ys⟩ = (sameTs xs ys && (decide (k = k') && (decide (t = t') && (decide (m = m') && decide (b = b')))))) := rfl
  generalize sameTs xs ys = q at hS HE
  go_enter Try.func24, Try.ntmps24
  go_wp2_with fail
  refine hS.mono ?_
  rintro r w1 ⟨rfl, nq, rfl⟩
  have HB : Hid (Below w.heap.size w (((w.alloc (.cells #[.int .i64 k, .string t, .int .i64 m, .string b, .slice a1 xs.length cap1] 24)).alloc (.cells #[.int .i64 k', .string t', .int .i64 m', .string b', .slice a2 ys.length cap2] 24)).drewN nq)) := below_drewN (((Below.refl _ _).alloc (Nat.le_refl _) _).alloc (by simp) _) nq
  clear hS
  cases q
  · go_wp2
    go_ret
    exact ⟨ret_bool (by rw [HE.out]; rfl), HB.out⟩
  · by_cases hk : k = k'
    · subst hk
      have hkb : (k == k) = true := by simp
      by_cases ht : t.toList = t'.toList
      · have htb : (t.toList == t'.toList) = true := by simp [ht]
        have HT := hide0 (toList_inj ht)
        clear ht
        by_cases hm : m = m'
        · subst hm
          have hmb : (m == m) = true := by simp
          by_cases hb : b.toList = b'.toList
          · have hbb : (b.toList == b'.toList) = true := by simp [hb]
            have HBB := hide0 (toList_inj hb)
            clear hb
            go_wp2
            go_ret
            exact ⟨ret_bool (by rw [HE.out, HT.out, HBB.out]; simp), HB.out⟩
          · have hbb : (b.toList == b'.toList) = false := by simp [hb]
            have HBB : Hid (¬ b = b') := fun h => hb (by rw [h])
            clear hb
            go_wp2
            go_ret
            exact ⟨ret_bool (by rw [HE.out, decide_eq_false HBB.out]; simp), HB.out⟩
        · have hmb : (m == m') = false := by simp [hm]
          have HM := hide0 hm
          clear hm
          go_wp2
          go_ret
          exact ⟨ret_bool (by rw [HE.out, decide_eq_false HM.out]; simp), HB.out⟩
      · have htb : (t.toList == t'.toList) = false := by simp [ht]
        have HT : Hid (¬ t = t') := fun h => ht (by rw [h])
        clear ht
        go_wp2
        go_ret
        exact ⟨ret_bool (by rw [HE.out, decide_eq_false HT.out]; simp), HB.out⟩
    · have hkb : (k == k') = false := by simp [hk]
      have HK := hide0 hk
      clear hk
      go_wp2
      go_ret
      exact ⟨ret_bool (by rw [HE.out, decide_eq_false HK.out]; simp), HB.out⟩
set_option maxRecDepth 100000 in
set_option maxHeartbeats 400000 in
theorem sameTexts_law (a1 a2 : Option Addr) (cap1 cap2 : Nat) (xs ys : List ByteArray) (w : World) (h1 : Hid (TagsAt w a1 xs)) (h2 : Hid (TagsAt w a2 ys)) (hx : xs.length ≤ maxLen) (_hy : ys.length ≤ maxLen) :
    Calls Try.prog 34 #[.slice a1 xs.length cap1, .slice a2 ys.length cap2] w fun e w' => e = .returned (.bool (sameTs xs ys)) ∧ ∃ nq, w' = w.drewN nq := by
  unfold maxLen at hx _hy
  by_cases hl : xs.length = ys.length
  · have hlb : ((xs.length : Int) != (ys.length : Int)) = false := by simp [hl]
    have HL := hide0 hl
    have hly : xs.length ≤ ys.length := by omega
    have hyl : ys.length ≤ xs.length := by omega
    clear hl
    go_enter Try.func34, Try.ntmps34
    go_wp2
    go_loopw [5] (fun i wx => ∃ (k nq : Nat), k ≤ xs.length ∧ i = .int .i64 k ∧ wx = w.drewN nq ∧ Hid (∀ j, j < k → j < xs.length → xs[j]?.getD ByteArray.empty = ys[j]?.getD ByteArray.empty)) (fun i _ => xs.length - (intOf i).toNat)
    case atStart => exact ⟨0, 0, Nat.zero_le _, rfl, rfl, fun j hj => by omega⟩
    case round =>
      obtain ⟨k, nq, hk, rfl, rfl, HA⟩ := hrel
      by_cases hlt : k < xs.length
      · obtain ⟨b1, o1, rfl, hc1⟩ := h1.out (by omega)
        obtain ⟨b2, o2, rfl, hc2⟩ := h2.out (by omega)
        have e1 := hc1 k hlt
        have e2 := hc2 k (by omega)
        have HX : Hid (xs[k]?.getD ByteArray.empty = xs[k]?.getD ByteArray.empty ∧ ys[k]?.getD ByteArray.empty = ys[k]?.getD ByteArray.empty) := ⟨rfl, rfl⟩
        obtain ⟨x, hxk⟩ : ∃ x, x = xs[k]?.getD ByteArray.empty := ⟨_, rfl⟩
        obtain ⟨y, hyk⟩ : ∃ y, y = ys[k]?.getD ByteArray.empty := ⟨_, rfl⟩
        rw [← hxk] at e1
        rw [← hyk] at e2
        have HXK := hide0 hxk
        have HYK := hide0 hyk
        clear hc1 hc2 hxk hyk HX
        have i1 : (k : Int) < (xs.length : Int) := by omega
        have i2 : (k : Int) < (ys.length : Int) := by omega
        by_cases hq : x.toList = y.toList
        · have hqb : (x.toList == y.toList) = true := by simp [hq]
          have HQ := hide0 (toList_inj hq)
          clear hq
          go_wp2_with fail
          go_quiet (fail)
          go_wp2
          go_roundw
          case rel => exact ⟨k + 1, _, by omega, by go_num, rfl, fun j hj hjl => by
            rcases Nat.lt_or_ge j k with hj2 | hj2
            · exact HA.out j hj2 hjl
            · rw [show j = k by omega, ← HXK.out, ← HYK.out]; exact HQ.out⟩
          case measure => simp [intOf]; omega
        · have hqb : (x.toList == y.toList) = false := by simp [hq]
          have HQ := hide0 hq
          clear hq
          go_wp2_with fail
          go_quiet (fail)
          go_wp2
          go_ret
          exact ⟨ret_bool (sameTs_not (k := k) (by rw [← HXK.out, ← HYK.out]; intro h; exact HQ.out (by rw [h]))).symm, _, World.drewN_drewN _ _ _⟩
      · go_wp2
        go_ret
        exact ⟨ret_bool (sameTs_all HL.out (by omega) HA.out).symm, nq, rfl⟩
  · have hlb : ((xs.length : Int) != (ys.length : Int)) = true := by simp; omega
    go_enter Try.func34, Try.ntmps34
    go_wp2
    go_ret
    exact ⟨ret_bool (sameTs_len hl).symm, 0, rfl⟩
set_option maxRecDepth 100000 in
set_option maxHeartbeats 1000000 in
theorem same_law (e f : Ev) (a1 a2 : Option Addr) (cap1 cap2 : Nat) (w : World) (h1 : Hid (TagsAt w a1 e.tags)) (h2 : Hid (TagsAt w a2 f.tags)) (hx : e.tags.length ≤ maxLen) (hy : f.tags.length ≤ maxLen) :
    Calls Try.prog 12 #[evVal e (.slice a1 e.tags.length cap1), evVal f (.slice a2 f.tags.length cap2)] w fun r w' => r = .returned (.bool (sameEv e f)) ∧ Below w.heap.size w w' := by
  obtain ⟨k, t, m, b, xs⟩ := e
  obtain ⟨k', t', m', b', ys⟩ := f
  simp only [evVal] at *
  have hS := sameTexts_law a1 a2 cap1 cap2 xs ys ((w.alloc (.cells #[.int .i64 k, .string t, .int .i64 m, .string b, .slice a1 xs.length cap1] 24)).alloc (.cells #[.int .i64 k', .string t', .int .i64 m', .string b', .slice a2 ys.length cap2] 24)) ((h1.out.alloc _).alloc _) ((h2.out.alloc _).alloc _) hx hy
  have HE : Hid (sameEv ⟨k, t, m, b, xs⟩ ⟨k', t', m', b', ys⟩ = (sameTs xs ys && (decide (k = k') && (decide (t = t') && (decide (m = m') && decide (b = b')))))) := rfl
  generalize sameTs xs ys = q at hS HE
  go_enter Try.func12, Try.ntmps12
  go_wp2_with fail
  refine hS.mono ?_
  rintro r w1 ⟨rfl, nq, rfl⟩
  have HB : Hid (Below w.heap.size w (((w.alloc (.cells #[.int .i64 k, .string t, .int .i64 m, .string b, .slice a1 xs.length cap1] 24)).alloc (.cells #[.int .i64 k', .string t', .int .i64 m', .string b', .slice a2 ys.length cap2] 24)).drewN nq)) := below_drewN (((Below.refl _ _).alloc (Nat.le_refl _) _).alloc (by simp) _) nq
  clear hS
  cases q
  · go_wp2
    go_ret
    exact ⟨ret_bool (by rw [HE.out]; rfl), HB.out⟩
  · by_cases hk : k = k'
    · subst hk
      have hkb : (k == k) = true := by simp
      by_cases ht : t.toList = t'.toList
      · have htb : (t.toList == t'.toList) = true := by simp [ht]
        have HT := hide0 (toList_inj ht)
        clear ht
        by_cases hm : m = m'
        · subst hm
          have hmb : (m == m) = true := by simp
          by_cases hb : b.toList = b'.toList
          · have hbb : (b.toList == b'.toList) = true := by simp [hb]
            have HBB := hide0 (toList_inj hb)
            clear hb
            go_wp2
            go_ret
            exact ⟨ret_bool (by rw [HE.out, HT.out, HBB.out]; simp), HB.out⟩
          · have hbb : (b.toList == b'.toList) = false := by simp [hb]
            have HBB : Hid (¬ b = b') := fun h => hb (by rw [h])
            clear hb
            go_wp2
            go_ret
            exact ⟨ret_bool (by rw [HE.out, decide_eq_false HBB.out]; simp), HB.out⟩
        · have hmb : (m == m') = false := by simp [hm]
          have HM := hide0 hm
          clear hm
          go_wp2
          go_ret
          exact ⟨ret_bool (by rw [HE.out, decide_eq_false HM.out]; simp), HB.out⟩
      · have htb : (t.toList == t'.toList) = false := by simp [ht]
        have HT : Hid (¬ t = t') := fun h => ht (by rw [h])
        clear ht
        go_wp2
        go_ret
        exact ⟨ret_bool (by rw [HE.out, decide_eq_false HT.out]; simp), HB.out⟩
    · have hkb : (k == k') = false := by simp [hk]
      have HK := hide0 hk
      clear hk
      go_wp2
      go_ret
      exact ⟨ret_bool (by rw [HE.out, decide_eq_false HK.out]; simp), HB.out⟩
end Go.Proofs.Ytdjllnhahhjgmaa
