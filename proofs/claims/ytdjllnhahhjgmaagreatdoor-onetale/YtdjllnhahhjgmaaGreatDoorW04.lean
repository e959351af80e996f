/- Walks and plain facts, in the order in which they lean on one another. -/
import Derived.Test.YtdjllnhahhjgmaaGreatDoorW03
import Derived.Laws.CopyOwn
import Derived.Deep.AppendLies
import Derived.Deep.DeepAppendRoom
import Derived.ArgAppend
namespace Go.Proofs.YtdjllnhahhjgmaaGreatDoor
open Go.RowKit Chron
def sameTs (xs ys : List ByteArray) : Bool := decide (xs = ys)
def sameEv (e f : Ev) : Bool := sameTs e.tags f.tags && (decide (e.kind = f.kind) && (decide (e.task = f.task) && (decide (e.time = f.time) && decide (e.body = f.body))))
theorem sameEv_iff {e f : Ev} : sameEv e f = true ↔ e = f := by
  obtain ⟨a, b, c, d, g⟩ := e; obtain ⟨a', b', c', d', g'⟩ := f
  simp only [sameEv, sameTs, Bool.and_eq_true, decide_eq_true_eq, Ev.mk.injEq]
  constructor
  · rintro ⟨h1, h2, h3, h4, h5⟩; exact ⟨h2, h3, h4, h5, h1⟩
  · rintro ⟨h2, h3, h4, h5, h1⟩; exact ⟨h1, h2, h3, h4, h5⟩
theorem toList_inj {a b : ByteArray} (h : a.toList = b.toList) : a = b := by
  rw [ByteArray.toList_eq, ByteArray.toList_eq] at h; exact bytes_inj h
theorem sameTs_len {xs ys : List ByteArray} (h : ¬ xs.length = ys.length) : sameTs xs ys = false := by
  simp only [sameTs, decide_eq_false_iff_not]; rintro rfl; exact h rfl
theorem sameTs_all {xs ys : List ByteArray} {k : Nat} (hl : xs.length = ys.length) (hk : xs.length ≤ k) (h : ∀ j, j < k → j < xs.length → xs[j]?.getD ByteArray.empty = ys[j]?.getD ByteArray.empty) : sameTs xs ys = true := by
  simp only [sameTs, decide_eq_true_eq]
  apply List.ext_getElem hl
  intro i h1 h2
  have := h i (by omega) h1
  rw [List.getElem?_eq_getElem h1, List.getElem?_eq_getElem h2] at this
  exact this
theorem sameTs_not {xs ys : List ByteArray} {k : Nat} (h : ¬ xs[k]?.getD ByteArray.empty = ys[k]?.getD ByteArray.empty) : sameTs xs ys = false := by
  simp only [sameTs, decide_eq_false_iff_not]; rintro rfl; exact h rfl
set_option maxRecDepth 100000 in
set_option maxHeartbeats 400000 in
theorem sameTexts_keep (a1 a2 : Option Addr) (cap1 cap2 : Nat) (xs ys : List ByteArray) (w : World) (h1 : Hid (TagsAt w a1 xs)) (h2 : Hid (TagsAt w a2 ys)) (hx : xs.length ≤ maxLen) (_hy : ys.length ≤ maxLen) :
    Calls Tryz.prog 32 #[.slice a1 xs.length cap1, .slice a2 ys.length cap2] w fun e w' => e = .returned (.bool (sameTs xs ys)) ∧ ∃ nq, w' = w.drewN nq := by
  unfold maxLen at hx _hy
  by_cases hl : xs.length = ys.length
  · have hlb : ((xs.length : Int) != (ys.length : Int)) = false := by simp [hl]
    have HL := hide0 hl
    have hly : xs.length ≤ ys.length := by omega
    have hyl : ys.length ≤ xs.length := by omega
    clear hl
    go_enter Tryz.func32, Tryz.ntmps32
    go_wp2
    go_loopw [5] (fun i wx => ∃ (k nq : Nat), k ≤ xs.length ∧ i = .int .i64 k ∧ wx = w.drewN nq ∧ Hid (∀ j, j < k → j < xs.length → xs[j]?.getD ByteArray.empty = ys[j]?.getD ByteArray.empty)) (fun i _ => xs.length - (intOf i).toNat)
    case atStart => exact ⟨0, 0, Nat.zero_le _, rfl, rfl, fun j hj => by omega⟩
    case round =>
      obtain ⟨k, nq, hk, rfl, rfl, HA⟩ := hrel
      by_cases hlt : k < xs.length
      · obtain ⟨b1, o1, rfl, hc1⟩ := h1.out (by omega)
        obtain ⟨b2, o2, rfl, hc2⟩ := h2.out (by omega)
        have e1 := hc1 k hlt
        have e2 := hc2 k (by omega)
        have HX : Hid (xs[k]?.getD ByteArray.empty = xs[k]?.getD ByteArray.empty ∧ ys[k]?.getD ByteArray.empty = ys[k]?.getD ByteArray.empty) := ⟨rfl, rfl⟩
        obtain ⟨x, hxk⟩ : ∃ x, x = xs[k]?.getD ByteArray.empty := ⟨_, rfl⟩
        obtain ⟨y, hyk⟩ : ∃ y, y = ys[k]?.getD ByteArray.empty := ⟨_, rfl⟩
        rw [← hxk] at e1
        rw [← hyk] at e2
        have HXK := hide0 hxk
        have HYK := hide0 hyk
        clear hc1 hc2 hxk hyk HX
        have i1 : (k : Int) < (xs.length : Int) := by omega
        have i2 : (k : Int) < (ys.length : Int) := by omega
        by_cases hq : x.toList = y.toList
        · have hqb : (x.toList == y.toList) = true := by simp [hq]
          have HQ := hide0 (toList_inj hq)
          clear hq
          go_wp2_with fail
          go_quiet (fail)
          go_wp2
          go_roundw
          case rel => exact ⟨k + 1, _, by omega, by go_num, rfl, fun j hj hjl => by
            rcases Nat.lt_or_ge j k with hj2 | hj2
            · exact HA.out j hj2 hjl
            · rw [show j = k by omega, ← HXK.out, ← HYK.out]; exact HQ.out⟩
          case measure => simp [intOf]; omega
        · have hqb : (x.toList == y.toList) = false := by simp [hq]
          have HQ := hide0 hq
          clear hq
          go_wp2_with fail
          go_quiet (fail)
          go_wp2
          go_ret
          exact ⟨ret_bool (sameTs_not (k := k) (by rw [← HXK.out, ← HYK.out]; intro h; exact HQ.out (by rw [h]))).symm, _, World.drewN_drewN _ _ _⟩
      · go_wp2
        go_ret
        exact ⟨ret_bool (sameTs_all HL.out (by omega) HA.out).symm, nq, rfl⟩
  · have hlb : ((xs.length : Int) != (ys.length : Int)) = true := by simp; omega
    go_enter Tryz.func32, Tryz.ntmps32
    go_wp2
    go_ret
    exact ⟨ret_bool (sameTs_len hl).symm, 0, rfl⟩
set_option maxRecDepth 100000 in
set_option maxHeartbeats 1000000 in
theorem same_keep (e f : Ev) (a1 a2 : Option Addr) (cap1 cap2 : Nat) (w : World) (h1 : Hid (TagsAt w a1 e.tags)) (h2 : Hid (TagsAt w a2 f.tags)) (hx : e.tags.length ≤ maxLen) (hy : f.tags.length ≤ maxLen) :
    Calls Tryz.prog 14 #[evVal e (.slice a1 e.tags.length cap1), evVal f (.slice a2 f.tags.length cap2)] w fun r w' => r = .returned (.bool (sameEv e f)) ∧ Below w.heap.size w w' := by
  obtain ⟨k, t, m, b, xs⟩ := e
  obtain ⟨k', t', m', b', ys⟩ := f
  simp only [evVal] at *
  have hS := sameTexts_keep a1 a2 cap1 cap2 xs ys ((w.alloc (.cells #[.int .i64 k, .string t, .int .i64 m, .string b, .slice a1 xs.length cap1] 29)).alloc (.cells #[.int .i64 k', .string t', .int .i64 m', .string b', .slice a2 ys.length cap2] 29)) ((h1.out.alloc _).alloc _) ((h2.out.alloc _).alloc _) hx hy
  have HE : Hid (sameEv ⟨k, t, m, b, xs⟩ ⟨k', t', m', b', ys⟩ = (sameTs xs ys && (decide (k = k') && (decide (t = t') && (decide (m = m') && decide (b = b')))))) := rfl
  generalize sameTs xs ys = q at hS HE
  go_enter Tryz.func14, Tryz.ntmps14
  go_wp2_with fail
  refine hS.mono ?_
  rintro r w1 ⟨rfl, nq, rfl⟩
  have HB : Hid (Below w.heap.size w (((w.alloc (.cells #[.int .i64 k, .string t, .int .i64 m, .string b, .slice a1 xs.length cap1] 29)).alloc (.cells #[.int .i64 k', .string t', .int .i64 m', .string b', .slice a2 ys.length cap2] 29)).drewN nq)) := below_drewN (((Below.refl _ _).alloc (Nat.le_refl _) _).alloc (by simp) _) nq
  clear hS
  cases q
  · go_wp2
    go_ret
    exact ⟨ret_bool (by rw [HE.out]; rfl), HB.out⟩
  · by_cases hk : k = k'
    · subst hk
      have hkb : (k == k) = true := by simp
      by_cases ht : t.toList = t'.toList
      · have htb : (t.toList == t'.toList) = true := by simp [ht]
        have HT := hide0 (toList_inj ht)
        clear ht
        by_cases hm : m = m'
        · subst hm
          have hmb : (m == m) = true := by simp
          by_cases hb : b.toList = b'.toList
          · have hbb : (b.toList == b'.toList) = true := by simp [hb]
            have HBB := hide0 (toList_inj hb)
            clear hb
            go_wp2
            go_ret
            exact ⟨ret_bool (by rw [HE.out, HT.out, HBB.out]; simp), HB.out⟩
          · have hbb : (b.toList == b'.toList) = false := by simp [hb]
            have HBB : Hid (¬ b = b') := fun h => hb (by rw [h])
            clear hb
            go_wp2
            go_ret
            exact ⟨ret_bool (by rw [HE.out, decide_eq_false HBB.out]; simp), HB.out⟩
        · have hmb : (m == m') = false := by simp [hm]
          have HM := hide0 hm
          clear hm
          go_wp2
          go_ret
          exact ⟨ret_bool (by rw [HE.out, decide_eq_false HM.out]; simp), HB.out⟩
      · have htb : (t.toList == t'.toList) = false := by simp [ht]
        have HT : Hid (¬ t = t') := fun h => ht (by rw [h])
        clear ht
        go_wp2
        go_ret
        exact ⟨ret_bool (by rw [HE.out, decide_eq_false HT.out]; simp), HB.out⟩
    · have hkb : (k == k') = false := by simp [hk]
      have HK := hide0 hk
      clear hk
      go_wp2
      go_ret
      exact ⟨ret_bool (by rw [HE.out, decide_eq_false HK.out]; simp), HB.out⟩
set_option maxRecDepth 100000 in
set_option maxHeartbeats 400000 in
theorem sameTexts_law (a1 a2 : Option Addr) (cap1 cap2 : Nat) (xs ys : List ByteArray) (w : World) (h1 : Hid (TagsAt w a1 xs)) (h2 : Hid (TagsAt w a2 ys)) (hx : xs.length ≤ maxLen) (_hy : ys.length ≤ maxLen) :
    Calls Tryz.prog 44 #[.slice a1 xs.length cap1, .slice a2 ys.length cap2] w fun e w' => e = .returned (.bool (sameTs xs ys)) ∧ ∃ nq, w' = w.drewN nq := by
  unfold maxLen at hx _hy
  by_cases hl : xs.length = ys.length
  · have hlb : ((xs.length : Int) != (ys.length : Int)) = false := by simp [hl]
    have HL := hide0 hl
    have hly : xs.length ≤ ys.length := by omega
    have hyl : ys.length ≤ xs.length := by omega
    clear hl
    go_enter Tryz.func44, Tryz.ntmps44
    go_wp2
    go_loopw [5] (fun i wx => ∃ (k nq : Nat), k ≤ xs.length ∧ i = .int .i64 k ∧ wx = w.drewN nq ∧ Hid (∀ j, j < k → j < xs.length → xs[j]?.getD ByteArray.empty = ys[j]?.getD ByteArray.empty)) (fun i _ => xs.length - (intOf i).toNat)
    case atStart => exact ⟨0, 0, Nat.zero_le _, rfl, rfl, fun j hj => by omega⟩
    case round =>
      obtain ⟨k, nq, hk, rfl, rfl, HA⟩ := hrel
      by_cases hlt : k < xs.length
      · obtain ⟨b1, o1, rfl, hc1⟩ := h1.out (by omega)
        obtain ⟨b2, o2, rfl, hc2⟩ := h2.out (by omega)
        have e1 := hc1 k hlt
        have e2 := hc2 k (by omega)
        have HX : Hid (xs[k]?.getD ByteArray.empty = xs[k]?.getD ByteArray.empty ∧ ys[k]?.getD ByteArray.empty = ys[k]?.getD ByteArray.empty) := ⟨rfl, rfl⟩
        obtain ⟨x, hxk⟩ : ∃ x, x = xs[k]?.getD ByteArray.empty := ⟨_, rfl⟩
        obtain ⟨y, hyk⟩ : ∃ y, y = ys[k]?.getD ByteArray.empty := ⟨_, rfl⟩
        rw [← hxk] at e1
        rw [← hyk] at e2
        have HXK := hide0 hxk
        have HYK := hide0 hyk
        clear hc1 hc2 hxk hyk HX
        have i1 : (k : Int) < (xs.length : Int) := by omega
        have i2 : (k : Int) < (ys.length : Int) := by omega
        by_cases hq : x.toList = y.toList
        · have hqb : (x.toList == y.toList) = true := by simp [hq]
          have HQ := hide0 (toList_inj hq)
          clear hq
          go_wp2_with fail
          go_quiet (fail)
          go_wp2
          go_roundw
          case rel => exact ⟨k + 1, _, by omega, by go_num, rfl, fun j hj hjl => by
            rcases Nat.lt_or_ge j k with hj2 | hj2
            · exact HA.out j hj2 hjl
            · rw [show j = k by omega, ← HXK.out, ← HYK.out]; exact HQ.out⟩
          case measure => simp [intOf]; omega
        · have hqb : (x.toList == y.toList) = false := by simp [hq]
          have HQ := hide0 hq
          clear hq
          go_wp2_with fail
          go_quiet (fail)
          go_wp2
          go_ret
          exact ⟨ret_bool (sameTs_not (k := k) (by rw [← HXK.out, ← HYK.out]; intro h; exact HQ.out (by rw [h]))).symm, _, World.drewN_drewN _ _ _⟩
      · go_wp2
        go_ret
        exact ⟨ret_bool (sameTs_all HL.out (by omega) HA.out).symm, nq, rfl⟩
  · have hlb : ((xs.length : Int) != (ys.length : Int)) = true := by simp; omega
    go_enter Tryz.func44, Tryz.ntmps44
    go_wp2
    go_ret
    exact ⟨ret_bool (sameTs_len hl).symm, 0, rfl⟩
set_option maxRecDepth 100000 in
set_option maxHeartbeats 1000000 in
theorem same_law (e f : Ev) (a1 a2 : Option Addr) (cap1 cap2 : Nat) (w : World) (h1 : Hid (TagsAt w a1 e.tags)) (h2 : Hid (TagsAt w a2 f.tags)) (hx : e.tags.length ≤ maxLen) (hy : f.tags.length ≤ maxLen) :
    Calls Tryz.prog 23 #[evVal e (.slice a1 e.tags.length cap1), evVal f (.slice a2 f.tags.length cap2)] w fun r w' => r = .returned (.bool (sameEv e f)) ∧ Below w.heap.size w w' := by
  obtain ⟨k, t, m, b, xs⟩ := e
  obtain ⟨k', t', m', b', ys⟩ := f
  simp only [evVal] at *
  have hS := sameTexts_law a1 a2 cap1 cap2 xs ys ((w.alloc (.cells #[.int .i64 k, .string t, .int .i64 m, .string b, .slice a1 xs.length cap1] 29)).alloc (.cells #[.int .i64 k', .string t', .int .i64 m', .string b', .slice a2 ys.length cap2] 29)) ((h1.out.alloc _).alloc _) ((h2.out.alloc _).alloc _) hx hy
  have HE : Hid (sameEv ⟨k, t, m, b, xs⟩ ⟨k', t', m', b', ys⟩ = (sameTs xs ys && (decide (k = k') && (decide (t = t') && (decide (m = m') && decide (b = b')))))) := rfl
  generalize sameTs xs ys = q at hS HE
  go_enter Tryz.func23, Tryz.ntmps23
  go_wp2_with fail
  refine hS.mono ?_
  rintro r w1 ⟨rfl, nq, rfl⟩
  have HB : Hid (Below w.heap.size w (((w.alloc (.cells #[.int .i64 k, .string t, .int .i64 m, .string b, .slice a1 xs.length cap1] 29)).alloc (.cells #[.int .i64 k', .string t', .int .i64 m', .string b', .slice a2 ys.length cap2] 29)).drewN nq)) := below_drewN (((Below.refl _ _).alloc (Nat.le_refl _) _).alloc (by simp) _) nq
  clear hS
  cases q
  · go_wp2
    go_ret
    exact ⟨ret_bool (by rw [HE.out]; rfl), HB.out⟩
  · by_cases hk : k = k'
    · subst hk
      have hkb : (k == k) = true := by simp
      by_cases ht : t.toList = t'.toList
      · have htb : (t.toList == t'.toList) = true := by simp [ht]
        have HT := hide0 (toList_inj ht)
        clear ht
        by_cases hm : m = m'
        · subst hm
          have hmb : (m == m) = true := by simp
          by_cases hb : b.toList = b'.toList
          · have hbb : (b.toList == b'.toList) = true := by simp [hb]
            have HBB := hide0 (toList_inj hb)
            clear hb
            go_wp2
            go_ret
            exact ⟨ret_bool (by rw [HE.out, HT.out, HBB.out]; simp), HB.out⟩
          · have hbb : (b.toList == b'.toList) = false := by simp [hb]
            have HBB : Hid (¬ b = b') := fun h => hb (by rw [h])
            clear hb
            go_wp2
            go_ret
            exact ⟨ret_bool (by rw [HE.out, decide_eq_false HBB.out]; simp), HB.out⟩
        · have hmb : (m == m') = false := by simp [hm]
          have HM := hide0 hm
          clear hm
          go_wp2
          go_ret
          exact ⟨ret_bool (by rw [HE.out, decide_eq_false HM.out]; simp), HB.out⟩
      · have htb : (t.toList == t'.toList) = false := by simp [ht]
        have HT : Hid (¬ t = t') := fun h => ht (by rw [h])
        clear ht
        go_wp2
        go_ret
        exact ⟨ret_bool (by rw [HE.out, decide_eq_false HT.out]; simp), HB.out⟩
    · have hkb : (k == k') = false := by simp [hk]
      have HK := hide0 hk
      clear hk
      go_wp2
      go_ret
      exact ⟨ret_bool (by rw [HE.out, decide_eq_false HK.out]; simp), HB.out⟩
end Go.Proofs.YtdjllnhahhjgmaaGreatDoor
namespace Go.Proofs.YtdjllnhahhjgmaaGreatDoor
open Go.RowKit Chron
def badT : ByteArray := ⟨#[116, 104, 101, 32, 99, 97, 108, 108, 101, 114, 39, 115, 32]⟩
theorem badTag_zero (w : World) : Calls Tryz.prog 28 #[.int .i64 0] w fun e w' => e = .returned (.string badT) ∧ w' = w := by
  go_enter Tryz.func28, Tryz.ntmps28
  go_wp2
  go_loop [0, 3] (fun i s => i = .int .i64 0 ∧ s = .string badT) (fun _ _ => 0)
  case atStart => exact ⟨rfl, rfl⟩
  case round =>
    obtain ⟨rfl, rfl⟩ := hrel
    go_wp2
    go_ret
    exact ⟨rfl, rfl⟩
/- all but some blocks is as it was -/
structure Far (w w' : World) (R : List (Option Nat)) : Prop where
  os : w'.os = w.os
  tape : w'.tape = w.tape
  output : w'.output = w.output
  size : w.heap.size ≤ w'.heap.size
  block : ∀ k, k < w.heap.size → (∀ r ∈ R, r ≠ some k) → w'.heap[k]? = w.heap[k]?
theorem Far.refl (w : World) (R : List (Option Nat)) : Far w w R := ⟨rfl, rfl, rfl, Nat.le_refl _, fun _ _ _ => rfl⟩
theorem Far.trans {R : List (Option Nat)} {a b c : World} (h : Far a b R) (k : Far b c R) : Far a c R :=
  ⟨k.os.trans h.os, k.tape.trans h.tape, k.output.trans h.output, Nat.le_trans h.size k.size, fun i hi hR => (k.block i (Nat.lt_of_lt_of_le hi h.size) hR).trans (h.block i hi hR)⟩
theorem Far.of_below {R : List (Option Nat)} {a b : World} {B : Nat} (h : Below B a b) (hB : a.heap.size ≤ B) : Far a b R := ⟨h.os, h.tape, h.output, h.size, fun k hk _ => h.block k (Nat.lt_of_lt_of_le hk hB)⟩
theorem Far.setCell {R : List (Option Nat)} {a b : World} (h : Far a b R) {p : Addr} (hp : some p.block ∈ R ∨ a.heap.size ≤ p.block) (u : Value) : Far a (b.setCell p u) R :=
  ⟨h.os, h.tape, h.output, by simpa [World.setCell] using h.size, fun k hk hR => by
    rw [Below.heap_setCell _ _ _ _ (by
      rintro rfl
      rcases hp with hp | hp
      · exact hR _ hp rfl
      · omega)]; exact h.block k hk hR⟩
theorem Far.alloc {R : List (Option Nat)} {a b : World} (h : Far a b R) (o : Obj) : Far a (b.alloc o) R :=
  h.trans (Far.of_below ((Below.refl _ _).alloc (Nat.le_refl _) o) (Nat.le_refl _))
theorem Far.grown {R : List (Option Nat)} {a b c : World} (h : Far a b R) {row : Option Nat} (hg : b.grownBy c row) (hr : ∀ q, row = some q → row ∈ R ∨ a.heap.size ≤ q) : Far a c R :=
  ⟨hg.os.trans h.os, hg.tape.trans h.tape, hg.output.trans h.output, Nat.le_trans h.size hg.size, fun k hk hR => by
    refine (hg.block k (Nat.lt_of_lt_of_le hk h.size) ?_).trans (h.block k hk hR)
    rintro e
    rcases hr k e.symm with hp | hp
    · exact hR _ hp e.symm
    · omega⟩
theorem Far.below {R : List (Option Nat)} {a b : World} (h : Far a b R) {B : Nat} (hB : B ≤ a.heap.size) (hr : ∀ q, some q ∈ R → B ≤ q) : Below B a b :=
  ⟨h.os, h.tape, h.output, h.size, fun k hk => h.block k (by omega) (fun r hR e => by subst e; have := hr k hR; omega)⟩
theorem loan_set {w : World} {b i : Nat} {x0 x1 x2 x3 x4 u : Value} {t : TypeId} (h : w.heap[b]? = some (.cells #[x0, x1, x2, x3, x4] t)) : (w.setCell ⟨b, i, none⟩ u).heap[b]? = some (.cells (#[x0, x1, x2, x3, x4].setIfInBounds i u) t) := by
  rw [setCell_eq_setRow w b i _ t (0, 0) u h, setRow_heap w b _ _ t (0, 0) h]
def lent (ts : List ByteArray) (j : Nat) : List Value := ts.map Value.string ++ (List.replicate j (.string badT) ++ List.replicate (8 - j) (.string ⟨#[]⟩))
theorem lent_len (ts : List ByteArray) {j : Nat} (hj : j ≤ 8) : (lent ts j).length = ts.length + 8 := by simp [lent]; omega
theorem lent_set (ts : List ByteArray) {j : Nat} (hj : j < 8) : (lent ts j).set (ts.length + j) (.string badT) = lent ts (j + 1) := by
  obtain ⟨m, hm⟩ : ∃ m, 8 - j = m + 1 := ⟨7 - j, by omega⟩
  have hm2 : 8 - (j + 1) = m := by omega
  have e : List.replicate (j + 1) (Value.string badT) = List.replicate j (.string badT) ++ [.string badT] := by rw [List.replicate_succ']
  rw [lent, lent, hm, hm2, e, List.set_append_right _ _ (by simp), List.set_append_right _ _ (by simp)]
  simp [List.replicate_succ]
theorem made_splice (ts : List ByteArray) : splice (List.replicate (ts.length + 8) (Value.string ⟨#[]⟩)) 0 (ts.map Value.string) = lent ts 0 := by
  simp [splice, lent]
theorem set_row {w : World} {g i : Nat} {L : List Value} {t : TypeId} {u : Value} (h : w.heap[g]? = some (.cells L.toArray t (0, 0))) : (w.setCell ⟨g, i, none⟩ u).heap[g]? = some (.cells (L.set i u).toArray t (0, 0)) := by
  rw [setCell_eq_setRow w g i L.toArray t (0, 0) u h, setRow_heap w g _ _ t (0, 0) h]
  simp
end Go.Proofs.YtdjllnhahhjgmaaGreatDoor
namespace Go.Proofs.YtdjllnhahhjgmaaGreatDoor
open Go.RowKit Chron
theorem infoText : (Tryz.prog.info? 9).map (fun i => (i.zero, i.size, i.bytes)) = some (some (.string ⟨#[]⟩), 1, 16) := by kernel_rfl
theorem infoTexts : (Tryz.prog.info? 22).map (fun i => (i.zero, i.size, i.bytes)) = some (some (.slice none 0 0), 1, 24) := by kernel_rfl
theorem infoInt : (Tryz.prog.info? 3).map (fun i => (i.zero, i.size, i.bytes)) = some (some (.int .i64 0), 1, 8) := by kernel_rfl
theorem sizeText : (Tryz.prog.info? 9).map (·.size) = some 1 := by kernel_rfl
theorem made_strings (n : Nat) : (madeCells (Value.string ⟨#[]⟩).cells (n * 1)).toList = List.replicate n (.string ⟨#[]⟩) := by
  apply List.ext_getElem
  · simp [madeCells]
  · intro i h1 h2
    simp [madeCells, Value.cells, Nat.mod_one]
theorem own_whole {w : World} {base : Nat} {e : TypeId} {g n : Nat} {xs : List Value} (h : w.ownsRow base e 1 (.slice (some ⟨g, 0, none⟩) n n) n xs) : w.heap[g]? = some (.cells xs.toArray e (0, 0)) := by
  rcases h.2 with ⟨h0, _⟩ | ⟨g', cap, cur, hv, hb, hg, h1, h2, h3, h4⟩
  · cases h0
  · simp only [Value.slice.injEq, Option.some.injEq, Addr.mk.injEq] at hv
    obtain ⟨⟨rfl, _⟩, _, rfl⟩ := hv
    rw [hg, ← h4, List.take_of_length_le (by simp; omega)]
structure OneAt (N : Nat) (w wx : World) (k : Int) (t : ByteArray) (m : Int) (b : ByteArray) (v : Value) (L : List Value) : Prop where
  box : wx.heap[N]? = some (.cells #[.int .i64 k, .string t, .int .i64 m, .string b, v] 29)
  res : wx.heap[N + 1]? = some (.cells #[.int .i64 0, .string ⟨#[]⟩, .int .i64 0, .string ⟨#[]⟩, .slice none 0 0] 29)
  row : wx.heap[N + 2]? = some (.cells L.toArray 9 (0, 0))
  bel : Below N w wx
  big : N + 3 ≤ wx.heap.size
theorem OneAt.below {N : Nat} {w wx wy : World} {k : Int} {t : ByteArray} {m : Int} {b : ByteArray} {v : Value} {L L' : List Value} (h : OneAt N w wx k t m b v L) (hb : Below (N + 2) wx wy) (hr : wy.heap[N + 2]? = some (.cells L'.toArray 9 (0, 0))) : OneAt N w wy k t m b v L' :=
  ⟨(hb.block N (by omega)).trans h.box, (hb.block (N + 1) (by omega)).trans h.res, hr, h.bel.trans (hb.mono (by omega)), Nat.le_trans h.big hb.size⟩
theorem OneAt.made {w w1 : World} {k : Int} {t : ByteArray} {m : Int} {b : ByteArray} {v : Value} {n : Nat}
    (hown : w1.ownsRow (w.heap.size + 2) 9 1 (.slice (some ⟨((w.alloc (.cells #[.int .i64 k, .string t, .int .i64 m, .string b, v] 29)).alloc (.cells #[.int .i64 0, .string ⟨#[]⟩, .int .i64 0, .string ⟨#[]⟩, .slice none 0 0] 29)).heap.size, 0, none⟩) n n) n (madeCells (Value.string ⟨#[]⟩).cells (n * 1)).toList)
    (hg : ((w.alloc (.cells #[.int .i64 k, .string t, .int .i64 m, .string b, v] 29)).alloc (.cells #[.int .i64 0, .string ⟨#[]⟩, .int .i64 0, .string ⟨#[]⟩, .slice none 0 0] 29)).grownBy w1 none) :
    OneAt w.heap.size w w1 k t m b v (List.replicate n (.string ⟨#[]⟩)) := by
  have hr := own_whole hown
  rw [made_strings] at hr
  simp only [World.size_alloc] at hr
  have hsz := hg.size
  simp only [World.size_alloc] at hsz
  have hlt := (Array.getElem?_eq_some_iff.1 hr).1
  refine ⟨?_, ?_, hr, ?_, by omega⟩
  · rw [hg.block w.heap.size (by simp only [World.size_alloc]; omega) (by simp), Below.heap_alloc _ _ _ (by simp)]; exact heap_alloc_new _ _
  · rw [hg.block (w.heap.size + 1) (by simp only [World.size_alloc]; omega) (by simp)]
    have := heap_alloc_new (w.alloc (.cells #[.int .i64 k, .string t, .int .i64 m, .string b, v] 29)) (.cells #[.int .i64 0, .string ⟨#[]⟩, .int .i64 0, .string ⟨#[]⟩, .slice none 0 0] 29)
    rw [World.size_alloc] at this; exact this
  · exact Below.grown (((Below.refl _ _).alloc (Nat.le_refl _) _).alloc (by simp) _) hg (by simp only [World.size_alloc]; omega) (fun q hq => by cases hq)
theorem row_cell {w : World} {g i : Nat} {L : List Value} {t : TypeId} (h : w.heap[g]? = some (.cells L.toArray t (0, 0))) (hi : i < L.length) : ∃ x, w.cell? ⟨g, i, none⟩ = some x ∧ w.frozen? ⟨g, i, none⟩ = false := by
  refine ⟨L[i], ?_, ?_⟩
  · simp [World.cell?, h, hi]
  · simp [World.frozen?, h]
theorem one_slice (a : Option Addr) (n c : Nat) : ∀ u ∈ [Value.slice a n c], u.oneCell' = true := fun u hu => by simp at hu; subst hu; rfl
theorem one_int (k : IntKind) (x : Int) : ∀ u ∈ [Value.int k x], u.oneCell' = true := fun u hu => by simp at hu; subst hu; rfl
/- behind the loop: what was there is as it was but for the loan -/
structure OneFar (N : Nat) (w wx : World) (R : List (Option Nat)) (k : Int) (t : ByteArray) (m : Int) (b : ByteArray) (v : Value) (L : List Value) : Prop where
  box : wx.heap[N]? = some (.cells #[.int .i64 k, .string t, .int .i64 m, .string b, v] 29)
  res : wx.heap[N + 1]? = some (.cells #[.int .i64 0, .string ⟨#[]⟩, .int .i64 0, .string ⟨#[]⟩, .slice none 0 0] 29)
  row : wx.heap[N + 2]? = some (.cells L.toArray 9 (0, 0))
  far : Far w wx R
  big : N + 3 ≤ wx.heap.size
  same : N = w.heap.size
theorem OneAt.far {N : Nat} {w wx : World} {k : Int} {t : ByteArray} {m : Int} {b : ByteArray} {v : Value} {L : List Value} (h : OneAt N w wx k t m b v L) (R : List (Option Nat)) (hN : N = w.heap.size) : OneFar N w wx R k t m b v L :=
  ⟨h.box, h.res, h.row, Far.of_below h.bel (by omega), h.big, hN⟩
theorem OneFar.grown {N : Nat} {w wx wy : World} {R : List (Option Nat)} {k : Int} {t : ByteArray} {m : Int} {b : ByteArray} {v : Value} {L : List Value} {row : Option Nat} {o : Obj} (h : OneFar N w wx R k t m b v L) (hg : (wx.alloc o).grownBy wy row) (hr : row ∈ R) (hlt : ∀ q, row = some q → q < N ∨ N + 3 ≤ q) : OneFar N w wy R k t m b v L := by
  have hbig := h.big
  have hs := hg.size
  rw [World.size_alloc] at hs
  have hblk : ∀ q, N ≤ q → q ≤ N + 2 → wy.heap[q]? = wx.heap[q]? := fun q h1 h2 => by
    rw [hg.block q (by rw [World.size_alloc]; omega) (fun e => by have := hlt q e.symm; omega), Below.heap_alloc _ _ _ (by omega)]
  exact ⟨(hblk _ (by omega) (by omega)).trans h.box, (hblk _ (by omega) (by omega)).trans h.res, (hblk _ (by omega) (by omega)).trans h.row, (h.far.alloc o).grown hg (fun _ _ => .inl hr), by omega, h.same⟩
theorem OneFar.set {N : Nat} {w wx : World} {R : List (Option Nat)} {k : Int} {t : ByteArray} {m : Int} {b : ByteArray} {v : Value} {L : List Value} {p : Addr} (h : OneFar N w wx R k t m b v L) (hp : p.block < N) (hR : some p.block ∈ R) (u : Value) : OneFar N w (wx.setCell p u) R k t m b v L := by
  have hblk : ∀ q, N ≤ q → (wx.setCell p u).heap[q]? = wx.heap[q]? := fun q h1 => Below.heap_setCell _ _ _ _ (by omega)
  exact ⟨(hblk _ (by omega)).trans h.box, (hblk _ (by omega)).trans h.res, (hblk _ (by omega)).trans h.row, h.far.setCell (.inl hR) u, by have := h.big; simpa [World.setCell] using this, h.same⟩
theorem cell_one_at (w : World) (v : Value) (t : TypeId) (N : Nat) (h : w.heap.size = N) : ∀ j u, [v][j]? = some u → (w.alloc (.cells #[v] t)).cell? ((⟨N, 0, none⟩ : Addr).add j) = some u := by
  subst h; exact cell_one_new w v t
theorem size_set (w : World) (p : Addr) (u : Value) : (w.setCell p u).heap.size = w.heap.size := by simp [World.setCell]
theorem le_alloc {w : World} {b : Nat} (o : Obj) (h : b < w.heap.size) : b + 1 ≤ (w.alloc o).heap.size := by rw [World.size_alloc]; omega
theorem at_far {tv : Value} {g N : Nat} {w : World} {o : Obj} (h : tv.ownBlock = some g ∨ g = (w.alloc o).heap.size) (hN : N + 2 < w.heap.size) : tv.ownBlock = some g ∨ N + 3 ≤ g :=
  h.imp id (fun e => by rw [World.size_alloc] at e; omega)
theorem own_of_block {w w' : World} {base : Nat} {e : TypeId} {size : Nat} {v : Value} {n : Nat} {xs : List Value} (h : w.ownsRow base e size v n xs) (hb : ∀ q, v.ownBlock = some q → w'.heap[q]? = w.heap[q]?) : w'.ownsRow base e size v n xs := by
  obtain ⟨h1, h2 | ⟨g, cap, cur, rfl, a2, a3, a4⟩⟩ := h
  · exact ⟨h1, .inl h2⟩
  · exact ⟨h1, .inr ⟨g, cap, cur, rfl, a2, (hb g rfl).trans a3, a4⟩⟩
theorem set6_other {w : World} {N q : Nat} {s x0 x1 x2 x3 x4 : Value} (h1 : ¬ q = N) (h2 : ¬ q = N + 1) :
    ((((((w.setCell ⟨N, 4, none⟩ s).setCell ⟨N + 1, 0, none⟩ x0).setCell ⟨N + 1, 1, none⟩ x1).setCell ⟨N + 1, 2, none⟩ x2).setCell ⟨N + 1, 3, none⟩ x3).setCell ⟨N + 1, 4, none⟩ x4).heap[q]? = w.heap[q]? := by
  rw [Below.heap_setCell _ _ _ _ h2, Below.heap_setCell _ _ _ _ h2, Below.heap_setCell _ _ _ _ h2, Below.heap_setCell _ _ _ _ h2, Below.heap_setCell _ _ _ _ h2, Below.heap_setCell _ _ _ _ h1]
theorem copy_pos {w w1 : World} {a : Option Addr} {ts : List ByteArray} {N : Nat} (ht : TagsAt w a ts) (hb : Below w.heap.size w w1) : 0 < (ts.map Value.string).length → (some (⟨N + 1 + 1, 0, none⟩ : Addr)) = some ⟨N + 2, 0, none⟩ ∧ ∃ ad, a = some ad ∧ ∀ j v, (ts.map Value.string)[j]? = some v → w1.cell? (ad.add j) = some v := by
  intro h0
  refine ⟨rfl, ?_⟩
  obtain ⟨q, off, rfl, hc⟩ := ht (by simpa using h0)
  refine ⟨_, rfl, fun j v hv => ?_⟩
  simp only [List.getElem?_map, Option.map_eq_some_iff] at hv
  obtain ⟨x, hx, rfl⟩ := hv
  have hj := (List.getElem?_eq_some_iff.1 hx).1
  have hcj := hc j hj
  rw [hx] at hcj
  have hlt := World.block_lt_of_cell? w _ hcj
  rw [show (⟨q, off, none⟩ : Addr).add j = ⟨q, off + j, none⟩ by simp [Addr.add], hb.cell (p := ⟨q, off + j, none⟩) hlt]; exact hcj
end Go.Proofs.YtdjllnhahhjgmaaGreatDoor
namespace Go.Proofs.YtdjllnhahhjgmaaGreatDoor
open Go.RowKit Chron
/- a callee that only reads, met behind draws -/
theorem quiet_more {P : Program} {f : FuncId} {args : Array Value} {w : World} {a n : Nat} {v : Value}
    (h : Calls P f args (w.drewN (a + n)) fun e w' => e = .returned v ∧ w' = w.drewN (a + n)) : Calls P f args (w.drewN (a + n)) fun e w'' => e = .returned v ∧ ∃ m, w'' = w.drewN (a + m) :=
  h.mono fun _ _ ⟨he, hm⟩ => ⟨he, n, hm⟩
theorem quiet_draws {P : Program} {f : FuncId} {args : Array Value} {w : World} {a n : Nat} {v : Value}
    (h : Calls P f args (w.drewN (a + n)) fun e w' => e = .returned v ∧ ∃ m, w' = (w.drewN (a + n)).drewN m) : Calls P f args (w.drewN (a + n)) fun e w'' => e = .returned v ∧ ∃ m, w'' = w.drewN (a + m) :=
  h.mono fun _ _ ⟨he, m, hm⟩ => ⟨he, n + m, by rw [hm, World.drewN_drewN, Nat.add_assoc]⟩
theorem row_at {w : World} {base : Nat} {e : TypeId} {v : Value} {n : Nat} {xs : List Value} (h : w.ownsRow base e 1 v n xs) : ∃ a cap, v = .slice a n cap ∧ n ≤ cap ∧ xs.length = n ∧ ∀ i x, xs[i]? = some x → ∃ g, a = some ⟨g, 0, none⟩ ∧ w.cell? ⟨g, i, none⟩ = some x := by
  obtain ⟨h1, ⟨rfl, rfl⟩ | ⟨g, cap, cur, rfl, a2, a3, a4, a5, a6, a7⟩⟩ := h
  · refine ⟨none, 0, rfl, Nat.le_refl _, by omega, fun i x hx => ?_⟩
    have := (List.getElem?_eq_some_iff.1 hx).1
    omega
  · refine ⟨some ⟨g, 0, none⟩, cap, rfl, a4, by omega, fun i x hx => ⟨g, rfl, ?_⟩⟩
    have hi := (List.getElem?_eq_some_iff.1 hx).1
    rw [← a7, List.getElem?_take_of_lt (by omega)] at hx
    simpa [World.cell?, a3] using hx
theorem sameAll_nil (w : World) : Calls Tryz.prog 7 #[.slice none 0 0, .slice none 0 0] w fun e w' => e = .returned (.bool true) ∧ w' = w := by
  go_enter Tryz.func7, Tryz.ntmps7
  go_wp2
  go_loop [5] (fun i => i = .int .i64 0) (fun _ => 0)
  case atStart => rfl
  case round =>
    subst hrel
    go_wp2
    go_ret
    exact ⟨rfl, rfl⟩
/- lists that were lent: where each lies, and how many places of it are the list's -/
def lentV (ls : List (Nat × Nat)) : List Value := ls.map fun p => .slice (some ⟨p.1, 0, none⟩) (p.2 + 8) (p.2 + 8)
def lentN (ls : List (Nat × Nat)) : List Value := ls.map fun p => .int .i64 p.2
def LentOk (ls : List (Nat × Nat)) (w : World) : Prop := ∀ i M n : Nat, ls[i]? = some (M, n) → n * 16 ≤ 140737488351232 ∧ ∀ q, n ≤ q → q < n + 8 → w.cell? ⟨M, q, none⟩ = some (.string badT)
end Go.Proofs.YtdjllnhahhjgmaaGreatDoor
namespace Go.Proofs.YtdjllnhahhjgmaaGreatDoor
open Go.RowKit Chron
def badF : Nat → Nat → List UInt8
  | 0, _ => []
  | f + 1, n => if n = 0 then [] else UInt8.ofNat (65 + n % 26) :: badF f (n / 26)
def badB (n : Nat) : ByteArray := ⟨(badT.data.toList ++ badF 14 n).toArray⟩
theorem badF_len (f n : Nat) : (badF f n).length ≤ f := by
  induction f generalizing n with
  | zero => simp [badF]
  | succ f ih => unfold badF; split
                 · simp
                 · have := ih (n / 26); simp; omega
theorem badF_more {f n : Nat} (h : 0 < n) : badF (f + 1) n = UInt8.ofNat (65 + n % 26) :: badF f (n / 26) := by rw [badF, if_neg (by omega)]
theorem badF_zero (f : Nat) : badF f 0 = [] := by cases f <;> simp [badF]
theorem append_one (s : ByteArray) (c : UInt8) : (s ++ ⟨#[c]⟩ : ByteArray).data.toList = s.data.toList ++ [c] := by obtain ⟨⟨s⟩⟩ := s; simp
theorem of_65 (k : Nat) : UInt8.ofNat (65 + k % 26) = 65 + UInt8.ofNat (k % 26) := by apply UInt8.toNat_inj.1; simp
theorem wrap_26 {k n : Nat} (h : n < 26 ^ 13) (hk : k ≤ n) : wrap64 ((k : Int) / 26) = ((k / 26 : Nat) : Int) := by
  have h2 : n < 9223372036854775807 := Nat.lt_of_lt_of_le h (by decide +kernel)
  rw [Chron.wrap_small (by omega) (by omega)]; omega
theorem div_26 {k n g : Nat} (h : k < 26 ^ (g + 1) ∧ k ≤ n) : k / 26 < 26 ^ g ∧ k / 26 ≤ n := by
  obtain ⟨h1, h2⟩ := h
  rw [Nat.pow_succ] at h1
  exact ⟨Nat.div_lt_of_lt_mul (by omega), by omega⟩
theorem pos_26 {k n f : Nat} (h : k < 26 ^ f ∧ k ≤ n) (hk : 0 < k) : ∃ g, f = g + 1 := by
  rcases f with _ | g
  · have := h.1; simp at this; omega
  · exact ⟨g, rfl⟩
theorem mod_26 (k : Nat) : 0 ≤ 65 + (k : Int) % 26 ∧ 65 + (k : Int) % 26 < 256 := by omega
theorem badB_start (n : Nat) : badT.data.toList ++ badF (13 + 1) n = (badB n).data.toList := by rw [badB]
theorem badT_size : badT.size + 13 ≤ 27 := by decide
theorem small_13 {n : Nat} (h : n < 26 ^ 13) : n < 9223372036854775807 := Nat.lt_of_lt_of_le h (by decide +kernel)
theorem wrap_28 {k : Int} {n : Nat} (h : n < 26 ^ 13) (h0 : 0 ≤ k) (hk : k.toNat ≤ n) : ∃ D : Int, wrap64 (k.tdiv 26) = D ∧ 0 ≤ D ∧ Hid (D.toNat = k.toNat / 26) := by
  have h2 := small_13 h
  exact ⟨k / 26, by rw [Int.tdiv_eq_ediv_of_nonneg h0]; exact Chron.wrap_small (by omega) (by omega), by omega, by show (k / 26).toNat = _; omega⟩
set_option maxRecDepth 100000 in
set_option maxHeartbeats 400000 in
theorem badTag_any (n : Int) (w : World) (h0 : 0 ≤ n) (hn : Hid (n.toNat < 26 ^ 13)) :
    Calls Tryz.prog 28 #[.int .i64 n] w fun e w' => e = .returned (.string (badB n.toNat)) ∧ Below w.heap.size w w' := by
  go_enter Tryz.func28, Tryz.ntmps28
  go_wp2
  go_loopw [0, 3] (fun i sv wx => ∃ (k : Int) (f : Nat) (s : ByteArray), 0 ≤ k ∧ i = .int .i64 k ∧ sv = .string s ∧ s.size + f ≤ 27 ∧ Hid (k.toNat < 26 ^ f ∧ k.toNat ≤ n.toNat) ∧ Hid (s.data.toList ++ badF (f + 1) k.toNat = (badB n.toNat).data.toList) ∧ Hid (Below w.heap.size w wx)) (fun i _ _ => (intOf i).toNat)
  case atStart => exact ⟨n, 13, badT, h0, rfl, rfl, badT_size, ⟨hn, Nat.le_refl _⟩, badB_start n.toNat, Below.refl _ _⟩
  case round =>
    obtain ⟨k, f, s, hk0, rfl, rfl, hf, HK, HS, HB⟩ := hrel
    by_cases hk : 0 < k
    · obtain ⟨g, rfl⟩ := pos_26 HK.out (by omega)
      obtain ⟨q, hq, hq0, hq1, HQ⟩ : ∃ q : Int, k % 26 = q ∧ 0 ≤ q ∧ q < 26 ∧ Hid (65 + k.toNat % 26 = (65 + q).toNat) := ⟨k % 26, rfl, by omega, by omega, by show 65 + k.toNat % 26 = (65 + k % 26).toNat; omega⟩
      obtain ⟨D, hD, hD0, HD⟩ := wrap_28 hn.out hk0 HK.out.2
      have hcv := conv_one (65 + q) (by omega) (by omega)
      have hsz := HB.out.size
      have HS2 := hide0 (HS.out)
      rw [badF_more (show 0 < k.toNat by omega), HQ.out, ← HD.out] at HS2
      have HD2 := hide0 (div_26 HK.out)
      rw [← HD.out] at HD2
      have HD3 : Hid (D.toNat < k.toNat) := by have := HD.out; show D.toNat < k.toNat; omega
      go_wp2
      go_roundw
      case rel =>
        refine ⟨D, g, _, hD0, by rw [hD], rfl, ?_, HD2, ?_, HB.out.alloc hsz _⟩
        · rw [ByteArray.size_append]; show s.size + 1 + g ≤ 27; omega
        · show _ = _
          rw [append_one, ← HS2.out, List.append_assoc]; rfl
      case measure => rw [hD]; exact HD3.out
    · have hk0 : k = 0 := by omega
      subst hk0
      have HE : Hid (s = badB n.toNat) := by
        apply bytes_inj; rw [← HS.out]; show _ = _ ++ badF (f + 1) 0; rw [badF_zero, List.append_nil]
      go_wp2
      go_ret
      exact ⟨ret_str HE.out, HB.out⟩
end Go.Proofs.YtdjllnhahhjgmaaGreatDoor
namespace Go.Proofs.YtdjllnhahhjgmaaGreatDoor
open Go.RowKit Chron
theorem own_set {w : World} {base g n cap i : Nat} {e : TypeId} {xs : List Value} {u : Value} (h : w.ownsRow base e 1 (.slice (some ⟨g, 0, none⟩) n cap) n xs) :
    (w.setCell ⟨g, i, none⟩ u).ownsRow base e 1 (.slice (some ⟨g, 0, none⟩) n cap) n (xs.set i u) := by
  obtain ⟨h1, ⟨h2, _⟩ | ⟨g', cap', cur, hv, a2, a3, a4, a5, a6, a7⟩⟩ := h
  · cases h2
  · cases hv
    refine ⟨by rw [List.length_set]; exact h1, .inr ⟨g, cap, cur.setIfInBounds i u, rfl, a2, ?_, a4, a5, by simpa using a6, ?_⟩⟩
    · rw [setCell_eq_setRow w g i cur e (0, 0) u a3, setRow_heap w g _ _ e (0, 0) a3]
    · rw [Array.toList_setIfInBounds, List.take_set, a7]
theorem set_other {w : World} {g i q : Nat} {u : Value} (h : q ≠ g) : (w.setCell ⟨g, i, none⟩ u).heap[q]? = w.heap[q]? := Below.heap_setCell _ _ _ _ h
/- where an append has put what it answers -/
def Lay (w w' : World) (v : Value) (g H : Nat) : Prop := (v.ownBlock = some g ∧ w.grownBy w' (some g)) ∨ (H ≤ g ∧ w.grownBy w' none)
theorem run_append_kept {P : Program} (w : World) (t ty : TypeId) (base : Nat) (e : TypeId) (i : TypeInfo) (z : Value) (bytes : Nat) (ht : P.underlying t = some (.slice e)) (hi : P.info? e = some i) (hz : i.zero = some z)
    (hsize : i.size = 1) (hby : i.bytes = bytes) (hzs : z.cells.size = 1)
    (v : Value) (n : Nat) (xs : List Value) (hown : w.ownsRow base e 1 v n xs)
    (ad : Addr) (m c : Nat) (news : List Value) (hl : news.length = m) (hnews : ∀ j u, news[j]? = some u → w.cell? (ad.add j) = some u) (h1 : ∀ u ∈ news, u.oneCell' = true)
    (hm : 0 < m) (h63 : n + m ≤ maxLen) (hbytes : (n + m) * bytes ≤ 140737488355328) (hbase : base ≤ w.heap.size) :
    ∃ g cap w', (Builtin.append_ #[t, t] ty #[v, .slice (some ad) m c]).run P w = .ok (.slice (some ⟨g, 0, none⟩) (n + m) cap) w' ∧
      w'.ownsRow base e 1 (.slice (some ⟨g, 0, none⟩) (n + m) cap) (n + m) (xs ++ news) ∧ w'.ownsRow base e 1 v n xs ∧ Lay w w' v g w.heap.size := by
  have hl' : news.length = m * 1 := by omega
  rcases hown.2 with ⟨rfl, rfl⟩ | ⟨g0, cap0, cur, rfl, a2, a3, a4, a5, a6, a7⟩
  · obtain ⟨g, cap, w', hr, h2, h3, h4, h5⟩ := run_append_lies (P := P) w t ty base e i z 1 bytes ht hi hz hsize hby hzs Nat.one_pos (.slice none 0 0) 0 xs hown ad m c news hl' hnews h1 hm h63 hbytes hbase w.heap.size rfl
    refine ⟨g, cap, w', hr, h2, ?_, .inr ⟨?_, h3⟩⟩
    · obtain rfl : xs = [] := List.eq_nil_of_length_eq_zero (by simpa using hown.1)
      exact World.ownsRow_nil _ _ _ _
    · rcases h4 with h4 | h4
      · cases h4
      · omega
  · by_cases hr : n + m ≤ cap0
    · obtain ⟨w', hrun, h2, h3⟩ := run_append_own_spare (P := P) w base t ty e i 1 ht hi hsize g0 n cap0 xs hown ad m c news hl' hnews h1 hr
      refine ⟨g0, cap0, w', hrun, h2, ?_, .inl ⟨rfl, h3⟩⟩
      obtain ⟨b1, ⟨b2, _⟩ | ⟨g', cap', cur', hv, c2, c3, c4, c5, c6, c7⟩⟩ := h2
      · cases b2
      · cases hv
        refine ⟨hown.1, .inr ⟨g0, cap0, cur', rfl, c2, c3, a4, c5, c6, ?_⟩⟩
        have hxl := hown.1
        have : (cur'.toList.take ((n + m) * 1)).take (n * 1) = (xs ++ news).take (n * 1) := by rw [c7]
        rw [List.take_take, Nat.min_eq_left (by omega)] at this
        rw [this, ← hxl, List.take_left]
    · have hxl := hown.1
      obtain ⟨v', w', hrun, h2, h3⟩ := run_append_arg_grows (P := P) w t ty e i z 1 bytes ht hi hz hsize hby hzs Nat.one_pos ⟨g0, 0, none⟩ n cap0 xs hxl (fun j u hu => by
        obtain ⟨a, cap, he, _, _, hc⟩ := row_at hown
        obtain ⟨g, rfl, hcell⟩ := hc j u hu
        cases he
        rw [Addr.add_lit, Nat.zero_add]; exact hcell) ad m c news hl' hnews (by omega) h63 hbytes
      obtain ⟨g, cap, rfl, hg1, hg2⟩ := h2.form (by omega)
      exact ⟨g, cap, w', hrun, own_mono h2 hbase, hown.kept (row := none) h3 (Classical.em _), .inr ⟨hg1, h3⟩⟩
theorem wpList_append_kept {P : Program} (w : World) {ops : Array Oper} {rest : List Oper} {o : Oper} {a : Act} {Q : Exit → Act → World → Prop} (hgd : o.guard = none) (s x : Operand) (t : TypeId)
    (ho : o.op = .call { callee := .builtin .append, args := #[s, x], argTypes := #[t, t] })
    (base : Nat) (e : TypeId) (i : TypeInfo) (z : Value) (bytes : Nat) (ht : P.underlying t = some (.slice e)) (hi : P.info? e = some i) (hz : i.zero = some z)
    (hsize : i.size = 1) (hby : i.bytes = bytes) (hzs : z.cells.size = 1)
    (v : Value) (n : Nat) (xs : List Value) (hs : a.eval s = v) (hown : w.ownsRow base e 1 v n xs)
    (ad : Addr) (m c : Nat) (news : List Value) (hx : a.eval x = .slice (some ad) m c) (hl : news.length = m) (hnews : ∀ j u, news[j]? = some u → w.cell? (ad.add j) = some u) (h1 : ∀ u ∈ news, u.oneCell' = true)
    (hm : 0 < m) (h63 : n + m ≤ maxLen) (hbytes : (n + m) * bytes ≤ 140737488355328) (hbase : base ≤ w.heap.size)
    (h : ∀ g cap w', w'.ownsRow base e 1 (.slice (some ⟨g, 0, none⟩) (n + m) cap) (n + m) (xs ++ news) → w'.ownsRow base e 1 v n xs → Lay w w' v g w.heap.size → wpList P ops Q rest (a.put o.dst (.slice (some ⟨g, 0, none⟩) (n + m) cap)) w') : wpList P ops Q (o :: rest) a w := by
  refine wpList_plain hgd fun K hK => ?_
  obtain ⟨g, cap, w', hr, h2, h3, h4⟩ := run_append_kept (P := P) w t o.type base e i z bytes ht hi hz hsize hby hzs v n xs hown ad m c news hl hnews h1 hm h63 hbytes hbase
  unfold Oper.wp execOp
  simp only [ho, resolve, invoke, builtin, Sem.run_bind, Sem.run_pure, Result.andThen_ok, List.map_toArray, List.map_cons, List.map_nil, hs, hx, hr]
  exact hK _ _ (h g cap w' h2 h3 h4)
/- a list that was written full, and lists that were made of it -/
structure Out (w : World) (B : Nat) (most : Nat) (m : ByteArray) (v : Value) (g : Nat) (no : Nat) (cap : Nat) : Prop where
  val : v = .slice (some ⟨g, 0, none⟩) no cap
  few : no ≤ most
  room : no ≤ cap
  base : B ≤ g
  lt : g < w.heap.size
  cells : ∀ j, j < no → w.cell? ⟨g, j, none⟩ = some (.string m)
structure Marks (w : World) (B : Nat) (l : Value) (n : Nat) (m : ByteArray) (outs : List Value) (k : Nat) : Prop where
  own : w.ownsRow B 9 1 l n (List.replicate n (.string m))
  outs : ∀ o ∈ outs, ∃ g no cap, Out w B (n + k) m o g no cap
theorem own_cells {w : World} {B g n cap : Nat} {e : TypeId} {u : Value} (h : w.ownsRow B e 1 (.slice (some ⟨g, 0, none⟩) n cap) n (List.replicate n u)) : n ≤ cap ∧ ∀ j, j < n → w.cell? ⟨g, j, none⟩ = some u := by
  obtain ⟨a, c, he, hc, _, hx⟩ := row_at h
  cases he
  refine ⟨hc, fun j hj => ?_⟩
  obtain ⟨g', he, hcell⟩ := hx j u (by simp [hj])
  cases he; exact hcell
theorem Marks.push {w wa : World} {B g cap n k j : Nat} {l : Value} {m : ByteArray} {outs : List Value} {o : Obj} (h : Marks w B l n m outs k) (hj : k ≤ j)
    (hnew : wa.ownsRow B 9 1 (.slice (some ⟨g, 0, none⟩) (n + j) cap) (n + j) (List.replicate n (.string m) ++ List.replicate j (.string m))) (hold : wa.ownsRow B 9 1 l n (List.replicate n (.string m)))
    (hlay : Lay (w.alloc o) wa l g (w.alloc o).heap.size) : Marks wa B l n m (outs ++ [.slice (some ⟨g, 0, none⟩) (n + j) cap]) j := by
  rw [List.replicate_append_replicate] at hnew
  obtain ⟨hcap, hcells⟩ := own_cells hnew
  have hg := hnew.lt g rfl
  refine ⟨hold, fun x hx => ?_⟩
  rcases List.mem_append.1 hx with hx | hx
  · obtain ⟨g1, no, c1, ho⟩ := h.outs x hx
    have hlt := ho.lt
    have hfew := ho.few
    have same : wa.heap[g1]? = (w.alloc o).heap[g1]? → ∀ q, q < no → wa.cell? ⟨g1, q, none⟩ = some (.string m) := fun he q hq => by
      rw [World.cell?_of_block (a := ⟨g1, q, none⟩) (he.trans (Below.heap_alloc _ _ _ hlt))]; exact ho.cells q hq
    have hsz : w.heap.size ≤ wa.heap.size := by
      have h1 : (w.alloc o).heap.size = w.heap.size + 1 := World.size_alloc _ _
      rcases hlay with ⟨_, hgr⟩ | ⟨_, hgr⟩ <;> (have := hgr.size; omega)
    refine ⟨g1, no, c1, ho.val, by omega, ho.room, ho.base, by omega, ?_⟩
    rcases hlay with ⟨_, hgr⟩ | ⟨_, hgr⟩
    · by_cases he : g1 = g
      · subst he; exact fun q hq => hcells q (by omega)
      · exact same (hgr.block g1 (by rw [World.size_alloc]; omega) (fun e => he (Option.some.inj e)))
    · exact same (hgr.block g1 (by rw [World.size_alloc]; omega) (fun e => by cases e))
  · simp only [List.mem_singleton] at hx
    subst hx
    exact ⟨g, n + j, cap, rfl, Nat.le_refl _, hcap, hg.1, hg.2, hcells⟩
end Go.Proofs.YtdjllnhahhjgmaaGreatDoor
namespace Chron
open Go Go.RowKit
theorem enc_len {v : Int} {e : Ev} (h : goesB v e = true) : (encB v e).1.length ≤ 1000 := by
  have hv := goes_ver h
  obtain ⟨_, _, ht, _, _, _, hb, hf, hl⟩ := is_known (goes_is h)
  rw [encB, if_neg (by simp [hv]), if_neg (by simp [h])]
  have h1 := text_len e.task.data.toList
  have h2 : e.task.data.toList.length = e.task.size := by simp
  have h3 : e.body.data.toList.length = e.body.size := by simp
  have h4 := front_len (e.kind - shift v).toNat e.task ht
  have h5 := timePart_len e.time
  have h6 := bodyPart_len e.body hb
  have h7 := tagParts_len e.tags hl
  split
  · simp only [letterB, List.cons_append, List.length_cons, List.length_append]; omega
  · simp only [fieldsB, List.length_append]; omega
theorem dec_few (v : Int) (s : List UInt8) : (decB v s).1.tags.length ≤ 4 := by
  unfold decB
  split
  · simp [zeroEv]
  · split
    · simp [zeroEv]
    · rename_i h; exact (is_known (rd_is (by simpa using h))).few
end Chron
namespace Go.Proofs.YtdjllnhahhjgmaaGreatDoor
open Go.RowKit Chron
/- an entry of the book -/
def Entry (w : World) (b : Nat) (tv : Value) (B : Nat) (m : ByteArray) (v : Value) : Prop :=
  v = .slice none 0 0 ∨ ∃ g no cap, Out w (b + 1) 7 m v g no cap ∧ tv.ownBlock ≠ some g ∧ g < B
structure BookAt (b : Nat) (tv : Value) (xs : List Value) (B : Nat) (w : World) : Prop where
  blk : w.heap[b]? = some (.cells #[tv, .slice none 0 0] 34)
  tags : w.ownsRow (b + 1) 22 1 tv xs.length xs
  full : ∀ i v, xs[i]? = some v → Entry w b tv B (badB (i / 4)) v
  lt : b < B
  own : ∀ q, tv.ownBlock = some q → q < B
  size : B ≤ w.heap.size
theorem Out.keep {w w' : World} {B C most : Nat} {m : ByteArray} {v : Value} {g no cap : Nat} (h : Out w B most m v g no cap) (hb : Below C w w') (hg : g < C) : Out w' B most m v g no cap := by
  obtain ⟨h1, h2, h3, h4, h5, h6⟩ := h
  exact ⟨h1, h2, h3, h4, Nat.lt_of_lt_of_le h5 hb.size, fun j hj => (hb.cell (p := ⟨g, j, none⟩) hg).trans (h6 j hj)⟩
theorem own_low {w w' : World} {base C : Nat} {e : TypeId} {v : Value} {n : Nat} {xs : List Value} (h : w.ownsRow base e 1 v n xs) (hb : Below C w w') (hv : ∀ q, v.ownBlock = some q → q < C) : w'.ownsRow base e 1 v n xs := by
  obtain ⟨h1, h2 | ⟨g, cap, cur, rfl, a2, a3, a4, a5, a6, a7⟩⟩ := h
  · exact ⟨h1, .inl h2⟩
  · exact ⟨h1, .inr ⟨g, cap, cur, rfl, a2, (hb.block g (hv g rfl)).trans a3, a4, a5, a6, a7⟩⟩
theorem BookAt.keep {b : Nat} {tv : Value} {xs : List Value} {B : Nat} {w w' : World} (h : BookAt b tv xs B w) (hb : Below B w w') : BookAt b tv xs B w' := by
  refine ⟨(hb.block b h.lt).trans h.blk, own_low h.tags hb h.own, fun i v hv => ?_, h.lt, h.own, Nat.le_trans h.size hb.size⟩
  rcases h.full i v hv with h1 | ⟨g, no, cap, h1, h2, h3⟩
  · exact .inl h1
  · exact .inr ⟨g, no, cap, h1.keep hb h3, h2, h3⟩
theorem BookAt.grow {b : Nat} {tv : Value} {xs : List Value} {B C : Nat} {w : World} (h : BookAt b tv xs B w) (h1 : B ≤ C) (h2 : C ≤ w.heap.size) : BookAt b tv xs C w := by
  refine ⟨h.blk, h.tags, fun i v hv => ?_, Nat.lt_of_lt_of_le h.lt h1, fun q hq => Nat.lt_of_lt_of_le (h.own q hq) h1, h2⟩
  rcases h.full i v hv with h3 | ⟨g, no, cap, h3, h4, h5⟩
  · exact .inl h3
  · exact .inr ⟨g, no, cap, h3, h4, Nat.lt_of_lt_of_le h5 h1⟩
theorem book_set {w : World} {b i : Nat} {x0 x1 u : Value} {t : TypeId} (h : w.heap[b]? = some (.cells #[x0, x1] t)) : (w.setCell ⟨b, i, none⟩ u).heap[b]? = some (.cells (#[x0, x1].setIfInBounds i u) t) := by
  rw [setCell_eq_setRow w b i _ t (0, 0) u h, setRow_heap w b _ _ t (0, 0) h]
/- four more entries -/
theorem BookAt.push {b : Nat} {tv : Value} {xs ys : List Value} {B g cap r : Nat} {w wa : World} {o : Obj} (h : BookAt b tv xs B w) (hx : xs.length = 4 * r) (hy : ys.length = 4)
    (hys : ∀ v ∈ ys, v = .slice none 0 0 ∨ ∃ g no cap, Out w B 7 (badB r) v g no cap)
    (hnew : wa.ownsRow (b + 1) 22 1 (.slice (some ⟨g, 0, none⟩) (xs.length + 4) cap) (xs.length + 4) (xs ++ ys)) (hlay : Lay (w.alloc o) wa tv g (w.alloc o).heap.size) :
    wa.heap[b]? = some (.cells #[tv, .slice none 0 0] 34) ∧
    BookAt b (.slice (some ⟨g, 0, none⟩) (xs.length + 4) cap) (xs ++ ys) wa.heap.size (wa.setCell ⟨b, 0, none⟩ (.slice (some ⟨g, 0, none⟩) (xs.length + 4) cap)) ∧ Below b w wa := by
  have hB := h.size
  have hbB := h.lt
  have hsa : (w.alloc o).heap.size = w.heap.size + 1 := World.size_alloc _ _
  have hsz : w.heap.size ≤ wa.heap.size := by
    rcases hlay with ⟨_, hgr⟩ | ⟨_, hgr⟩ <;> (have := hgr.size; omega)
  /- blocks other than tv's are as they were -/
  have hfar : ∀ q, q < w.heap.size → tv.ownBlock ≠ some q → wa.heap[q]? = w.heap[q]? ∧ q ≠ g := by
    intro q hq hne
    rcases hlay with ⟨h1, hgr⟩ | ⟨h1, hgr⟩
    · have hqg : q ≠ g := fun e => hne (by rw [e]; exact h1)
      exact ⟨(hgr.block q (by omega) (fun e => hqg (Option.some.inj e))).trans (Below.heap_alloc _ _ _ hq), hqg⟩
    · exact ⟨(hgr.block q (by omega) (fun e => by cases e)).trans (Below.heap_alloc _ _ _ hq), by omega⟩
  have hbt : tv.ownBlock ≠ some b := fun e => by have := (h.tags.lt b e).1; omega
  have hblk : wa.heap[b]? = some (.cells #[tv, .slice none 0 0] 34) := (hfar b (by omega) hbt).1.trans h.blk
  have hgl := hnew.lt g rfl
  have hent : ∀ (m : ByteArray) (v : Value) (B' : Nat), b + 1 ≤ B' → (∃ g no cap, Out w B' 7 m v g no cap ∧ tv.ownBlock ≠ some g) → Entry (wa.setCell ⟨b, 0, none⟩ (.slice (some ⟨g, 0, none⟩) (xs.length + 4) cap)) b (.slice (some ⟨g, 0, none⟩) (xs.length + 4) cap) wa.heap.size m v := by
    rintro m v B' hB' ⟨g1, no, c1, ⟨o1, o2, o3, o4, o5, o6⟩, hne⟩
    obtain ⟨hs, hg1⟩ := hfar g1 o5 hne
    have hne2 : g1 ≠ b := by omega
    refine .inr ⟨g1, no, c1, ⟨o1, o2, o3, by omega, by rw [size_set]; omega, fun j hj => ?_⟩, fun e => hg1 (Option.some.inj e).symm, by omega⟩
    rw [World.cell?_of_block (a := ⟨g1, j, none⟩) ((set_other hne2).trans hs)]; exact o6 j hj
  refine ⟨hblk, ⟨book_set hblk, ?_, ?_, by omega, ?_, by rw [size_set]; exact Nat.le_refl _⟩, ?_⟩
  · have hl2 : (xs ++ ys).length = xs.length + 4 := by rw [List.length_append, hy]
    rw [hl2]; exact ownsRow_setCell_below hnew (Nat.lt_succ_self _) _
  · intro i v hv
    by_cases hi : i < xs.length
    · rw [List.getElem?_append_left hi] at hv
      rcases h.full i v hv with h1 | ⟨g1, no, c1, h1, h2, _⟩
      · exact .inl h1
      · exact hent _ v (b + 1) (Nat.le_refl _) ⟨g1, no, c1, h1, h2⟩
    · rw [List.getElem?_append_right (by omega)] at hv
      have hi2 := (List.getElem?_eq_some_iff.1 hv).1
      have hm : i / 4 = r := by omega
      rw [hm]
      rcases hys v (List.mem_of_getElem? hv) with h1 | ⟨g1, no, c1, h1⟩
      · exact .inl h1
      · exact hent _ v B (by omega) ⟨g1, no, c1, h1, fun e => by have := h.own g1 e; have := h1.base; omega⟩
  · intro q hq
    simp only [Value.ownBlock, Option.some.injEq] at hq
    omega
  · have hos : wa.os = w.os ∧ wa.tape = w.tape ∧ wa.output = w.output := by
      rcases hlay with ⟨_, hgr⟩ | ⟨_, hgr⟩ <;> exact ⟨hgr.os, hgr.tape, hgr.output⟩
    exact ⟨hos.1, hos.2.1, hos.2.2, hsz, fun q hq => (hfar q (by omega) (fun e => by have := (h.tags.lt q e).1; omega)).1⟩
end Go.Proofs.YtdjllnhahhjgmaaGreatDoor
namespace Go.Proofs.YtdjllnhahhjgmaaGreatDoor
open Go.RowKit Chron
def firstB : ByteArray := ⟨#[1, 2, 2, 1, 116, 3, 172, 2, 4, 2, 104, 105, 5, 1, 97]⟩
theorem first_enc : encB 3 ⟨2, ⟨#[116]⟩, 300, ⟨#[104, 105]⟩, [⟨#[97]⟩]⟩ = ([1, 2, 2, 1, 116, 3, 172, 2, 4, 2, 104, 105, 5, 1, 97], 0) := by decide +kernel
def mix (ts us : List ByteArray) : List ByteArray := us.take ts.length ++ ts.drop us.length
theorem mix_len (ts us : List ByteArray) : (mix ts us).length = ts.length := by simp [mix]; omega
theorem mix_lt {ts us : List ByteArray} {i : Nat} (hi : i < ts.length) (hu : i < us.length) : (mix ts us)[i]? = us[i]? := by
  rw [mix, List.getElem?_append_left (by simp; omega), List.getElem?_take_of_lt hi]
theorem mix_ge {ts us : List ByteArray} {i : Nat} (hi : i < ts.length) (hu : us.length ≤ i) : (mix ts us)[i]? = ts[i]? := by
  rw [mix, List.getElem?_append_right (by simp; omega), List.getElem?_drop]
  congr 1
  simp; omega
theorem mix_short {ts us : List ByteArray} (h1 : Short ts) (h2 : Short us) : Short (mix ts us) := by
  intro i hi
  rw [mix_len] at hi
  rcases Nat.lt_or_ge i us.length with hu | hu
  · rw [mix_lt hi hu]; exact h2 i hu
  · rw [mix_ge hi hu]; exact h1 i hi
def half (zs ts : List ByteArray) (i : Nat) : List ByteArray := zs.take i ++ ts.drop i
theorem half_len {zs ts : List ByteArray} {i : Nat} (h : zs.length = ts.length) (hi : i ≤ ts.length) : (half zs ts i).length = ts.length := by simp [half]; omega
theorem half_zero (zs ts : List ByteArray) : half zs ts 0 = ts := by simp [half]
theorem half_all {zs ts : List ByteArray} (h : zs.length = ts.length) : half zs ts ts.length = zs := by
  rw [half, List.drop_length, List.append_nil, List.take_of_length_le (by omega)]
theorem half_at {zs ts : List ByteArray} {i : Nat} (h : zs.length = ts.length) (hi : i < ts.length) : (half zs ts i)[i]? = ts[i]? := by
  rw [half, List.getElem?_append_right (by simp; omega), List.getElem?_drop]
  congr 1
  simp; omega
theorem half_succ {zs ts : List ByteArray} {i : Nat} (h : zs.length = ts.length) (hi : i < ts.length) {x : ByteArray} (hx : zs[i]? = some x) : (half zs ts i).set i x = half zs ts (i + 1) := by
  have hz : i < zs.length := by omega
  have hx' : zs[i] = x := by rw [List.getElem?_eq_getElem hz] at hx; exact Option.some.inj hx
  have e1 : zs.take (i + 1) = zs.take i ++ [x] := by rw [← hx', List.take_succ_eq_append_getElem hz]
  have e2 : ts.drop i = ts[i] :: ts.drop (i + 1) := List.drop_eq_getElem_cons hi
  rw [half, half, e1, e2, List.set_append_right _ _ (by simp; omega)]
  have e3 : i - (zs.take i).length = 0 := by simp; omega
  rw [e3, List.append_assoc]; rfl
theorem half_now {zs ts : List ByteArray} {i : Nat} (h : zs.length = ts.length) (hi : i < ts.length) : (half zs ts (i + 1))[i]? = zs[i]? := by
  rw [half, List.getElem?_append_left (by simp; omega), List.getElem?_take_of_lt (by omega)]
theorem half_same {zs ts : List ByteArray} {i : Nat} (h : zs.length = ts.length) (hi : i < ts.length) (he : zs[i]? = ts[i]?) : half zs ts (i + 1) = half zs ts i := by
  rw [← half_succ (x := ts[i]) h hi (by rw [he, List.getElem?_eq_getElem hi])]
  have hl : i < (half zs ts i).length := by rw [half_len h (by omega)]; exact hi
  have : (half zs ts i)[i] = ts[i] := by
    have := half_at h hi
    rw [List.getElem?_eq_getElem hl, List.getElem?_eq_getElem hi] at this
    exact Option.some.inj this
  rw [← this, List.set_getElem_self]
theorem lent_put (l : List ByteArray) {i : Nat} (hi : i < l.length) (x : ByteArray) : (lent l 8).set i (.string x) = lent (l.set i x) 8 := by
  rw [lent, lent, List.set_append_left _ _ (by simpa using hi), List.map_set]
theorem lent_cell {w : World} {M : Nat} {l : List ByteArray} (h : w.heap[M]? = some (.cells (lent l 8).toArray 9 (0, 0))) {i : Nat} {x : ByteArray} (hx : l[i]? = some x) : w.cell? ⟨M, i, none⟩ = some (.string x) := by
  have hi := (List.getElem?_eq_some_iff.1 hx).1
  have : (lent l 8)[i]? = some (.string x) := by rw [lent, List.getElem?_append_left (by simpa using hi), List.getElem?_map, hx]; rfl
  simpa [World.cell?, h] using this
theorem lent_tags {w : World} {M : Nat} {l : List ByteArray} (h : w.heap[M]? = some (.cells (lent l 8).toArray 9 (0, 0))) : TagsAt w (some ⟨M, 0, none⟩) l := by
  intro _
  refine ⟨M, 0, rfl, fun i hi => ?_⟩
  rw [Nat.zero_add]
  exact lent_cell h (by rw [List.getElem?_eq_getElem hi]; rfl)
theorem lent_ok {w : World} {M : Nat} {l : List ByteArray} (h : w.heap[M]? = some (.cells (lent l 8).toArray 9 (0, 0))) (hl : l.length * 16 ≤ 140737488351232) : LentOk [(M, l.length)] w := by
  intro i M' n hi
  cases i with
  | zero =>
    simp at hi
    obtain ⟨rfl, rfl⟩ := hi
    refine ⟨hl, fun q h1 h2 => ?_⟩
    have : (lent l 8)[q]? = some (.string badT) := by
      rw [lent, List.getElem?_append_right (by simpa using h1), List.getElem?_append_left (by simp; omega), List.getElem?_replicate, if_pos (by simp; omega)]
    simpa [World.cell?, h] using this
  | succ j => simp at hi
theorem one_tag {w : World} {s : ByteArray} : TagsAt (w.alloc (.cells #[.string s] 9)) (some ⟨w.heap.size, 0, none⟩) [s] := by
  intro _
  refine ⟨w.heap.size, 0, rfl, fun i hi => ?_⟩
  have : i = 0 := by simpa using hi
  subst this
  exact cell_one_new w (.string s) 9 0 _ rfl
theorem own_tags {w : World} {base : Nat} {v : Value} {l : List ByteArray} (h : w.ownsRow base 9 1 v l.length (l.map Value.string)) : ∃ a cap, v = .slice a l.length cap ∧ TagsAt w a l := by
  obtain ⟨a, cap, rfl, _, _, hc⟩ := row_at h
  refine ⟨a, cap, rfl, fun h0 => ?_⟩
  obtain ⟨g, rfl, _⟩ := hc 0 (.string l[0]) (by simp [h0])
  refine ⟨g, 0, rfl, fun i hi => ?_⟩
  obtain ⟨g', e, hx⟩ := hc i (.string l[i]) (by simp [hi])
  simp only [Option.some.injEq, Addr.mk.injEq] at e
  obtain ⟨rfl, _⟩ := e
  rw [Nat.zero_add, hx, List.getElem?_eq_getElem hi]; rfl
end Go.Proofs.YtdjllnhahhjgmaaGreatDoor
