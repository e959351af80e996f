/- Walks and plain facts, in the order in which they lean on one another. -/
import Derived.Test.YtdjllnhahhjgmabW02
import Derived.Test.YtdjllnhahhjgmabW03
import Derived.Laws.CopyOwn
import Derived.Deep.AppendLies
import Derived.Test.YtdjllnhahhjgmabW01
import Derived.RangeFuncNested
import Derived.RangeFuncBound
import Derived.RangeFuncCalls
import Derived.RangeFuncLeaves
import Derived.Shelf.Abstract
import Derived.Shelf.RegionOpen
import Derived.WalkKit
import Derived.OwnWalkIn
import Derived.TacticsInMore
import Derived.LoopNIn
import Derived.LoopIn
import Derived.Lib.ItoaNum
namespace Go.Proofs.Ytdjllnhahhjgmab
open Go.RowKit Chron
theorem conv_blk (x : Int) (h0 : 0 ≤ x) (h1 : x < 256) (X : World) (b : Nat) (hX : X.heap[b]? = some (.cells #[.int .u8 x] 5)) :
    (convert 46 9 (.slice (some ⟨b, 0, none⟩) 1 1)).run Try.prog X = .ok (.string ⟨#[UInt8.ofNat x.toNat]⟩) X := by
  refine run_convert_bytes_back X _ _ 5 ⟨b, 0, none⟩ 1 [UInt8.ofNat x.toNat] Try.underlying46 Try.underlying5 Try.underlying9 ?_
  intro j hj
  have hj0 : j = 0 := by simpa using hj
  subst hj0
  simp [World.cell?, Addr.add, hX]
  omega
def fitsR (v k : Int) (t : ByteArray) (m : Int) (n : Nat) : Bool := if v = 3 then true else if v = 2 then decide (n = 0) else (decide (n = 0) && (decide (m = 0) && (decide (k ≠ 4) && !dashB t)))
theorem fitsR_eq {v : Int} {e : Ev} (h : isVer v = true) : fitsR v e.kind e.task e.time e.tags.length = fitsB v e := by
  simp [isVer] at h
  have : v = 1 ∨ v = 2 ∨ v = 3 := by omega
  have hz : decide (e.tags.length = 0) = !decide (0 < e.tags.length) := by
    by_cases h0 : e.tags.length = 0 <;> simp [h0]; omega
  rcases this with rfl | rfl | rfl
  · simp only [fitsR, fitsB]; rw [if_neg (by omega), if_neg (by omega), hz]; simp
  · simp only [fitsR, fitsB]; rw [if_neg (by omega), if_pos trivial, hz]; simp
  · simp [fitsR, fitsB]
theorem fitsR_three {v k : Int} {t : ByteArray} {m : Int} {n : Nat} (h : (v == 3) = true) : fitsR v k t m n = true := by simp at h; simp [fitsR, h]
theorem fitsR_two {v k : Int} {t : ByteArray} {m : Int} {n : Nat} (h3 : (v == 3) = false) (h : (v == 2) = true) : fitsR v k t m n = ((n : Int) == 0) := by
  simp at h h3; rw [fitsR, if_neg h3, if_pos h, Bool.eq_iff_iff]; simp
theorem fitsR_one {v k : Int} {t : ByteArray} {m : Int} {n : Nat} (h3 : (v == 3) = false) (h : (v == 2) = false) : fitsR v k t m n = (((n : Int) == 0) && ((m == 0) && ((k != 4) && !(t.toList == [45])))) := by
  simp at h h3; rw [fitsR, if_neg h3, if_neg h, dashB, Bool.eq_iff_iff]; simp
end Go.Proofs.Ytdjllnhahhjgmab
namespace Go.Proofs.Ytdjllnhahhjgmab
open Go.RowKit Chron
theorem bytesLess_not : ∀ x y : List UInt8, (Op.bytesLess x y || x == y) = !Op.bytesLess y x
  | [], [] => rfl
  | [], _ :: _ => rfl
  | _ :: _, [] => rfl
  | a :: x, b :: y => by
    have ih := bytesLess_not x y
    simp only [Op.bytesLess]
    rcases Nat.lt_trichotomy a.toNat b.toNat with h | h | h
    · have h1 : a < b := UInt8.lt_iff_toNat_lt.2 h
      have h2 : ¬ b < a := fun h' => by have := UInt8.lt_iff_toNat_lt.1 h'; omega
      have h3 : ¬ b = a := fun h' => by subst h'; omega
      have h4 : ¬ a = b := fun h' => h3 h'.symm
      simp [h1, h2, h3]
    · have h1 : a = b := UInt8.toNat_inj.1 h
      subst h1
      have h2 : ¬ a < a := fun h' => by have := UInt8.lt_iff_toNat_lt.1 h'; omega
      have e : (a :: x == a :: y) = (x == y) := by simp
      simp only [h2, e]
      simpa using ih
    · have h1 : b < a := UInt8.lt_iff_toNat_lt.2 h
      have h2 : ¬ a < b := fun h' => by have := UInt8.lt_iff_toNat_lt.1 h'; omega
      have h3 : ¬ a = b := fun h' => by subst h'; omega
      simp [h1, h2, h3]
def frontR (k : Int) (t : ByteArray) (m : Int) (b : ByteArray) (n : Nat) : Bool :=
  lineB t && (lineB b && (!t.toList.isEmpty && (decide (1 ≤ k) && (decide (k ≤ 4) && (decide (0 ≤ m) && (decide (m ≤ 1125899906842624) && decide (n ≤ 4)))))))
theorem isB_front {k : Int} {t : ByteArray} {m : Int} {b : ByteArray} {ts : List ByteArray} (h : frontR k t m b ts.length = false) : isB ⟨k, t, m, b, ts⟩ = false := by
  rw [Bool.eq_false_iff] at h ⊢
  intro hi
  apply h
  simp only [isB, nameB, tagsB, frontR, Bool.and_eq_true, decide_eq_true_eq] at hi ⊢
  obtain ⟨h1, h2, ⟨h3, h4⟩, h5, h6, h7, h8, _⟩ := hi
  exact ⟨h4, h7, h3, h1, h2, h5, h6, h8⟩
theorem isB_tags {k : Int} {t : ByteArray} {m : Int} {b : ByteArray} {ts : List ByteArray} (h : frontR k t m b ts.length = true) : isB ⟨k, t, m, b, ts⟩ = tagsB ts := by
  simp only [isB, nameB, frontR, Bool.and_eq_true, decide_eq_true_eq] at h ⊢
  obtain ⟨h4, h7, h3, h1, h2, h5, h6, _⟩ := h
  simp only [h1, h2, h3, h4, h5, h6, h7]; simp
end Go.Proofs.Ytdjllnhahhjgmab
namespace Go.Proofs.Ytdjllnhahhjgmab
open Go.RowKit Chron
theorem refLetter_eq {e b : ByteArray} {c : UInt8} {x : List UInt8} (he : e.data.toList = [c]) : e ++ ⟨x.toArray⟩ ++ b = ⟨(c :: x ++ b.data.toList).toArray⟩ := letter_eq he
theorem refFront_eq (j : Nat) (t : ByteArray) : (⟨#[1]⟩ ++ ⟨(num j).toArray⟩ ++ ⟨#[2]⟩ ++ ⟨(text t.data.toList).toArray⟩ : ByteArray) = ⟨(front j t).toArray⟩ := by
  apply bytes_inj
  have h1 : num 1 = [1] := rfl
  have h2 : num 2 = [2] := rfl
  simp [front, h1, h2]
theorem mk_push (l : List UInt8) (c : UInt8) (x : List UInt8) : (⟨l.toArray⟩ ++ ⟨#[c]⟩ ++ ⟨x.toArray⟩ : ByteArray) = ⟨(l ++ (c :: x)).toArray⟩ := by
  apply bytes_inj; simp
end Go.Proofs.Ytdjllnhahhjgmab
namespace Go.Proofs.Ytdjllnhahhjgmab
open Go.RowKit Chron
end Go.Proofs.Ytdjllnhahhjgmab
namespace Go.Proofs.Ytdjllnhahhjgmab
open Go.RowKit Chron
def sameTs (xs ys : List ByteArray) : Bool := decide (xs = ys)
def sameEv (e f : Ev) : Bool := sameTs e.tags f.tags && (decide (e.kind = f.kind) && (decide (e.task = f.task) && (decide (e.time = f.time) && decide (e.body = f.body))))
theorem sameEv_iff {e f : Ev} : sameEv e f = true ↔ e = f := by
  obtain ⟨a, b, c, d, g⟩ := e; obtain ⟨a', b', c', d', g'⟩ := f
  simp only [sameEv, sameTs, Bool.and_eq_true, decide_eq_true_eq, Ev.mk.injEq]
  constructor
  · rintro ⟨h1, h2, h3, h4, h5⟩; exact ⟨h2, h3, h4, h5, h1⟩
  · rintro ⟨h2, h3, h4, h5, h1⟩; exact ⟨h1, h2, h3, h4, h5⟩
theorem toList_inj {a b : ByteArray} (h : a.toList = b.toList) : a = b := by
  rw [ByteArray.toList_eq, ByteArray.toList_eq] at h; exact bytes_inj h
theorem sameTs_len {xs ys : List ByteArray} (h : ¬ xs.length = ys.length) : sameTs xs ys = false := by
  simp only [sameTs, decide_eq_false_iff_not]; rintro rfl; exact h rfl
theorem sameTs_all {xs ys : List ByteArray} {k : Nat} (hl : xs.length = ys.length) (hk : xs.length ≤ k) (h : ∀ j, j < k → j < xs.length → xs[j]?.getD ByteArray.empty = ys[j]?.getD ByteArray.empty) : sameTs xs ys = true := by
  simp only [sameTs, decide_eq_true_eq]
  apply List.ext_getElem hl
  intro i h1 h2
  have := h i (by omega) h1
  rw [List.getElem?_eq_getElem h1, List.getElem?_eq_getElem h2] at this
  exact this
theorem sameTs_not {xs ys : List ByteArray} {k : Nat} (h : ¬ xs[k]?.getD ByteArray.empty = ys[k]?.getD ByteArray.empty) : sameTs xs ys = false := by
  simp only [sameTs, decide_eq_false_iff_not]; rintro rfl; exact h rfl
set_option maxRecDepth 100000 in
set_option maxHeartbeats 400000 in
theorem sameTexts_keep (a1 a2 : Option Addr) (cap1 cap2 : Nat) (xs ys : List ByteArray) (w : World) (h1 : Hid (TagsAt w a1 xs)) (h2 : Hid (TagsAt w a2 ys)) (hx : xs.length ≤ maxLen) (_hy : ys.length ≤ maxLen) :
    Calls Try.prog 22 #[.slice a1 xs.length cap1, .slice a2 ys.length cap2] w fun e w' => e = .returned (.bool (sameTs xs ys)) ∧ ∃ nq, w' = w.drewN nq := by
  unfold maxLen at hx _hy
  by_cases hl : xs.length = ys.length
  · have hlb : ((xs.length : Int) != (ys.length : Int)) = false := by simp [hl]
    have HL := hide0 hl
    have hly : xs.length ≤ ys.length := by omega
    have hyl : ys.length ≤ xs.length := by omega
    clear hl
    go_enter Try.func22, Try.ntmps22
    go_wp2
    go_loopw [5] (fun i wx => ∃ (k nq : Nat), k ≤ xs.length ∧ i = .int .i64 k ∧ wx = w.drewN nq ∧ Hid (∀ j, j < k → j < xs.length → xs[j]?.getD ByteArray.empty = ys[j]?.getD ByteArray.empty)) (fun i _ => xs.length - (intOf i).toNat)
    case atStart => exact ⟨0, 0, Nat.zero_le _, rfl, rfl, fun j hj => by omega⟩
    case round =>
      obtain ⟨k, nq, hk, rfl, rfl, HA⟩ := hrel
      by_cases hlt : k < xs.length
      · obtain ⟨b1, o1, rfl, hc1⟩ := h1.out (by omega)
        obtain ⟨b2, o2, rfl, hc2⟩ := h2.out (by omega)
        have e1 := hc1 k hlt
        have e2 := hc2 k (by omega)
        have HX : Hid (xs[k]?.getD ByteArray.empty = xs[k]?.getD ByteArray.empty ∧ ys[k]?.getD ByteArray.empty = ys[k]?.getD ByteArray.empty) := ⟨rfl, rfl⟩
        obtain ⟨x, hxk⟩ : ∃ x, x = xs[k]?.getD ByteArray.empty := ⟨_, rfl⟩
        obtain ⟨y, hyk⟩ : ∃ y, y = ys[k]?.getD ByteArray.empty := ⟨_, rfl⟩
        rw [← hxk] at e1
        rw [← hyk] at e2
        have HXK := hide0 hxk
        have HYK := hide0 hyk
        clear hc1 hc2 hxk hyk HX
        have i1 : (k : Int) < (xs.length : Int) := by omega
        have i2 : (k : Int) < (ys.length : Int) := by omega
        by_cases hq : x.toList = y.toList
        · have hqb : (x.toList == y.toList) = true := by simp [hq]
          have HQ := hide0 (toList_inj hq)
          clear hq
          go_wp2_with fail
          go_quiet (fail)
          go_wp2
          go_roundw
          case rel => exact ⟨k + 1, _, by omega, by go_num, rfl, fun j hj hjl => by
            rcases Nat.lt_or_ge j k with hj2 | hj2
            · exact HA.out j hj2 hjl
            · rw [show j = k by omega, ← HXK.out, ← HYK.out]; exact HQ.out⟩
          case measure => simp [intOf]; omega
        · have hqb : (x.toList == y.toList) = false := by simp [hq]
          have HQ := hide0 hq
          clear hq
          go_wp2_with fail
          go_quiet (fail)
          go_wp2
          go_ret
          exact ⟨ret_bool (sameTs_not (k := k) (by rw [← HXK.out, ← HYK.out]; intro h; exact HQ.out (by rw [h]))).symm, _, World.drewN_drewN _ _ _⟩
      · go_wp2
        go_ret
        exact ⟨ret_bool (sameTs_all HL.out (by omega) HA.out).symm, nq, rfl⟩
  · have hlb : ((xs.length : Int) != (ys.length : Int)) = true := by simp; omega
    go_enter Try.func22, Try.ntmps22
    go_wp2
    go_ret
    exact ⟨ret_bool (sameTs_len hl).symm, 0, rfl⟩
set_option maxRecDepth 100000 in
set_option maxHeartbeats 1000000 in
theorem same_keep (e f : Ev) (a1 a2 : Option Addr) (cap1 cap2 : Nat) (w : World) (h1 : Hid (TagsAt w a1 e.tags)) (h2 : Hid (TagsAt w a2 f.tags)) (hx : e.tags.length ≤ maxLen) (hy : f.tags.length ≤ maxLen) :
    Calls Try.prog 11 #[evVal e (.slice a1 e.tags.length cap1), evVal f (.slice a2 f.tags.length cap2)] w fun r w' => r = .returned (.bool (sameEv e f)) ∧ Below w.heap.size w w' := by
  obtain ⟨k, t, m, b, xs⟩ := e
  obtain ⟨k', t', m', b', ys⟩ := f
  simp only [evVal] at *
  have hS := sameTexts_keep a1 a2 cap1 cap2 xs ys ((w.alloc (.cells #[.int .i64 k, .string t, .int .i64 m, .string b, .slice a1 xs.length cap1] 36)).alloc (.cells #[.int .i64 k', .string t', .int .i64 m', .string b', .slice a2 ys.length cap2] 36)) ((h1.out.alloc _).alloc _) ((h2.out.alloc _).alloc _) hx hy
  have HE : Hid (sameEv ⟨k, t, m, b, xs⟩ ⟨k', t', m', b', ys⟩ = (sameTs xs ys && (decide (k = k') && (decide (t = t') && (decide (m = m') && decide (b = b')))))) := rfl
  generalize sameTs xs ys = q at hS HE
  go_enter Try.func11, Try.ntmps11
  go_wp2_with fail
  refine hS.mono ?_
  rintro r w1 ⟨rfl, nq, rfl⟩
  have HB : Hid (Below w.heap.size w (((w.alloc (.cells #[.int .i64 k, .string t, .int .i64 m, .string b, .slice a1 xs.length cap1] 36)).alloc (.cells #[.int .i64 k', .string t', .int .i64 m', .string b', .slice a2 ys.length cap2] 36)).drewN nq)) := below_drewN (((Below.refl _ _).alloc (Nat.le_refl _) _).alloc (by simp) _) nq
  clear hS
  cases q
  · go_wp2
    go_ret
    exact ⟨ret_bool (by rw [HE.out]; rfl), HB.out⟩
  · by_cases hk : k = k'
    · subst hk
      have hkb : (k == k) = true := by simp
      by_cases ht : t.toList = t'.toList
      · have htb : (t.toList == t'.toList) = true := by simp [ht]
        have HT := hide0 (toList_inj ht)
        clear ht
        by_cases hm : m = m'
        · subst hm
          have hmb : (m == m) = true := by simp
          by_cases hb : b.toList = b'.toList
          · have hbb : (b.toList == b'.toList) = true := by simp [hb]
            have HBB := hide0 (toList_inj hb)
            clear hb
            go_wp2
            go_ret
            exact ⟨ret_bool (by rw [HE.out, HT.out, HBB.out]; simp), HB.out⟩
          · have hbb : (b.toList == b'.toList) = false := by simp [hb]
            have HBB : Hid (¬ b = b') := fun h => hb (by rw [h])
            clear hb
            go_wp2
            go_ret
            exact ⟨ret_bool (by rw [HE.out, decide_eq_false HBB.out]; simp), HB.out⟩
        · have hmb : (m == m') = false := by simp [hm]
          have HM := hide0 hm
          clear hm
          go_wp2
          go_ret
          exact ⟨ret_bool (by rw [HE.out, decide_eq_false HM.out]; simp), HB.out⟩
      · have htb : (t.toList == t'.toList) = false := by simp [ht]
        have HT : Hid (¬ t = t') := fun h => ht (by rw [h])
        clear ht
        go_wp2
        go_ret
        exact ⟨ret_bool (by rw [HE.out, decide_eq_false HT.out]; simp), HB.out⟩
    · have hkb : (k == k') = false := by simp [hk]
      have HK := hide0 hk
      clear hk
      go_wp2
      go_ret
      exact ⟨ret_bool (by rw [HE.out, decide_eq_false HK.out]; simp), HB.out⟩
end Go.Proofs.Ytdjllnhahhjgmab
namespace Go.Proofs.Ytdjllnhahhjgmab
open Go.RowKit Chron
def badT : ByteArray := ⟨#[116, 104, 101, 32, 99, 97, 108, 108, 101, 114, 39, 115, 32]⟩
/- all but some blocks is as it was -/
structure Far (w w' : World) (R : List (Option Nat)) : Prop where
  os : w'.os = w.os
  tape : w'.tape = w.tape
  output : w'.output = w.output
  size : w.heap.size ≤ w'.heap.size
  block : ∀ k, k < w.heap.size → (∀ r ∈ R, r ≠ some k) → w'.heap[k]? = w.heap[k]?
theorem Far.refl (w : World) (R : List (Option Nat)) : Far w w R := ⟨rfl, rfl, rfl, Nat.le_refl _, fun _ _ _ => rfl⟩
theorem Far.trans {R : List (Option Nat)} {a b c : World} (h : Far a b R) (k : Far b c R) : Far a c R :=
  ⟨k.os.trans h.os, k.tape.trans h.tape, k.output.trans h.output, Nat.le_trans h.size k.size, fun i hi hR => (k.block i (Nat.lt_of_lt_of_le hi h.size) hR).trans (h.block i hi hR)⟩
theorem Far.of_below {R : List (Option Nat)} {a b : World} {B : Nat} (h : Below B a b) (hB : a.heap.size ≤ B) : Far a b R := ⟨h.os, h.tape, h.output, h.size, fun k hk _ => h.block k (Nat.lt_of_lt_of_le hk hB)⟩
theorem Far.setCell {R : List (Option Nat)} {a b : World} (h : Far a b R) {p : Addr} (hp : some p.block ∈ R ∨ a.heap.size ≤ p.block) (u : Value) : Far a (b.setCell p u) R :=
  ⟨h.os, h.tape, h.output, by simpa [World.setCell] using h.size, fun k hk hR => by
    rw [Below.heap_setCell _ _ _ _ (by
      rintro rfl
      rcases hp with hp | hp
      · exact hR _ hp rfl
      · omega)]; exact h.block k hk hR⟩
theorem Far.alloc {R : List (Option Nat)} {a b : World} (h : Far a b R) (o : Obj) : Far a (b.alloc o) R :=
  h.trans (Far.of_below ((Below.refl _ _).alloc (Nat.le_refl _) o) (Nat.le_refl _))
theorem Far.grown {R : List (Option Nat)} {a b c : World} (h : Far a b R) {row : Option Nat} (hg : b.grownBy c row) (hr : ∀ q, row = some q → row ∈ R ∨ a.heap.size ≤ q) : Far a c R :=
  ⟨hg.os.trans h.os, hg.tape.trans h.tape, hg.output.trans h.output, Nat.le_trans h.size hg.size, fun k hk hR => by
    refine (hg.block k (Nat.lt_of_lt_of_le hk h.size) ?_).trans (h.block k hk hR)
    rintro e
    rcases hr k e.symm with hp | hp
    · exact hR _ hp e.symm
    · omega⟩
theorem Far.below {R : List (Option Nat)} {a b : World} (h : Far a b R) {B : Nat} (hB : B ≤ a.heap.size) (hr : ∀ q, some q ∈ R → B ≤ q) : Below B a b :=
  ⟨h.os, h.tape, h.output, h.size, fun k hk => h.block k (by omega) (fun r hR e => by subst e; have := hr k hR; omega)⟩
theorem loan_set {w : World} {b i : Nat} {x0 x1 x2 x3 x4 u : Value} {t : TypeId} (h : w.heap[b]? = some (.cells #[x0, x1, x2, x3, x4] t)) : (w.setCell ⟨b, i, none⟩ u).heap[b]? = some (.cells (#[x0, x1, x2, x3, x4].setIfInBounds i u) t) := by
  rw [setCell_eq_setRow w b i _ t (0, 0) u h, setRow_heap w b _ _ t (0, 0) h]
def lent (ts : List ByteArray) (j : Nat) : List Value := ts.map Value.string ++ (List.replicate j (.string badT) ++ List.replicate (8 - j) (.string ⟨#[]⟩))
theorem lent_len (ts : List ByteArray) {j : Nat} (hj : j ≤ 8) : (lent ts j).length = ts.length + 8 := by simp [lent]; omega
theorem lent_set (ts : List ByteArray) {j : Nat} (hj : j < 8) : (lent ts j).set (ts.length + j) (.string badT) = lent ts (j + 1) := by
  obtain ⟨m, hm⟩ : ∃ m, 8 - j = m + 1 := ⟨7 - j, by omega⟩
  have hm2 : 8 - (j + 1) = m := by omega
  have e : List.replicate (j + 1) (Value.string badT) = List.replicate j (.string badT) ++ [.string badT] := by rw [List.replicate_succ']
  rw [lent, lent, hm, hm2, e, List.set_append_right _ _ (by simp), List.set_append_right _ _ (by simp)]
  simp [List.replicate_succ]
theorem made_splice (ts : List ByteArray) : splice (List.replicate (ts.length + 8) (Value.string ⟨#[]⟩)) 0 (ts.map Value.string) = lent ts 0 := by
  simp [splice, lent]
theorem set_row {w : World} {g i : Nat} {L : List Value} {t : TypeId} {u : Value} (h : w.heap[g]? = some (.cells L.toArray t (0, 0))) : (w.setCell ⟨g, i, none⟩ u).heap[g]? = some (.cells (L.set i u).toArray t (0, 0)) := by
  rw [setCell_eq_setRow w g i L.toArray t (0, 0) u h, setRow_heap w g _ _ t (0, 0) h]
  simp
end Go.Proofs.Ytdjllnhahhjgmab
namespace Go.Proofs.Ytdjllnhahhjgmab
open Go.RowKit Chron
theorem infoText : (Try.prog.info? 9).map (fun i => (i.zero, i.size, i.bytes)) = some (some (.string ⟨#[]⟩), 1, 16) := by kernel_rfl
theorem infoTexts : (Try.prog.info? 34).map (fun i => (i.zero, i.size, i.bytes)) = some (some (.slice none 0 0), 1, 24) := by kernel_rfl
theorem infoInt : (Try.prog.info? 3).map (fun i => (i.zero, i.size, i.bytes)) = some (some (.int .i64 0), 1, 8) := by kernel_rfl
theorem sizeText : (Try.prog.info? 9).map (·.size) = some 1 := by kernel_rfl
theorem made_strings (n : Nat) : (madeCells (Value.string ⟨#[]⟩).cells (n * 1)).toList = List.replicate n (.string ⟨#[]⟩) := by
  apply List.ext_getElem
  · simp [madeCells]
  · intro i h1 h2
    simp [madeCells, Value.cells, Nat.mod_one]
theorem own_whole {w : World} {base : Nat} {e : TypeId} {g n : Nat} {xs : List Value} (h : w.ownsRow base e 1 (.slice (some ⟨g, 0, none⟩) n n) n xs) : w.heap[g]? = some (.cells xs.toArray e (0, 0)) := by
  rcases h.2 with ⟨h0, _⟩ | ⟨g', cap, cur, hv, hb, hg, h1, h2, h3, h4⟩
  · cases h0
  · simp only [Value.slice.injEq, Option.some.injEq, Addr.mk.injEq] at hv
    obtain ⟨⟨rfl, _⟩, _, rfl⟩ := hv
    rw [hg, ← h4, List.take_of_length_le (by simp; omega)]
structure OneAt (N : Nat) (w wx : World) (k : Int) (t : ByteArray) (m : Int) (b : ByteArray) (v : Value) (L : List Value) : Prop where
  box : wx.heap[N]? = some (.cells #[.int .i64 k, .string t, .int .i64 m, .string b, v] 36)
  res : wx.heap[N + 1]? = some (.cells #[.int .i64 0, .string ⟨#[]⟩, .int .i64 0, .string ⟨#[]⟩, .slice none 0 0] 36)
  row : wx.heap[N + 2]? = some (.cells L.toArray 9 (0, 0))
  bel : Below N w wx
  big : N + 3 ≤ wx.heap.size
theorem OneAt.below {N : Nat} {w wx wy : World} {k : Int} {t : ByteArray} {m : Int} {b : ByteArray} {v : Value} {L L' : List Value} (h : OneAt N w wx k t m b v L) (hb : Below (N + 2) wx wy) (hr : wy.heap[N + 2]? = some (.cells L'.toArray 9 (0, 0))) : OneAt N w wy k t m b v L' :=
  ⟨(hb.block N (by omega)).trans h.box, (hb.block (N + 1) (by omega)).trans h.res, hr, h.bel.trans (hb.mono (by omega)), Nat.le_trans h.big hb.size⟩
theorem OneAt.made {w w1 : World} {k : Int} {t : ByteArray} {m : Int} {b : ByteArray} {v : Value} {n : Nat}
    (hown : w1.ownsRow (w.heap.size + 2) 9 1 (.slice (some ⟨((w.alloc (.cells #[.int .i64 k, .string t, .int .i64 m, .string b, v] 36)).alloc (.cells #[.int .i64 0, .string ⟨#[]⟩, .int .i64 0, .string ⟨#[]⟩, .slice none 0 0] 36)).heap.size, 0, none⟩) n n) n (madeCells (Value.string ⟨#[]⟩).cells (n * 1)).toList)
    (hg : ((w.alloc (.cells #[.int .i64 k, .string t, .int .i64 m, .string b, v] 36)).alloc (.cells #[.int .i64 0, .string ⟨#[]⟩, .int .i64 0, .string ⟨#[]⟩, .slice none 0 0] 36)).grownBy w1 none) :
    OneAt w.heap.size w w1 k t m b v (List.replicate n (.string ⟨#[]⟩)) := by
  have hr := own_whole hown
  rw [made_strings] at hr
  simp only [World.size_alloc] at hr
  have hsz := hg.size
  simp only [World.size_alloc] at hsz
  have hlt := (Array.getElem?_eq_some_iff.1 hr).1
  refine ⟨?_, ?_, hr, ?_, by omega⟩
  · rw [hg.block w.heap.size (by simp only [World.size_alloc]; omega) (by simp), Below.heap_alloc _ _ _ (by simp)]; exact heap_alloc_new _ _
  · rw [hg.block (w.heap.size + 1) (by simp only [World.size_alloc]; omega) (by simp)]
    have := heap_alloc_new (w.alloc (.cells #[.int .i64 k, .string t, .int .i64 m, .string b, v] 36)) (.cells #[.int .i64 0, .string ⟨#[]⟩, .int .i64 0, .string ⟨#[]⟩, .slice none 0 0] 36)
    rw [World.size_alloc] at this; exact this
  · exact Below.grown (((Below.refl _ _).alloc (Nat.le_refl _) _).alloc (by simp) _) hg (by simp only [World.size_alloc]; omega) (fun q hq => by cases hq)
theorem row_cell {w : World} {g i : Nat} {L : List Value} {t : TypeId} (h : w.heap[g]? = some (.cells L.toArray t (0, 0))) (hi : i < L.length) : ∃ x, w.cell? ⟨g, i, none⟩ = some x ∧ w.frozen? ⟨g, i, none⟩ = false := by
  refine ⟨L[i], ?_, ?_⟩
  · simp [World.cell?, h, hi]
  · simp [World.frozen?, h]
theorem one_slice (a : Option Addr) (n c : Nat) : ∀ u ∈ [Value.slice a n c], u.oneCell' = true := fun u hu => by simp at hu; subst hu; rfl
theorem one_int (k : IntKind) (x : Int) : ∀ u ∈ [Value.int k x], u.oneCell' = true := fun u hu => by simp at hu; subst hu; rfl
/- behind the loop: what was there is as it was but for the loan -/
structure OneFar (N : Nat) (w wx : World) (R : List (Option Nat)) (k : Int) (t : ByteArray) (m : Int) (b : ByteArray) (v : Value) (L : List Value) : Prop where
  box : wx.heap[N]? = some (.cells #[.int .i64 k, .string t, .int .i64 m, .string b, v] 36)
  res : wx.heap[N + 1]? = some (.cells #[.int .i64 0, .string ⟨#[]⟩, .int .i64 0, .string ⟨#[]⟩, .slice none 0 0] 36)
  row : wx.heap[N + 2]? = some (.cells L.toArray 9 (0, 0))
  far : Far w wx R
  big : N + 3 ≤ wx.heap.size
  same : N = w.heap.size
theorem OneAt.far {N : Nat} {w wx : World} {k : Int} {t : ByteArray} {m : Int} {b : ByteArray} {v : Value} {L : List Value} (h : OneAt N w wx k t m b v L) (R : List (Option Nat)) (hN : N = w.heap.size) : OneFar N w wx R k t m b v L :=
  ⟨h.box, h.res, h.row, Far.of_below h.bel (by omega), h.big, hN⟩
theorem OneFar.grown {N : Nat} {w wx wy : World} {R : List (Option Nat)} {k : Int} {t : ByteArray} {m : Int} {b : ByteArray} {v : Value} {L : List Value} {row : Option Nat} {o : Obj} (h : OneFar N w wx R k t m b v L) (hg : (wx.alloc o).grownBy wy row) (hr : row ∈ R) (hlt : ∀ q, row = some q → q < N ∨ N + 3 ≤ q) : OneFar N w wy R k t m b v L := by
  have hbig := h.big
  have hs := hg.size
  rw [World.size_alloc] at hs
  have hblk : ∀ q, N ≤ q → q ≤ N + 2 → wy.heap[q]? = wx.heap[q]? := fun q h1 h2 => by
    rw [hg.block q (by rw [World.size_alloc]; omega) (fun e => by have := hlt q e.symm; omega), Below.heap_alloc _ _ _ (by omega)]
  exact ⟨(hblk _ (by omega) (by omega)).trans h.box, (hblk _ (by omega) (by omega)).trans h.res, (hblk _ (by omega) (by omega)).trans h.row, (h.far.alloc o).grown hg (fun _ _ => .inl hr), by omega, h.same⟩
theorem OneFar.set {N : Nat} {w wx : World} {R : List (Option Nat)} {k : Int} {t : ByteArray} {m : Int} {b : ByteArray} {v : Value} {L : List Value} {p : Addr} (h : OneFar N w wx R k t m b v L) (hp : p.block < N) (hR : some p.block ∈ R) (u : Value) : OneFar N w (wx.setCell p u) R k t m b v L := by
  have hblk : ∀ q, N ≤ q → (wx.setCell p u).heap[q]? = wx.heap[q]? := fun q h1 => Below.heap_setCell _ _ _ _ (by omega)
  exact ⟨(hblk _ (by omega)).trans h.box, (hblk _ (by omega)).trans h.res, (hblk _ (by omega)).trans h.row, h.far.setCell (.inl hR) u, by have := h.big; simpa [World.setCell] using this, h.same⟩
theorem cell_one_at (w : World) (v : Value) (t : TypeId) (N : Nat) (h : w.heap.size = N) : ∀ j u, [v][j]? = some u → (w.alloc (.cells #[v] t)).cell? ((⟨N, 0, none⟩ : Addr).add j) = some u := by
  subst h; exact cell_one_new w v t
theorem size_set (w : World) (p : Addr) (u : Value) : (w.setCell p u).heap.size = w.heap.size := by simp [World.setCell]
theorem le_alloc {w : World} {b : Nat} (o : Obj) (h : b < w.heap.size) : b + 1 ≤ (w.alloc o).heap.size := by rw [World.size_alloc]; omega
theorem at_far {tv : Value} {g N : Nat} {w : World} {o : Obj} (h : tv.ownBlock = some g ∨ g = (w.alloc o).heap.size) (hN : N + 2 < w.heap.size) : tv.ownBlock = some g ∨ N + 3 ≤ g :=
  h.imp id (fun e => by rw [World.size_alloc] at e; omega)
theorem own_of_block {w w' : World} {base : Nat} {e : TypeId} {size : Nat} {v : Value} {n : Nat} {xs : List Value} (h : w.ownsRow base e size v n xs) (hb : ∀ q, v.ownBlock = some q → w'.heap[q]? = w.heap[q]?) : w'.ownsRow base e size v n xs := by
  obtain ⟨h1, h2 | ⟨g, cap, cur, rfl, a2, a3, a4⟩⟩ := h
  · exact ⟨h1, .inl h2⟩
  · exact ⟨h1, .inr ⟨g, cap, cur, rfl, a2, (hb g rfl).trans a3, a4⟩⟩
theorem set6_other {w : World} {N q : Nat} {s x0 x1 x2 x3 x4 : Value} (h1 : ¬ q = N) (h2 : ¬ q = N + 1) :
    ((((((w.setCell ⟨N, 4, none⟩ s).setCell ⟨N + 1, 0, none⟩ x0).setCell ⟨N + 1, 1, none⟩ x1).setCell ⟨N + 1, 2, none⟩ x2).setCell ⟨N + 1, 3, none⟩ x3).setCell ⟨N + 1, 4, none⟩ x4).heap[q]? = w.heap[q]? := by
  rw [Below.heap_setCell _ _ _ _ h2, Below.heap_setCell _ _ _ _ h2, Below.heap_setCell _ _ _ _ h2, Below.heap_setCell _ _ _ _ h2, Below.heap_setCell _ _ _ _ h2, Below.heap_setCell _ _ _ _ h1]
theorem copy_pos {w w1 : World} {a : Option Addr} {ts : List ByteArray} {N : Nat} (ht : TagsAt w a ts) (hb : Below w.heap.size w w1) : 0 < (ts.map Value.string).length → (some (⟨N + 1 + 1, 0, none⟩ : Addr)) = some ⟨N + 2, 0, none⟩ ∧ ∃ ad, a = some ad ∧ ∀ j v, (ts.map Value.string)[j]? = some v → w1.cell? (ad.add j) = some v := by
  intro h0
  refine ⟨rfl, ?_⟩
  obtain ⟨q, off, rfl, hc⟩ := ht (by simpa using h0)
  refine ⟨_, rfl, fun j v hv => ?_⟩
  simp only [List.getElem?_map, Option.map_eq_some_iff] at hv
  obtain ⟨x, hx, rfl⟩ := hv
  have hj := (List.getElem?_eq_some_iff.1 hx).1
  have hcj := hc j hj
  rw [hx] at hcj
  have hlt := World.block_lt_of_cell? w _ hcj
  rw [show (⟨q, off, none⟩ : Addr).add j = ⟨q, off + j, none⟩ by simp [Addr.add], hb.cell (p := ⟨q, off + j, none⟩) hlt]; exact hcj
end Go.Proofs.Ytdjllnhahhjgmab
namespace Go.Proofs.Ytdjllnhahhjgmab
open Go.RowKit Go.MuLone Chron
theorem set_back {w : World} {b o : Nat} {x : Value} (y : Value) (h : w.cell? ⟨b, o, none⟩ = some x) : (w.setCell ⟨b, o, none⟩ y).setCell ⟨b, o, none⟩ x = w := by
  have hh : ((w.setCell ⟨b, o, none⟩ y).setCell ⟨b, o, none⟩ x).heap = w.heap := by
    apply Array.ext_getElem?
    intro k
    by_cases hk : k = b
    · subst hk
      simp only [World.cell?] at h
      simp only [World.setCell, Array.getElem?_modify, if_true]
      rcases hh : w.heap[k]? with _ | z
      · rfl
      · rw [hh] at h
        cases z with
        | cells c elem fr =>
          simp at h
          simp only [Option.map_some, Option.some.injEq, Obj.cells.injEq, and_true]
          show (c.setIfInBounds o y).setIfInBounds o x = c
          apply Array.ext_getElem?
          intro i
          rw [Array.getElem?_setIfInBounds]
          split
          · rename_i hi
            subst hi
            split
            · exact h.symm
            · rename_i hn
              simp only [Array.size_setIfInBounds] at hn
              rw [Array.getElem?_eq_none (by omega)] at h; cases h
          · rename_i hi
            rw [Array.getElem?_setIfInBounds, if_neg hi]
        | _ => cases h
    · rw [Below.heap_setCell _ _ _ _ hk, Below.heap_setCell _ _ _ _ hk]
  cases w
  simp only [World.setCell] at hh ⊢
  simp only [World.mk.injEq, and_true]
  exact hh
theorem four_cells {w : World} {p : Nat} {a b c d : Value} {t : TypeId} (h : w.heap[p]? = some (.cells #[a, b, c, d] t)) :
    w.cell? ⟨p, 0, none⟩ = some a ∧ w.cell? ⟨p, 1, none⟩ = some b ∧ w.cell? ⟨p, 2, none⟩ = some c ∧ w.cell? ⟨p, 3, none⟩ = some d ∧ ∀ o, w.frozen? ⟨p, o, none⟩ = false := by
  simp [World.cell?, World.frozen?, h]
set_option maxRecDepth 100000 in
theorem now_any (p : Nat) (fv ev : Value) (w : World) (hb : w.heap[p]? = some (.cells #[.int .i32 0, .int .u32 0, fv, ev] 55)) :
    Calls Try.prog 29 #[.pointer (some ⟨p, 0, none⟩)] w fun e w' => e = .returned ev ∧ w' = w := by
  obtain ⟨c0, c1, c2, c3, cz⟩ := four_cells hb
  go_enter_defers Try.func29, Try.ntmps29
  go_wp2_with (go_at_call 19; refine (lock_free Try.muLib ⟨p, 0, none⟩ _ c0 (cz 0)).mono ?_; rintro e w' ⟨rfl, rfl⟩)
  refine leaves_cons (f := 20) (args := #[.pointer (some ⟨p, 0, none⟩)]) (by simp) (by simp [go_sem]) ?_
  refine (unlock_deferred Try.muLib ⟨p, 0, none⟩ .returning _ (World.cell?_setCell_same w ⟨p, 0, none⟩ (.int .i32 1) c0) (by simp [cz])).mono ?_
  rintro e u' w'' ⟨rfl, rfl, rfl⟩
  exact ⟨_, results_tmp rfl _ _ _, rfl, set_back _ c0⟩
set_option maxRecDepth 100000 in
theorem len_any (p : Nat) (fv : Value) (ea : Option Addr) (n cap : Nat) (w : World) (hb : w.heap[p]? = some (.cells #[.int .i32 0, .int .u32 0, fv, .slice ea n cap] 55)) :
    Calls Try.prog 17 #[.pointer (some ⟨p, 0, none⟩)] w fun e w' => e = .returned (.int .i64 n) ∧ w' = w := by
  go_enter Try.func17, Try.ntmps17
  go_wp2_with (go_at_call 29; refine (now_any p fv _ _ hb).mono ?_; rintro e w' ⟨rfl, rfl⟩)
  go_ret
  exact ⟨rfl, rfl⟩
/- a row of bytes, told as a text -/
theorem conv_any {w : World} {B n : Nat} {v : Value} {l : List UInt8} (h : w.ownsRow B 5 1 v n (Lib.byteCells l)) : (convert 46 9 v).run Try.prog w = .ok (.string ⟨l.toArray⟩) w := by
  by_cases hl : l = []
  · subst hl
    obtain ⟨h0, h | ⟨g, cap, cur, rfl, hg, hh, hn, hcap, hsz, htake⟩⟩ := h
    · obtain ⟨rfl, rfl⟩ := h
      rw [run_convert_bytes_string w 46 9 5 none 0 0 Try.underlying46 Try.underlying5 Try.underlying9]
      simp [Conv.bytesToString]; rfl
    · have hn' : n = 0 := by simp [Lib.byteCells] at h0; omega
      subst hn'
      exact run_convert_bytes_back w _ _ 5 ⟨g, 0, none⟩ cap [] Try.underlying46 Try.underlying5 Try.underlying9 (fun j hj => by simp at hj)
  · exact conv_owned h hl
theorem conv_B {w : World} {B : Nat} {v : Value} {l : List UInt8} (h : OwnB w B 5 v l.length (Lib.byteCells l)) : (convert 46 9 v).run Try.prog w = .ok (.string ⟨l.toArray⟩) w := by
  rcases h.2 with ⟨rfl, hl⟩ | ⟨g, cap, cur, fz, rfl, _⟩
  · have : l = [] := List.eq_nil_of_length_eq_zero hl
    subst this
    exact conv_any (B := B) (n := 0) ⟨rfl, .inl ⟨rfl, rfl⟩⟩
  · refine run_convert_bytes_back w _ _ 5 ⟨g, 0, none⟩ cap l Try.underlying46 Try.underlying5 Try.underlying9 (fun j hj => h.cells rfl j _ ?_)
    simp [Lib.byteCells, hj]
set_option maxRecDepth 100000 in
theorem file_any (p : Nat) (fv ev : Value) (N : Nat) (file : List UInt8) (w : World) (hb : w.heap[p]? = some (.cells #[.int .i32 0, .int .u32 0, fv, ev] 55)) (hf : OwnB w N 5 fv file.length (Lib.byteCells file)) (hp : fv.ownBlock ≠ some p) :
    Calls Try.prog 8 #[.pointer (some ⟨p, 0, none⟩)] w fun e w' => e = .returned (.string ⟨file.toArray⟩) ∧ w' = w := by
  obtain ⟨c0, c1, c2, c3, cz⟩ := four_cells hb
  have hc := conv_B (hf.block (w' := w.setCell ⟨p, 0, none⟩ (.int .i32 1)) (fun q hq => Below.heap_setCell _ _ _ _ (fun e => hp (by rw [hq, e]))))
  go_enter_defers Try.func8, Try.ntmps8
  go_wp2_with (go_at_call 19; refine (lock_free Try.muLib ⟨p, 0, none⟩ _ c0 (cz 0)).mono ?_; rintro e w' ⟨rfl, rfl⟩)
  refine leaves_cons (f := 20) (args := #[.pointer (some ⟨p, 0, none⟩)]) (by simp) (by simp [go_sem]) ?_
  refine (unlock_deferred Try.muLib ⟨p, 0, none⟩ .returning _ (World.cell?_setCell_same w ⟨p, 0, none⟩ (.int .i32 1) c0) (by simp [cz])).mono ?_
  rintro e u' w'' ⟨rfl, rfl, rfl⟩
  exact ⟨_, results_tmp rfl _ _ _, rfl, set_back _ c0⟩
end Go.Proofs.Ytdjllnhahhjgmab
namespace Go.Proofs.Ytdjllnhahhjgmab
open Go.RowKit Go.Shelf
/- the iterator: J holds between its rounds, with true while the loop goes on -/
def Tells {α : Type} (P : Program) (g : Nat) (lb : Array Value) (encs : α → Array Value) (H : α → Nat → World → Prop) (Kp : World → World → Prop) (S Sp : List α → Prop) (w : World) : Prop :=
  ∀ (l : Nat) (J : Bool → List α → World → Prop) (W : World), Below w.heap.size w W →
    (∀ go xs A B, J go xs A → A.grownBy B none → J go xs B) →
    (∀ xs x A0 A, J true xs A0 → A0.grownBy A none → H x A0.heap.size A → Sp (xs ++ [x]) → YieldAt Fence.wide 0 P l (encs x) A fun e W' =>
      ∃ go, e = .returned (.bool go) ∧ J go (xs ++ [x]) W' ∧ (go = true → Kp A W')) →
    J true [] W →
    CallsIn Fence.wide 0 P g (#[.func (.yield l) #[] #[]] ++ lb) W fun e W' => (∃ v, e = .returned v) ∧ ((∃ xs, S xs ∧ J true xs W') ∨ ∃ xs, Sp xs ∧ J false xs W')
/- how the body of a round may be left -/
def LeftBy {α : Type} (B : Nat) (Kp : World → World → Prop) (I : Option Code → List α → Nat → World → Prop) (xs : List α) (W : World) : Exit → Act → World → Prop
  | .normal, _, W' => KeepsFrom B W W' ∧ Kp W W' ∧ I none xs W'.heap.size W'
  | .ret, _, W' => KeepsFrom B W W' ∧ I (some .ret) xs W'.heap.size W'
  | .exit id, _, W' => KeepsFrom B W W' ∧ I (some (.exit id)) xs W'.heap.size W'
  | .goto t, _, W' => KeepsFrom B W W' ∧ I (some (.goto t)) xs W'.heap.size W'
  | .panic _, _, _ => False
  | .outgrown, _, _ => False
/- what abides new memory, and the loop's own records -/
def Abide (B : Nat) (I : World → Prop) : Prop := ∀ W W' row, I W → W.grownBy W' row → (∀ r, row = some r → B ≤ r ∧ ∃ o : Obj, W.heap[r]? = some o ∧ o.isCells = false) → I W'
theorem Abide.put {B : Nat} {I : World → Prop} (h : Abide B I) {W : World} {l : Nat} {o : Obj} (o' : Obj) (hs : I W) (hB : B ≤ l) (hl : W.heap[l]? = some o) (ho : o.isCells = false) : I (W.putObj l o') :=
  h W _ (some l) hs (grownBy_putObj' W l o') (fun r e => by cases e; exact ⟨hB, o, hl, ho⟩)
theorem Abide.new {B : Nat} {I : World → Prop} (h : Abide B I) {W W' : World} (hs : I W) (hg : W.grownBy W' none) : I W' := h W W' none hs hg (fun r e => by cases e)
theorem grown_at {A B : World} (h : A.grownBy B none) {k : Nat} {o : Obj} (hk : A.heap[k]? = some o) : B.heap[k]? = some o :=
  (h.block k (Array.getElem?_eq_some_iff.1 hk).1 (fun e => by cases e)).trans hk
theorem KeepsFrom.put {B l : Nat} {W : World} (hl : l < B) (o : Obj) : KeepsFrom B W (W.putObj l o) :=
  KeepsFrom.of_grownBy (grownBy_putObj' W l o) (fun j e => by cases e; exact hl)
theorem wp_tells {α : Type} {P : Program} {g : Operand} {ps : Array Tmp} {assign body : Code} {Q : Exit → Act → World → Prop} {a : Act} {w w0 : World} {gf : Nat} {lb : Array Value}
    (hg : a.eval g = .func (.func gf) #[] lb) (eg : Enters P gf) {encs : α → Array Value} {H : α → Nat → World → Prop} {Kp : World → World → Prop} {S Sp : List α → Prop}
    (hseq : Tells P gf lb encs H Kp S Sp w0) (hb0 : Below w0.heap.size w0 w) (hps : ∀ x, (encs x).size = ps.size)
    (hKt : ∀ {A B C : World}, Kp A B → Kp B C → Kp A C) (hKb : ∀ (W : World) (l : Nat) (o o' : Obj), w.heap.size ≤ l → W.heap[l]? = some o → o.isCells = false → Kp W (W.putObj l o'))
    (I : Option Code → List α → Nat → World → Prop) (Ax : List α → α → Act → World → Prop)
    (hI : ∀ c xs m, Abide w.heap.size (I c xs m)) (hAx : ∀ xs x a', Abide w.heap.size (Ax xs x a')) (h0 : I none [] w.heap.size w)
    (hassign : ∀ (l : Nat) (xs : List α) (x : α) (m h : Nat) (W : World) (K : Act → World → Prop), I none xs m W → w.heap.size ≤ h → m ≤ h → h ≤ W.heap.size → H x h W → Sp (xs ++ [x]) →
      (∀ a' W', KeepsFrom w.heap.size W W' → Kp W W' → Ax xs x a' W' → K a' W') →
      assign.wpIn (Fence.wide.inRound l) 0 P (Exit.then K (fun _ _ _ => False)) { tmps := (ps.zip (encs x)).foldl (fun t (p, v) => t.setIfInBounds p v) a.tmps, defers := [] } W)
    (hbody : ∀ (l : Nat) (xs : List α) (x : α) (a' : Act) (W : World), Ax xs x a' W → body.wpIn (Fence.wide.inRound l) 0 P (LeftBy w.heap.size Kp I (xs ++ [x]) W) a' W)
    (hdone : ∀ (D : Nat) (xs : List α) (m : Nat) (W : World), w.heap.size ≤ D → S xs → m ≤ W.heap.size → I none xs m W → W.heap[D]? = some (.deferred (some [])) → Q .normal { a with defers := { target := .collected D, args := #[] } :: a.defers } W)
    (hstop : ∀ (D : Nat) (c : Code) (xs : List α) (m : Nat) (W : World), w.heap.size ≤ D → Sp xs → m ≤ W.heap.size → I (some c) xs m W → W.heap[D]? = some (.deferred (some [])) → c.wpIn Fence.wide 0 P Q { a with defers := { target := .collected D, args := #[] } :: a.defers } W) :
    (Code.rangeFunc g ps assign body).wpIn Fence.wide 0 P Q a w := by
  refine wpIn_rangeFunc (fun fn hfn => ?_)
  obtain ⟨rec, hrec⟩ : ∃ rec : LoopState → Option Code → Loop, rec = fun st pe => { state := st, pending := pe, fn, tmps := a.tmps, params := ps, assign, body, defers := w.heap.size } := ⟨_, rfl⟩
  obtain ⟨L, hL⟩ : ∃ L, L = w.heap.size + 1 := ⟨_, rfl⟩
  obtain ⟨W1, hW1⟩ : ∃ W1, W1 = (w.alloc (.deferred (some []))).alloc (.loop (rec .ready none)) := ⟨_, rfl⟩
  have gW : w.grownBy W1 none := by
    rw [hW1]
    exact ⟨rfl, rfl, rfl, by simp; omega, fun k hk _ => (Below.heap_alloc _ _ _ (by simp; omega)).trans (Below.heap_alloc _ _ _ hk)⟩
  have lW : W1.heap[L]? = some (.loop (rec .ready none)) := by
    have := heap_alloc_new (w.alloc (.deferred (some []))) (.loop (rec .ready none))
    rw [World.size_alloc] at this; rw [hW1, hL]; exact this
  have dW : W1.heap[w.heap.size]? = some (.deferred (some [])) := by
    rw [hW1, Below.heap_alloc _ _ _ (by simp)]; exact heap_alloc_new w _
  refine ⟨L, [{ target := .collected w.heap.size, args := #[] }], W1, { target := .fn (.func gf) lb, args := #[.func (.yield L) #[] #[]] }, W1, gf, #[.func (.yield L) #[] #[]] ++ lb, W1, ?_, ?_, ?_, ?_, (fun h => by cases h), ?_⟩
  · have := run_enterLoop_outer (P := P) (w := w) fn a.tmps ps assign body
    rw [hW1, hL, hrec]
    exact this
  · simp only [resolve, hg]
    simp [go_sem]
  · exact fun _ _ => trivial
  · simp only [invoke]
    have := eg (#[.func (.yield L) #[] #[]] ++ lb) W1
    simp [go_sem, this]
  refine CallsIn.mono (hseq L (fun go xs W => W.heap[w.heap.size]? = some (.deferred (some [])) ∧ ∃ m c, m ≤ W.heap.size ∧ (go = true → c = none) ∧ (go = false → c ≠ none) ∧ I c xs m W ∧ W.heap[L]? = some (.loop (rec (if go = true then .ready else .done) c)))
    W1 (hb0.trans ⟨gW.os, gW.tape, gW.output, gW.size, fun k hk => gW.block k (Nat.lt_of_lt_of_le hk hb0.size) (fun e => by cases e)⟩) ?_ ?_ ⟨dW, w.heap.size, none, gW.size, fun _ => rfl, fun h => (by cases h), (hI none [] _).new h0 gW, lW⟩) ?_
  · rintro go xs A B ⟨hd, m, c, hm, h1, h2, hi, hl⟩ hg
    exact ⟨grown_at hg hd, m, c, Nat.le_trans hm hg.size, h1, h2, (hI c xs m).new hi hg, grown_at hg hl⟩
  · rintro xs x A0 A ⟨hd0, m, c, hm, h1, _, hi0, hl0⟩ hg hx hsp
    obtain rfl := h1 rfl
    have hl := grown_at hg hl0
    have hd := grown_at hg hd0
    have hi := (hI none xs m).new hi0 hg
    have hw0 : w.heap.size ≤ A0.heap.size := Nat.le_of_lt (Array.getElem?_eq_some_iff.1 hd0).1
    have hy := run_yield (P := P) (args := encs x) hl (by rw [hrec]; exact hps x)
    rw [hrec] at hy
    refine ⟨fn, _, assign, body, hy, roundIn_of_wpIn hfn (hassign L xs x m _ A _ hi hw0 hm hg.size hx hsp ?_)⟩
    intro a' A2 hk2 hp2 hax
    have hl2 := hk2.same L _ (by omega) hl rfl
    have hd2 := hk2.same _ _ (Nat.le_refl _) hd rfl
    refine ⟨_, run_beginRound hl2 (by rw [hrec]; rfl), ?_⟩
    obtain ⟨busy, hbusy⟩ : ∃ busy : Loop, busy = { rec .ready none with state := .busy } := ⟨_, rfl⟩
    have hL2 : L < A2.heap.size := (Array.getElem?_eq_some_iff.1 hl2).1
    have hp3 : Kp A2 (A2.putObj L (.loop busy)) := hKb _ _ _ _ (by omega) hl2 rfl
    have hl3 : (A2.putObj L (.loop busy)).heap[L]? = some (.loop busy) := World.putObj_heap_same hL2
    have hd3 : (A2.putObj L (.loop busy)).heap[w.heap.size]? = some (.deferred (some [])) := (World.putObj_heap_other (by omega)).trans hd2
    have hend : ∀ (jump : Option Code) (W3 : World), KeepsFrom w.heap.size (A2.putObj L (.loop busy)) W3 → ∃ W4, (Instr.endRound L jump).run P W3 = .ok (.bool jump.isNone) W4 ∧ W4 = W3.putObj L (.loop (rec (if jump.isNone = true then .ready else .done) jump)) ∧
        W3.heap[L]? = some (.loop busy) ∧ W4.heap[L]? = some (.loop (rec (if jump.isNone = true then .ready else .done) jump)) ∧ W4.heap[w.heap.size]? = some (.deferred (some [])) ∧ W4.heap.size = W3.heap.size := by
      intro jump W3 hk
      have q := hk.same L _ (by omega) hl3 rfl
      have r := run_endRound (P := P) jump q
      refine ⟨_, r, ?_, q, ?_, (World.putObj_heap_other (by omega)).trans (hk.same _ _ (Nat.le_refl _) hd3 rfl), by simp⟩
      · rw [hbusy, hrec]
      · rw [World.putObj_heap_same (Array.getElem?_eq_some_iff.1 q).1, hbusy, hrec]
    show Code.wpIn _ 0 P body _ a' (A2.putObj L (.loop { rec .ready none with state := .busy }))
    rw [← hbusy]
    refine wpIn_mono (hbody L xs x a' _ ((hAx xs x a').put _ hax (by omega) hl2 rfl)) ?_
    have away : ∀ (c : Code) (W3 : World), KeepsFrom w.heap.size (A2.putObj L (.loop busy)) W3 → I (some c) (xs ++ [x]) W3.heap.size W3 → ∃ v w', (Instr.endRound L (some c)).run P W3 = .ok v w' ∧
        ∃ go, (Ending.returned v) = .returned (.bool go) ∧ (w'.heap[w.heap.size]? = some (.deferred (some [])) ∧ ∃ m c, m ≤ w'.heap.size ∧ (go = true → c = none) ∧ (go = false → c ≠ none) ∧ I c (xs ++ [x]) m w' ∧ w'.heap[L]? = some (.loop (rec (if go = true then .ready else .done) c))) ∧ (go = true → Kp A w') := by
      intro c W3 hk hi3
      obtain ⟨W4, r, e4, q3, q4, d4, s4⟩ := hend (some c) W3 hk
      exact ⟨_, W4, r, false, rfl, ⟨d4, W3.heap.size, some c, by omega, (fun h => by cases h), (fun _ => by simp), (by rw [e4]; exact (hI _ _ _).put _ hi3 (by omega) q3 rfl), q4⟩, (fun h => by cases h)⟩
    intro e a3 W3 hp
    cases e with
    | normal =>
      obtain ⟨hk, hkp, hi3⟩ := hp
      obtain ⟨W4, r, e4, q3, q4, d4, s4⟩ := hend none W3 hk
      exact ⟨_, W4, r, true, rfl, ⟨d4, W3.heap.size, none, by omega, (fun _ => rfl), (fun h => by cases h), (by rw [e4]; exact (hI _ _ _).put _ hi3 (by omega) q3 rfl), q4⟩,
        fun _ => hKt hp2 (hKt hp3 (hKt hkp (by rw [e4]; exact hKb _ _ _ _ (by omega) q3 rfl)))⟩
    | ret => exact away .ret W3 hp.1 hp.2
    | exit id => exact away (.exit id) W3 hp.1 hp.2
    | goto t => exact away (.goto t) W3 hp.1 hp.2
    | panic ch => exact hp.elim
    | outgrown => exact hp.elim
  · rintro e W2 ⟨⟨v, rfl⟩, ⟨xs, hs, hd, m, c, hm, h1, _, hi, hl⟩ | ⟨xs, hs, hd, m, c, hm, _, h2, hi, hl⟩⟩
    · obtain rfl := h1 rfl
      have r := run_endLoop (P := P) hl (by rw [hrec]; simp)
      refine ⟨none, _, by rw [hrec] at r; exact r, ?_⟩
      refine hdone _ xs m _ (Nat.le_refl _) hs (by simpa using hm) ?_ ((World.putObj_heap_other (by omega)).trans hd)
      exact (hI _ _ _).put _ hi (by omega) hl rfl
    · cases c with
      | none => exact absurd rfl (h2 rfl)
      | some c =>
        have r := run_endLoop (P := P) hl (by rw [hrec]; simp)
        refine ⟨some c, _, by rw [hrec] at r; exact r, ?_⟩
        refine hstop _ c xs m _ (Nat.le_refl _) hs (by simpa using hm) ?_ ((World.putObj_heap_other (by omega)).trans hd)
        exact (hI _ _ _).put _ hi (by omega) hl rfl
end Go.Proofs.Ytdjllnhahhjgmab
namespace Chron
open Go Go.RowKit
def escB (c : UInt8) : List UInt8 := if c = 34 ∨ c = 92 then [92, c] else [c]
def inQ (s : List UInt8) : List UInt8 := s.flatMap escB
def qB (s : List UInt8) : List UInt8 := 34 :: (inQ s ++ [34])
theorem escB_len (c : UInt8) : (escB c).length ≤ 2 := by unfold escB; split <;> simp
theorem inQ_len (s : List UInt8) : (inQ s).length ≤ 2 * s.length := by
  induction s with
  | nil => simp [inQ]
  | cons c s ih => have := escB_len c; simp only [inQ, List.flatMap_cons, List.length_append, List.length_cons] at *; omega
theorem qB_len (s : List UInt8) : (qB s).length ≤ 2 * s.length + 2 := by have := inQ_len s; simp [qB]; omega
theorem inQ_take (s : ByteArray) (k : Nat) (h : k < s.size) : inQ (s.data.toList.take (k + 1)) = inQ (s.data.toList.take k) ++ escB s[k] := by
  rw [take_snoc s k h, inQ, inQ, List.flatMap_append]; simp
theorem esc_yes {c : UInt8} (h : (c.toNat : Int) = 34 ∨ (c.toNat : Int) = 92) : escB c = [92, c] := by
  have : c = 34 ∨ c = 92 := by
    rcases h with h | h
    · exact .inl (UInt8.toNat_inj.1 (by simpa using (by omega : c.toNat = 34)))
    · exact .inr (UInt8.toNat_inj.1 (by simpa using (by omega : c.toNat = 92)))
  simp [escB, this]
theorem esc_no {c : UInt8} (h1 : ¬ (c.toNat : Int) = 34) (h2 : ¬ (c.toNat : Int) = 92) : escB c = [c] := by
  have : ¬ (c = 34 ∨ c = 92) := by
    rintro (rfl | rfl)
    · exact h1 rfl
    · exact h2 rfl
  simp [escB, this]
/- texts with a comma between two -/
def jn : List (List UInt8) → List UInt8
  | [] => []
  | x :: r => x ++ r.flatMap (fun y => 44 :: y)
theorem jn_snoc {l : List (List UInt8)} (h : l ≠ []) (y : List UInt8) : jn (l ++ [y]) = jn l ++ 44 :: y := by
  match l, h with
  | x :: r, _ => simp [jn]
theorem jn_one (y : List UInt8) : jn [y] = y := by simp [jn]
theorem jn_len {l : List (List UInt8)} {m : Nat} (h : ∀ x ∈ l, x.length ≤ m) : (jn l).length ≤ l.length * (m + 1) := by
  match l with
  | [] => simp [jn]
  | x :: r =>
    have hr : ∀ r : List (List UInt8), (∀ y ∈ r, y.length ≤ m) → (r.flatMap (fun y => (44 : UInt8) :: y)).length ≤ r.length * (m + 1) := by
      intro r
      induction r with
      | nil => simp
      | cons y r ih =>
        intro h
        have h1 := h y (by simp)
        have h2 := ih (fun z hz => h z (by simp [hz]))
        simp only [List.flatMap_cons, List.length_append, List.length_cons]
        rw [Nat.add_mul]
        omega
    have h1 := h x (by simp)
    have h2 := hr r (fun y hy => h y (by simp [hy]))
    simp only [jn, List.length_append, List.length_cons]
    rw [Nat.add_mul]
    omega
theorem jn_take_zero {l : List (List UInt8)} {y : List UInt8} (h : l[0]? = some y) : jn (l.take 1) = y := by
  match l, h with
  | x :: r, h => simp at h; subst h; simp [jn]
theorem jn_take {l : List (List UInt8)} {k : Nat} {y : List UInt8} (h : l[k]? = some y) (h0 : 0 < k) : jn (l.take (k + 1)) = jn (l.take k) ++ 44 :: y := by
  have hk := (List.getElem?_eq_some_iff.1 h).1
  have hy : l[k] = y := by rw [List.getElem?_eq_getElem hk] at h; exact Option.some.inj h
  rw [List.take_succ_eq_append_getElem hk, hy, jn_snoc]
  intro e
  have := congrArg List.length e
  rw [List.length_take, List.length_nil] at this
  omega
def listB (l : List (List UInt8)) : List UInt8 := 91 :: (jn l ++ [93])
def wordB (k : Int) : List UInt8 := if k = 1 then [98, 101, 103, 117, 110] else if k = 2 then [100, 111, 110, 101] else if k = 3 then [102, 97, 105, 108, 101, 100] else [110, 111, 116, 101, 100]
def lit1 : List UInt8 := [123, 34, 98, 111, 100, 121, 34, 58]
def lit2 : List UInt8 := [44, 34, 107, 105, 110, 100, 34, 58]
def lit3 : List UInt8 := [44, 34, 116, 97, 103, 115, 34, 58]
def lit4 : List UInt8 := [44, 34, 116, 97, 115, 107, 34, 58]
def lit5 : List UInt8 := [44, 34, 116, 105, 109, 101, 34, 58]
def tagsT (ts : List ByteArray) : List (List UInt8) := ts.map fun t => qB t.data.toList
def tellB (e : Ev) : List UInt8 := lit1 ++ qB e.body.data.toList ++ lit2 ++ qB (wordB e.kind) ++ lit3 ++ listB (tagsT e.tags) ++ lit4 ++ qB e.task.data.toList ++ lit5 ++ Lib.itoa e.time ++ [125]
def expB (l : List Ev) : List UInt8 × Int := if 200 < l.length then ([], 5) else if l.all isB then (listB (l.map tellB), 0) else ([], 2)
theorem tagsT_at {ts : List ByteArray} {k : Nat} (h : k < ts.length) : (tagsT ts)[k]? = some (qB (ts[k]?.getD ByteArray.empty).data.toList) := by simp [tagsT, h]
theorem tagsT_len (ts : List ByteArray) : (tagsT ts).length = ts.length := by simp [tagsT]
theorem tagsT_short {ts : List ByteArray} (h : ∀ t ∈ ts, t.size ≤ 60) : ∀ x ∈ tagsT ts, x.length ≤ 122 := by
  intro x hx
  simp only [tagsT, List.mem_map] at hx
  obtain ⟨t, ht, rfl⟩ := hx
  have := qB_len t.data.toList
  have := h t ht
  simp at *
  omega
theorem digits_len (f : Nat) : ∀ u, u < 10 ^ f → (Lib.decDigits u).length ≤ max f 1 := by
  induction f with
  | zero => intro u h; rw [Lib.decDigits, dif_pos (by omega)]; simp
  | succ f ih =>
    intro u h
    rw [Lib.decDigits]
    split
    · simp only [List.length_singleton]; omega
    · have := ih (u / 10) (by rw [Nat.pow_succ] at h; exact Nat.div_lt_of_lt_mul (by omega))
      rename_i h9
      rcases Nat.eq_zero_or_pos f with rfl | hf
      · simp at h; omega
      · simp; omega
theorem itoa_len {m : Int} (h0 : 0 ≤ m) (h1 : m ≤ 1125899906842624) : (Lib.itoa m).length ≤ 16 := by
  have := digits_len 16 m.toNat (by omega)
  rw [Lib.itoa, if_neg (by omega)]; omega
theorem word_len (k : Int) : (wordB k).length ≤ 6 := by unfold wordB; split; · simp
                                                        split; · simp
                                                        split <;> simp
theorem word_q (k : Int) : qB (wordB k) = 34 :: (wordB k ++ [34]) := by
  unfold wordB; split; · decide
  split; · decide
  split <;> decide
theorem tell_len {e : Ev} (h : isB e = true) : (tellB e).length ≤ 1000 := by
  obtain ⟨h1, h4, htk, _, ht0, ht1, hbd, hfew, hlines⟩ := is_known h
  have a1 := qB_len e.body.data.toList
  have a2 := qB_len e.task.data.toList
  have a3 := qB_len (wordB e.kind)
  have a4 := word_len e.kind
  have a5 := itoa_len ht0 ht1
  have a6 := jn_len (tagsT_short hlines)
  rw [tagsT_len] at a6
  have a7 : e.tags.length * 123 ≤ 4 * 123 := Nat.mul_le_mul_right _ hfew
  have b1 : e.body.data.toList.length = e.body.size := by simp
  have b2 : e.task.data.toList.length = e.task.size := by simp
  rw [b1] at a1
  rw [b2] at a2
  simp only [tellB, listB, List.length_append, List.length_cons, List.length_nil, lit1, lit2, lit3, lit4, lit5] at *
  omega
end Chron
