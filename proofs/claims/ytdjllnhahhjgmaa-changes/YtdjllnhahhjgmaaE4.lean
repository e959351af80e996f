/- Walks of package event: what is an event, and into which versions it goes. -/
import Derived.Test.YtdjllnhahhjgmaaE1
namespace Go.Proofs.Ytdjllnhahhjgmaa
open Go.RowKit Chron
/- n strings lie behind an address -/
def TagsAt (w : World) (a : Option Addr) (ts : List ByteArray) : Prop :=
  0 < ts.length → ∃ b off, a = some ⟨b, off, none⟩ ∧ ∀ i, i < ts.length → w.cell? ⟨b, off + i, none⟩ = some (.string (ts[i]?.getD ByteArray.empty))
def Short (ts : List ByteArray) : Prop := ∀ i, i < ts.length → (ts[i]?.getD ByteArray.empty).size ≤ maxLen

theorem bcell {W w1 : World} (hb : Below W.heap.size W w1) : (∀ b o, b < W.heap.size → w1.cell? ⟨b, o, none⟩ = W.cell? ⟨b, o, none⟩) ∧ (∀ b o, b < W.heap.size → w1.frozen? ⟨b, o, none⟩ = W.frozen? ⟨b, o, none⟩) :=
  ⟨fun b o h => hb.cell (p := ⟨b, o, none⟩) h, fun b o h => hb.frozen (p := ⟨b, o, none⟩) h⟩

set_option maxRecDepth 100000 in
set_option maxHeartbeats 400000 in
theorem areTags_any (a : Option Addr) (cap : Nat) (ts : List ByteArray) (w : World) (ht : Hid (TagsAt w a ts)) (hs : Hid (Short ts)) (hl : ts.length ≤ maxLen) :
    Calls Try.prog 62 #[.slice a ts.length cap] w fun e w' => e = .returned (.bool (tagsB ts)) ∧ w' = w := by
  unfold maxLen at hl
  by_cases h4 : 4 < ts.length
  · go_enter Try.func62, Try.ntmps62
    go_wp2
    go_ret
    exact ⟨ret_bool (tags_many h4).symm, rfl⟩
  · go_enter Try.func62, Try.ntmps62
    go_wp2
    go_loop [10] (fun i => ∃ k : Nat, k ≤ ts.length ∧ i = .int .i64 k ∧ Hid (∀ j, j < k → tagOk ts j = true)) (fun i => ts.length - (intOf i).toNat)
    case atStart => exact ⟨0, Nat.zero_le _, rfl, fun j hj => by omega⟩
    case round =>
      obtain ⟨k, hk, rfl, HA⟩ := hrel
      by_cases hlt : k < ts.length
      · obtain ⟨b, off, rfl, hc⟩ := ht.out (by omega)
        have hck := hc k hlt
        have hsk := hs.out k hlt
        have HC : Hid _ := hc
        clear hc
        have HO : Hid (tagOk ts k = (nameB (ts[k]?.getD ByteArray.empty) && (decide (k = 0) || Op.bytesLess (ts[k - 1]?.getD ByteArray.empty).toList (ts[k]?.getD ByteArray.empty).toList))) := rfl
        generalize ts[k]?.getD ByteArray.empty = t at hck hsk HO
        by_cases hn : nameB t = true
        · by_cases hk0 : 0 < k
          · have hcp := HC.out (k - 1) (by omega)
            generalize ts[k - 1]?.getD ByteArray.empty = p at hcp HO
            go_wp2_with (go_at_call 60; refine (isName_any _ _ hsk).mono ?_; rintro e w' ⟨rfl, rfl⟩)
            · go_ret
              exact ⟨ret_bool (tags_not hlt (tag_fall HO.out hk0 (by assumption))).symm, rfl⟩
            · go_round
              case rel => exact ⟨k + 1, by omega, by go_num, tag_next HA.out (tag_rise HO.out hn (by assumption))⟩
              case measure => simp [intOf]; omega
          · go_wp2_with (go_at_call 60; refine (isName_any _ _ hsk).mono ?_; rintro e w' ⟨rfl, rfl⟩)
            · go_round
              case rel => exact ⟨k + 1, by omega, by go_num, tag_next HA.out (tag_first HO.out hn hk0)⟩
              case measure => simp [intOf]; omega
        · have hn' : nameB t = false := by simpa using hn
          clear hn
          go_wp2_with (go_at_call 60; refine (isName_any _ _ hsk).mono ?_; rintro e w' ⟨rfl, rfl⟩)
          go_ret
          exact ⟨ret_bool (tags_not hlt (tag_bad HO.out hn')).symm, rfl⟩
      · go_wp2
        go_ret
        exact ⟨ret_bool (tags_all (by omega) (by omega) HA.out).symm, rfl⟩

theorem TagsAt.below {w w' : World} {a : Option Addr} {ts : List ByteArray} {B : Nat} (h : TagsAt w a ts) (hb : Below B w w') (hB : w.heap.size ≤ B) : TagsAt w' a ts := by
  intro h0
  obtain ⟨b, off, rfl, hc⟩ := h h0
  refine ⟨b, off, rfl, fun i hi => ?_⟩
  have hi' := hc i hi
  have hlt := World.block_lt_of_cell? w _ hi'
  rw [hb.cell (p := ⟨b, off + i, none⟩) (by simp at hlt ⊢; omega)]; exact hi'
theorem TagsAt.alloc {w : World} {a : Option Addr} {ts : List ByteArray} (h : TagsAt w a ts) (o : Obj) : TagsAt (w.alloc o) a ts :=
  h.below (B := w.heap.size) ((Below.refl _ _).alloc (Nat.le_refl _) o) (Nat.le_refl _)

set_option maxRecDepth 100000 in
set_option maxHeartbeats 1000000 in
theorem is_any (k : Int) (t : ByteArray) (m : Int) (b : ByteArray) (a : Option Addr) (cap : Nat) (ts : List ByteArray) (w : World) (ht : Hid (TagsAt w a ts)) (hs : Hid (Short ts)) (hl : ts.length ≤ maxLen)
    (htl : t.size ≤ maxLen) (hbl : b.size ≤ maxLen) :
    Calls Try.prog 51 #[.agg #[.int .i64 k, .string t, .int .i64 m, .string b, .slice a ts.length cap]] w fun e w' => e = .returned (.bool (isB ⟨k, t, m, b, ts⟩)) ∧ Below w.heap.size w w' := by
  go_enter Try.func51, Try.ntmps51
  go_wp2_with (first
    | (go_at_call 60; refine (isName_any _ _ htl).mono ?_; rintro e w' ⟨rfl, rfl⟩)
    | (go_at_call 61; refine (isLine_any _ _ hbl).mono ?_; rintro e w' ⟨rfl, rfl⟩)
    | (go_at_call 62; refine (areTags_any _ _ _ _ (TagsAt.alloc ht.out _) hs hl).mono ?_; rintro e w' ⟨rfl, rfl⟩))
  all_goals
    go_ret
    exact ⟨ret_bool (by first | (simp [isB, *]; done) | (simp [isB]; intros; omega)), (Below.refl _ _).alloc (Nat.le_refl _) _⟩

set_option maxRecDepth 100000 in
set_option maxHeartbeats 1000000 in
theorem goesInto_any (v k : Int) (t : ByteArray) (m : Int) (b : ByteArray) (a : Option Addr) (cap : Nat) (ts : List ByteArray) (w : World) (ht : Hid (TagsAt w a ts)) (hs : Hid (Short ts)) (hl : ts.length ≤ maxLen)
    (htl : t.size ≤ maxLen) (hbl : b.size ≤ maxLen) :
    Calls Try.prog 26 #[.int .i64 v, .agg #[.int .i64 k, .string t, .int .i64 m, .string b, .slice a ts.length cap]] w fun e w' => e = .returned (.bool (goesB v ⟨k, t, m, b, ts⟩)) ∧ Below w.heap.size w w' := by
  by_cases hv : isVer v = true
  · have hI := is_any k t m b a cap ts (w.alloc (.cells #[.int .i64 k, .string t, .int .i64 m, .string b, .slice a ts.length cap] 24)) (TagsAt.alloc ht.out _) hs hl htl hbl
    unfold maxLen at hl
    generalize hq : isB ⟨k, t, m, b, ts⟩ = q at hI
    have HQ : Hid _ := hq
    clear hq
    cases q
    · go_enter Try.func26, Try.ntmps26
      go_wp2_with (first
        | (go_at_call 25; refine (isVersion_any _ _).mono ?_; rintro e w' ⟨rfl, rfl⟩)
        | (go_at_call 51; refine hI.mono ?_; rintro e w1 ⟨rfl, hb1⟩))
      go_ret
      exact ⟨ret_bool (by simp [goesB, HQ.out]), ((Below.refl _ _).alloc (Nat.le_refl _) _).trans (hb1.mono (by simp))⟩
    · go_enter Try.func26, Try.ntmps26
      go_wp2_with (first
        | (go_at_call 25; refine (isVersion_any _ _).mono ?_; rintro e w' ⟨rfl, rfl⟩)
        | (go_at_call 51; refine hI.mono ?_; rintro e w1 ⟨rfl, hb1⟩; obtain ⟨hc1, hf1⟩ := bcell hb1))
      all_goals
        go_ret
        refine ⟨ret_bool ?_, ((Below.refl _ _).alloc (Nat.le_refl _) _).trans (hb1.mono (by simp))⟩
        rw [goesB, hv, HQ.out]
        clear hI hb1 hc1 hf1 HQ ht hs
        first
          | (simp [fitsB, dashB, *]; done)
          | (simp [fitsB, dashB, *]; omega)
          | (simp [fitsB, dashB, *]; rw [show (k != 4) = true from bne_iff_ne.2 ‹¬ k = 4›]; simp)
  · have hv' : isVer v = false := by simpa using hv
    clear hv
    go_enter Try.func26, Try.ntmps26
    go_wp2_with (first
      | (go_at_call 25; refine (isVersion_any _ _).mono ?_; rintro e w' ⟨rfl, rfl⟩))
    go_ret
    exact ⟨ret_bool (by simp [goesB, hv']), (Below.refl _ _).alloc (Nat.le_refl _) _⟩
end Go.Proofs.Ytdjllnhahhjgmaa
