/- Walks of schema.writeLetter and schema.Encode. -/
import Derived.Test.YtdjllnhahhjgmaaE5
import Derived.Deep.RegionHeld
namespace Go.Proofs.Ytdjllnhahhjgmaa
open Go.RowKit Chron
set_option maxRecDepth 100000 in
set_option maxHeartbeats 1000000 in
theorem writeLetter_any (k : Int) (c : UInt8) (t : ByteArray) (m : Int) (b : ByteArray) (a : Option Addr) (n cap : Nat) (w : World)
    (htl : t.size ≤ 60) (hbl : b.size ≤ 60) (hk : k = 1 ∧ c = 98 ∨ k = 2 ∧ c = 100 ∨ k = 3 ∧ c = 102) :
    Calls Try.prog 27 #[.agg #[.int .i64 k, .string t, .int .i64 m, .string b, .slice a n cap]] w fun e w' => e = .returned (.string ⟨(c :: text t.data.toList ++ b.data.toList).toArray⟩) ∧ Below w.heap.size w w' := by
  have htx : (text t.data.toList).length ≤ 70 := by have := text_len t.data.toList; simp at this; omega
  have hw1 : IntKind.i64.wrap 1 = 1 := by decide
  have hw2 : IntKind.i64.wrap 2 = 2 := by decide
  have hw3 : IntKind.i64.wrap 3 = 3 := by decide
  rcases hk with ⟨rfl, rfl⟩ | ⟨rfl, rfl⟩ | ⟨rfl, rfl⟩
  · go_enter Try.func27, Try.ntmps27
    go_wp2_with fail
    go_region_held (fun w' => w'.cell? ⟨w.heap.size, 1, none⟩ = some (.string t) ∧ w'.cell? ⟨w.heap.size, 3, none⟩ = some (.string b)) (go_keep)
      (first | (go_at_call 52; refine (wireText_any t _ (by omega)).mono ?_; rintro e w1 ⟨rfl, hb1⟩; obtain ⟨hc1, hf1⟩ := bcell hb1))
    go_wp2
    go_ret
    exact ⟨ret_str (letter_eq (by decide)), ((Below.refl w.heap.size w).alloc (Nat.le_refl _) _).drew.trans (hb1.mono (by simp))⟩
  · go_enter Try.func27, Try.ntmps27
    go_wp2_with fail
    go_region_held (fun w' => w'.cell? ⟨w.heap.size, 1, none⟩ = some (.string t) ∧ w'.cell? ⟨w.heap.size, 3, none⟩ = some (.string b)) (go_keep)
      (first | (go_at_call 52; refine (wireText_any t _ (by omega)).mono ?_; rintro e w1 ⟨rfl, hb1⟩; obtain ⟨hc1, hf1⟩ := bcell hb1))
    go_wp2
    go_ret
    exact ⟨ret_str (letter_eq (by decide)), ((Below.refl w.heap.size w).alloc (Nat.le_refl _) _).drew.trans (hb1.mono (by simp))⟩
  · go_enter Try.func27, Try.ntmps27
    go_wp2_with fail
    go_region_held (fun w' => w'.cell? ⟨w.heap.size, 1, none⟩ = some (.string t) ∧ w'.cell? ⟨w.heap.size, 3, none⟩ = some (.string b)) (go_keep)
      (first | (go_at_call 52; refine (wireText_any t _ (by omega)).mono ?_; rintro e w1 ⟨rfl, hb1⟩; obtain ⟨hc1, hf1⟩ := bcell hb1))
    go_wp2
    go_ret
    exact ⟨ret_str (letter_eq (by decide)), ((Below.refl w.heap.size w).alloc (Nat.le_refl _) _).drew.trans (hb1.mono (by simp))⟩

theorem hide0 {p : Prop} (h : p) : Hid p := h
theorem ret_enc {v : Int} {e : Ev} {s : ByteArray} {c : Int} {l : List UInt8} (hs : s = ⟨l.toArray⟩) (h : encB v e = (l, c)) :
    Ending.returned (.tuple #[.string s, .int .i64 c]) = .returned (.tuple #[.string ⟨(encB v e).1.toArray⟩, .int .i64 (encB v e).2]) := by rw [h, hs]
set_option maxRecDepth 100000 in
set_option maxHeartbeats 1000000 in
theorem encode_any (v k : Int) (t : ByteArray) (m : Int) (b : ByteArray) (a : Option Addr) (cap : Nat) (ts : List ByteArray) (w : World) (ht : Hid (TagsAt w a ts)) (hs : Hid (Short ts)) (hl : ts.length ≤ maxLen)
    (htl : t.size ≤ maxLen) (hbl : b.size ≤ maxLen) :
    Calls Try.prog 9 #[.int .i64 v, .agg #[.int .i64 k, .string t, .int .i64 m, .string b, .slice a ts.length cap]] w fun e w' =>
      e = .returned (.tuple #[.string ⟨(encB v ⟨k, t, m, b, ts⟩).1.toArray⟩, .int .i64 (encB v ⟨k, t, m, b, ts⟩).2]) ∧ Below w.heap.size w w' := by
  by_cases hv : isVer v = true
  · have hG := goesInto_any v k t m b a cap ts (w.alloc (.cells #[.int .i64 k, .string t, .int .i64 m, .string b, .slice a ts.length cap] 24)) (TagsAt.alloc ht.out _) hs hl htl hbl
    generalize hq : goesB v ⟨k, t, m, b, ts⟩ = q at hG
    have HQ : Hid _ := hq
    clear hq
    cases q
    · have HE : Hid (encB v ⟨k, t, m, b, ts⟩ = ([], 2)) := by simp [Hid, encB, hv, HQ.out]
      go_enter Try.func9, Try.ntmps9
      go_wp2_with (first
        | (go_at_call 25; refine (isVersion_any _ _).mono ?_; rintro e w' ⟨rfl, rfl⟩)
        | (go_at_call 26; refine hG.mono ?_; rintro e w1 ⟨rfl, hb1⟩; obtain ⟨hc1, hf1⟩ := bcell hb1))
      go_ret2
      exact ⟨ret_enc rfl HE.out, ((Below.refl _ _).alloc (Nat.le_refl _) _).trans (hb1.mono (by simp))⟩
    · obtain ⟨h1, h4, htk, _, ht0, ht1, hbd, hfew, hlines⟩ := is_known (goes_is HQ.out)
      simp only at h1 h4 htk ht0 ht1 hbd hfew hlines
      have HT := hide0 (time_small ht1)
      have HLN := hide0 hlines
      clear ht1 hlines
      by_cases hv1 : v = 1
      · subst hv1
        have HE : Hid (encB 1 ⟨k, t, m, b, ts⟩ = (letterB ⟨k, t, m, b, ts⟩, 0)) := by simp [Hid, encB, hv, HQ.out]
        have hcs := letter_cases h1 h4 (goes_one HQ.out).1
        have hWL := fun w' => writeLetter_any k (letterOf k) t m b a ts.length cap w' htk hbd hcs
        clear hcs
        go_enter Try.func9, Try.ntmps9
        go_wp2_with (first
          | (go_at_call 25; refine (isVersion_any _ _).mono ?_; rintro e w' ⟨rfl, rfl⟩)
          | (go_at_call 26; refine hG.mono ?_; rintro e w1 ⟨rfl, hb1⟩; obtain ⟨hc1, hf1⟩ := bcell hb1)
          | (go_at_call 27; refine (hWL _).mono ?_; rintro e w2 ⟨rfl, hb2⟩))
        go_ret2
        exact ⟨ret_enc rfl HE.out, (((Below.refl _ _).alloc (Nat.le_refl _) _).trans (hb1.mono (by simp))).trans (hb2.mono (by have := hb1.size; simp at this; omega))⟩
      · have hvb : (v == 1) = false := by simp [hv1]
        have HE : Hid (encB v ⟨k, t, m, b, ts⟩ = (fieldsB v ⟨k, t, m, b, ts⟩, 0)) := by simp [Hid, encB, hv, HQ.out, hv1]
        clear hv1
        have hWF := fun w' hx => writeFields_any v k t m b a cap ts w' hx HLN hfew htk hbd h1 h4 ht0 HT
        go_enter Try.func9, Try.ntmps9
        go_wp2_with (first
          | (go_at_call 25; refine (isVersion_any _ _).mono ?_; rintro e w' ⟨rfl, rfl⟩)
          | (go_at_call 26; refine hG.mono ?_; rintro e w1 ⟨rfl, hb1⟩; obtain ⟨hc1, hf1⟩ := bcell hb1)
          | (go_at_call 28; refine (hWF _ (TagsAt.below (TagsAt.alloc ht.out _) hb1 (Nat.le_refl _))).mono ?_; rintro e w2 ⟨rfl, hb2⟩))
        go_ret2
        exact ⟨ret_enc rfl HE.out, (((Below.refl _ _).alloc (Nat.le_refl _) _).trans (hb1.mono (by simp))).trans (hb2.mono (by have := hb1.size; simp at this; omega))⟩
  · have hv' : isVer v = false := by simpa using hv
    have HE : Hid (encB v ⟨k, t, m, b, ts⟩ = ([], 1)) := by simp [Hid, encB, hv']
    clear hv
    go_enter Try.func9, Try.ntmps9
    go_wp2_with (first
      | (go_at_call 25; refine (isVersion_any _ _).mono ?_; rintro e w' ⟨rfl, rfl⟩))
    go_ret2
    exact ⟨ret_enc rfl HE.out, (Below.refl _ _).alloc (Nat.le_refl _) _⟩
end Go.Proofs.Ytdjllnhahhjgmaa
