/- Walks of schema.read and schema.Decode. -/
import Derived.Test.YtdjllnhahhjgmaaS
import Derived.Test.YtdjllnhahhjgmaaE10
namespace Go.Proofs.Ytdjllnhahhjgmaa
open Go.RowKit Chron
theorem own_form {w : World} {B n : Nat} {x : Value} {ts : List ByteArray} (h : w.ownsRow B 9 1 x n (ts.map Value.string)) :
    ∃ a cap, x = .slice a ts.length cap ∧ TagsAt w a ts ∧ (∀ q off, a = some ⟨q, off, none⟩ → B ≤ q ∧ q < w.heap.size ∧ ∀ o, w.frozen? ⟨q, o, none⟩ = false) := by
  obtain ⟨hl, h2⟩ := h
  have hn : n = ts.length := by simpa using hl.symm
  subst hn
  rcases h2 with ⟨rfl, h0⟩ | ⟨g, cap, cur, rfl, hb, hg, h3, h4, h5, h6⟩
  · refine ⟨none, 0, by rw [h0], ?_, fun q off e => by cases e⟩
    intro h1; omega
  · refine ⟨some ⟨g, 0, none⟩, cap, rfl, ?_, ?_⟩
    · intro _
      refine ⟨g, 0, rfl, fun i hi => ?_⟩
      have hi2 : (cur.toList.take (ts.length * 1))[i]? = (ts.map Value.string)[i]? := by rw [h6]
      rw [List.getElem?_take, if_pos (by omega)] at hi2
      simp only [World.cell?, hg]
      rw [List.getElem?_map, List.getElem?_eq_getElem hi] at hi2
      simp only [Option.map_some, Array.getElem?_toList] at hi2
      simp [hi2, hi]
    · intro q off e
      simp only [Option.some.injEq, Addr.mk.injEq] at e
      obtain ⟨rfl, _⟩ := e
      exact ⟨hb, (Array.getElem?_eq_some_iff.1 hg).1, fun o => by simp [World.frozen?, hg]⟩
theorem alloc_cells {w : World} {N : Nat} {a b c d e : Value} {t : TypeId} (h : w.heap[N]? = some (.cells #[a, b, c, d, e] t)) :
    (∀ o, (w.alloc o).cell? ⟨N, 0, none⟩ = some a) ∧ (∀ o, (w.alloc o).cell? ⟨N, 1, none⟩ = some b) ∧ (∀ o, (w.alloc o).cell? ⟨N, 2, none⟩ = some c) ∧ (∀ o, (w.alloc o).cell? ⟨N, 3, none⟩ = some d) ∧ (∀ o, (w.alloc o).cell? ⟨N, 4, none⟩ = some e) ∧ ∀ o x, (w.alloc o).frozen? ⟨N, x, none⟩ = false := by
  have hlt := (Array.getElem?_eq_some_iff.1 h).1
  have hh : ∀ o, (w.alloc o).heap[N]? = some (.cells #[a, b, c, d, e] t) := fun o => (Below.heap_alloc _ _ _ hlt).trans h
  exact ⟨fun o => (res_cells (hh o)).1, fun o => (res_cells (hh o)).2.1, fun o => (res_cells (hh o)).2.2.1, fun o => (res_cells (hh o)).2.2.2.1, fun o => (res_cells (hh o)).2.2.2.2.1, fun o => (res_cells (hh o)).2.2.2.2.2⟩
theorem short_of {e : Ev} {n : Nat} (h : Fits e n) (hn : n ≤ maxLen) : Short e.tags := by
  intro i hi
  rw [List.getElem?_eq_getElem hi]
  exact Nat.le_trans (h.tags _ (List.getElem_mem hi)) hn
set_option maxRecDepth 100000 in
set_option maxHeartbeats 1000000 in
theorem read_any (v : Int) (s : List UInt8) (w : World) (hs : s.length ≤ maxLen) :
    Calls Try.prog 37 #[.int .i64 v, .string ⟨s.toArray⟩] w fun e w' =>
      ∃ x, e = .returned (.tuple #[evVal (rdB v s).1 x, .bool (rdB v s).2]) ∧ w'.ownsRow w.heap.size 9 1 x (rdB v s).1.tags.length ((rdB v s).1.tags.map Value.string) ∧ Below w.heap.size w w' := by
  by_cases hv : v = 1
  · subst hv
    have HR : Hid (rdB 1 s = rdLetter s) := rfl
    have hL := fun w' => readLetter_any s w' hs
    go_enter Try.func37, Try.ntmps37
    go_wp2_with (go_at_call 57; refine (hL _).mono ?_; rintro e w1 ⟨rfl, ht1, hb1⟩; simp only [evVal]; have HT1 := hide0 ht1; clear ht1; obtain ⟨hc1, hf1⟩ := bcell hb1)
    have hrb := (hb1.block w.heap.size (by rw [World.size_alloc]; omega)).trans (heap_alloc_new w _)
    obtain ⟨r0, r1, r2, r3, r4, rz⟩ := res_cells hrb
    refine bodyPost_ret (v := .tuple #[evVal (rdLetter s).1 (.slice none 0 0), .bool (rdLetter s).2]) (by simp [results, Try.results37, go_sem, evVal, r0, r1, r2, r3, r4]) rfl ⟨.slice none 0 0, ?_, ?_, ?_⟩
    · rw [HR.out]
    · rw [HR.out, HT1.out]; exact World.ownsRow_nil _ _ _ _
    · exact below_set5 (((Below.refl _ _).alloc (Nat.le_refl _) _).trans (hb1.mono (by simp))) (Nat.le_refl _)
  · have hvb : (v == 1) = false := by simp [hv]
    have HR : Hid (rdB v s = (rdFields v s, okOf v s)) := if_neg hv
    clear hv
    have hF := fun w' => readFields_any v s w' hs
    have hfit := rdFields_fits v s
    have HSH := hide0 (short_of hfit hs)
    have htl := Nat.le_trans hfit.task hs
    have hbl := Nat.le_trans hfit.body hs
    have hfew : (rdFields v s).tags.length ≤ maxLen := by have := hfit.few; unfold maxLen; omega
    have HOK : Hid (okOf v s = (decide ((encB v (rdFields v s)).2 = 0) && ((encB v (rdFields v s)).1 == s))) := rfl
    clear hfit
    generalize rdFields v s = E at *
    obtain ⟨k, t, m, b, ts⟩ := E
    simp only at hF htl hbl hfew HSH
    generalize hen : encB v ⟨k, t, m, b, ts⟩ = en at HOK
    have HEN := hide0 hen
    clear hen
    go_enter Try.func37, Try.ntmps37
    go_wp2_with (go_at_call 58; refine (hF _).mono ?_; rintro e w1 ⟨x, rfl, ho1, hb1⟩; obtain ⟨a, cap, rfl, hta, hfa⟩ := own_form ho1)
    have HO1 := hide0 ho1
    have hE1 := encode_any v k t m b a cap ts (w1.alloc (.cells #[.int .i64 k, .string t, .int .i64 m, .string b, .slice a ts.length cap] 24)) (TagsAt.alloc hta _) HSH hfew htl hbl
    rw [HEN.out] at hE1
    have hs1 := hb1.size
    rw [World.size_alloc] at hs1
    have hrb := (hb1.block w.heap.size (by rw [World.size_alloc]; omega)).trans (heap_alloc_new w _)
    clear ho1 hta hfa hF
    refine hE1.mono ?_
    rintro e w2 ⟨rfl, hb2⟩
    have hrb2 := (hb2.block w.heap.size (by rw [World.size_alloc]; omega)).trans ((Below.heap_alloc _ _ _ (by omega)).trans hrb)
    have hbx2 := (hb2.block w1.heap.size (by rw [World.size_alloc]; omega)).trans (heap_alloc_new w1 _)
    obtain ⟨r0, r1, r2, r3, r4, rz⟩ := res_cells hrb2
    obtain ⟨c0, c1, c2, c3, c4, cz⟩ := res_cells hbx2
    have hne : ¬ w1.heap.size = w.heap.size := by omega
    have HB : Hid (Below w.heap.size w w2) := (((Below.refl w.heap.size w).alloc (Nat.le_refl _) _).trans (hb1.mono (by rw [World.size_alloc]; omega))).trans ((((Below.refl w.heap.size w1).alloc (by omega) _)).trans (hb2.mono (by rw [World.size_alloc]; omega)))
    have HO2 : Hid (w2.ownsRow (w.heap.size + 1) 9 1 (.slice a ts.length cap) ts.length (ts.map Value.string)) := by
      have := own_below (own_below HO1.out ((Below.refl _ _).alloc (Nat.le_refl _) _)) hb2
      rw [World.size_alloc] at this; exact this
    clear hE1 hb1 hb2 hrb hrb2 hbx2 HO1
    obtain ⟨en1, en2⟩ := en
    simp only
    by_cases h2 : en2 = 0
    · have h2b : (en2 == 0) = true := by simp [h2]
      go_wp2
      refine bodyPost_ret (v := .tuple #[evVal ⟨k, t, m, b, ts⟩ (.slice a ts.length cap), .bool (en1 == s)]) (by simp [results, Try.results37, go_sem, evVal, r0, r1, r2, r3, r4]) rfl ⟨.slice a ts.length cap, ?_, ?_, ?_⟩
      · rw [HR.out, HOK.out]; simp [h2]
      · rw [HR.out]; exact own_set5 HO2.out (by omega) (by omega)
      · exact below_set5 HB.out (Nat.le_refl _)
    · have h2b : (en2 == 0) = false := by simp [h2]
      go_wp2
      refine bodyPost_ret (v := .tuple #[evVal ⟨k, t, m, b, ts⟩ (.slice a ts.length cap), .bool (false)]) (by simp [results, Try.results37, go_sem, evVal, r0, r1, r2, r3, r4]) rfl ⟨.slice a ts.length cap, ?_, ?_, ?_⟩
      · rw [HR.out, HOK.out]; simp [h2]
      · rw [HR.out]; exact own_set5 HO2.out (by omega) (by omega)
      · exact below_set5 HB.out (Nat.le_refl _)

set_option maxRecDepth 100000 in
set_option maxHeartbeats 1000000 in
theorem decode_any (v : Int) (s : List UInt8) (w : World) (hs : s.length ≤ maxLen) :
    Calls Try.prog 14 #[.int .i64 v, .string ⟨s.toArray⟩] w fun e w' =>
      ∃ x, e = .returned (.tuple #[evVal (decB v s).1 x, .int .i64 (decB v s).2]) ∧ w'.ownsRow w.heap.size 9 1 x (decB v s).1.tags.length ((decB v s).1.tags.map Value.string) ∧ Below w.heap.size w w' := by
  by_cases hv : isVer v = true
  · have hR := fun w' => read_any v s w' hs
    have hkn : (rdB v s).2 = true → Known (rdB v s).1 := fun h => is_known (rd_is h)
    have HD : Hid (decB v s = if (rdB v s).2 = false then (zeroEv, 3) else ((rdB v s).1, 0)) := by simp [Hid, decB, hv]
    generalize rdB v s = E at *
    obtain ⟨⟨k, t, m, b, ts⟩, ok⟩ := E
    simp only at hR hkn HD
    cases ok
    · have HD' : Hid (decB v s = (zeroEv, 3)) := HD.out.trans (if_pos rfl)
      clear HD hkn
      go_enter Try.func14, Try.ntmps14
      go_wp2_with (first
        | (go_at_call 25; refine (isVersion_any _ _).mono ?_; rintro e w' ⟨rfl, rfl⟩)
        | (go_at_call 37; refine (hR _).mono ?_; rintro e w1 ⟨x, rfl, ho1, hb1⟩; simp only [evVal]; have hs1 := hb1.size; rw [World.size_alloc] at hs1; have hrb := (hb1.block w.heap.size (by rw [World.size_alloc]; omega)).trans (heap_alloc_new w _); obtain ⟨r0, r1, r2, r3, r4, rz⟩ := alloc_cells hrb; obtain ⟨a, cap, rfl, _, _⟩ := own_form ho1; have hne : ¬ w1.heap.size = w.heap.size := by omega))
      refine bodyPost_ret (v := .tuple #[evVal zeroEv (.slice none 0 0), .int .i64 3]) (by simp [results, Try.results14, go_sem, evVal, zeroEv, r0, r1, r2, r3, r4]) rfl ⟨.slice none 0 0, ?_, ?_, ?_⟩
      · rw [HD'.out]
      · rw [HD'.out]; exact World.ownsRow_nil _ _ _ _
      · exact below_set5 ((((Below.refl w.heap.size w).alloc (Nat.le_refl _) _).trans (hb1.mono (by rw [World.size_alloc]; omega))).alloc (by omega) _) (Nat.le_refl _)
    · have HD' : Hid (decB v s = (⟨k, t, m, b, ts⟩, 0)) := HD.out.trans (if_neg (by simp))
      obtain ⟨_, _, htk, _, _, _, hbd, hfew, hlines⟩ := hkn rfl
      simp only at htk hbd hfew hlines
      have HLN := hide0 hlines
      clear HD hkn hlines
      go_enter Try.func14, Try.ntmps14
      go_wp2_with (first
        | (go_at_call 25; refine (isVersion_any _ _).mono ?_; rintro e w' ⟨rfl, rfl⟩)
        | (go_at_call 37; refine (hR _).mono ?_; rintro e w1 ⟨x, rfl, ho1, hb1⟩; simp only [evVal]; have hs1 := hb1.size; rw [World.size_alloc] at hs1; have hrb := (hb1.block w.heap.size (by rw [World.size_alloc]; omega)).trans (heap_alloc_new w _); obtain ⟨a, cap, rfl, hta, hfa⟩ := own_form ho1; have hne : ¬ w1.heap.size = w.heap.size := by omega))
      have hO := copy_any k t m b a cap ts (w1.alloc (.cells #[.int .i64 k, .string t, .int .i64 m, .string b, .slice a ts.length cap] 24)) (TagsAt.alloc hta _) HLN hfew htk hbd
      clear ho1 hta hfa hR
      refine hO.mono ?_
      rintro e w2 ⟨x2, rfl, ho2, hb2⟩
      obtain ⟨a2, cap2, rfl, _⟩ := own_shape ho2
      have hrb2 := (hb2.block w.heap.size (by rw [World.size_alloc]; omega)).trans ((Below.heap_alloc _ _ _ (by omega)).trans hrb)
      obtain ⟨r0, r1, r2, r3, r4, rz⟩ := res_cells hrb2
      have HB : Hid (Below w.heap.size w w2) := (((Below.refl w.heap.size w).alloc (Nat.le_refl _) _).trans (hb1.mono (by rw [World.size_alloc]; omega))).trans ((((Below.refl w.heap.size w1).alloc (by omega) _)).trans (hb2.mono (by rw [World.size_alloc]; omega)))
      have HO2 : Hid (w2.ownsRow (w.heap.size + 1) 9 1 (.slice a2 ts.length cap2) ts.length (ts.map Value.string)) := own_mono ho2 (by rw [World.size_alloc]; omega)
      clear hO hb1 hb2 hrb hrb2 ho2
      go_wp2
      refine bodyPost_ret (v := .tuple #[evVal ⟨k, t, m, b, ts⟩ (.slice a2 ts.length cap2), .int .i64 0]) (by simp [results, Try.results14, go_sem, evVal, r0, r1, r2, r3, r4]) rfl ⟨.slice a2 ts.length cap2, ?_, ?_, ?_⟩
      · rw [HD'.out]
      · rw [HD'.out]; exact own_set5 HO2.out (by omega) (by omega)
      · exact below_set5 HB.out (Nat.le_refl _)
  · have hv' : isVer v = false := by simpa using hv
    have HD' : Hid (decB v s = (zeroEv, 1)) := by simp [Hid, decB, hv']
    clear hv
    go_enter Try.func14, Try.ntmps14
    go_wp2_with (first
      | (go_at_call 25; refine (isVersion_any _ _).mono ?_; rintro e w' ⟨rfl, rfl⟩))
    refine bodyPost_ret (v := .tuple #[evVal zeroEv (.slice none 0 0), .int .i64 1]) (by simp [results, Try.results14, go_sem, evVal, zeroEv]) rfl ⟨.slice none 0 0, ?_, ?_, ?_⟩
    · rw [HD'.out]
    · rw [HD'.out]; exact World.ownsRow_nil _ _ _ _
    · exact (Below.refl _ _).alloc (Nat.le_refl _) _
end Go.Proofs.Ytdjllnhahhjgmaa
