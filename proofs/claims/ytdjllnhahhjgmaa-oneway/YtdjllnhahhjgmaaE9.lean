/- Walk of schema.readLetter. -/
import Derived.Test.YtdjllnhahhjgmaaE8
namespace Go.Proofs.Ytdjllnhahhjgmaa
open Go.RowKit Chron
def evVal (e : Ev) (x : Value) : Value := .agg #[.int .i64 e.kind, .string e.task, .int .i64 e.time, .string e.body, x]
theorem below_set5 {B N : Nat} {a w : World} {x0 x1 x2 x3 x4 : Value} (h : Below B a w) (hN : B ≤ N) : Below B a (((((w.setCell ⟨N, 0, none⟩ x0).setCell ⟨N, 1, none⟩ x1).setCell ⟨N, 2, none⟩ x2).setCell ⟨N, 3, none⟩ x3).setCell ⟨N, 4, none⟩ x4) :=
  ((((h.setCell hN _).setCell hN _).setCell hN _).setCell hN _).setCell hN _
theorem new_cells (w : World) (nq : Nat) (Z : Obj) (a b c d e : Value) (t : TypeId) :
    (((w.alloc Z).drewN nq).alloc (.cells #[a, b, c, d, e] t)).cell? ⟨w.heap.size + 1, 0, none⟩ = some a ∧ (((w.alloc Z).drewN nq).alloc (.cells #[a, b, c, d, e] t)).cell? ⟨w.heap.size + 1, 1, none⟩ = some b ∧ (((w.alloc Z).drewN nq).alloc (.cells #[a, b, c, d, e] t)).cell? ⟨w.heap.size + 1, 2, none⟩ = some c ∧ (((w.alloc Z).drewN nq).alloc (.cells #[a, b, c, d, e] t)).cell? ⟨w.heap.size + 1, 3, none⟩ = some d ∧ (((w.alloc Z).drewN nq).alloc (.cells #[a, b, c, d, e] t)).cell? ⟨w.heap.size + 1, 4, none⟩ = some e ∧ ∀ o, (((w.alloc Z).drewN nq).alloc (.cells #[a, b, c, d, e] t)).frozen? ⟨w.heap.size + 1, o, none⟩ = false := by
  have h := heap_alloc_new ((w.alloc Z).drewN nq) (.cells #[a, b, c, d, e] t)
  rw [show ((w.alloc Z).drewN nq).heap.size = w.heap.size + 1 from World.size_alloc w Z] at h
  exact res_cells h
theorem old_block (w : World) (nq : Nat) (Z o : Obj) : (((w.alloc Z).drewN nq).alloc o).heap[w.heap.size]? = some Z := by
  rw [Below.heap_alloc _ _ _ (by show w.heap.size < (w.alloc Z).heap.size; simp)]
  exact heap_alloc_new w Z
theorem two_below (w : World) (nq : Nat) (Z o : Obj) : Below w.heap.size w (((w.alloc Z).drewN nq).alloc o) :=
  (below_drewN ((Below.refl _ _).alloc (Nat.le_refl _) _) nq).alloc (by show w.heap.size ≤ (w.alloc Z).heap.size; simp) _
theorem two_size (w : World) (nq : Nat) (Z o : Obj) : (((w.alloc Z).drewN nq).alloc o).heap.size = w.heap.size + 2 := by
  rw [World.size_alloc]; show (w.alloc Z).heap.size + 1 = _; simp
theorem two_lt (w : World) (nq : Nat) (Z o : Obj) : w.heap.size < (((w.alloc Z).drewN nq).alloc o).drew.heap.size := by
  show w.heap.size < (((w.alloc Z).drewN nq).alloc o).heap.size
  rw [two_size]; omega
theorem tags_none (w : World) : TagsAt w none [] := fun h => by simp at h
theorem short_none : Short [] := fun i h => by simp at h
set_option maxRecDepth 100000 in
set_option maxHeartbeats 400000 in
theorem readLetter_any (s : List UInt8) (w : World) (hs : s.length ≤ maxLen) :
    Calls Try.prog 57 #[.string ⟨s.toArray⟩] w fun e w' =>
      e = .returned (.tuple #[evVal (rdLetter s).1 (.slice none 0 0), .bool (rdLetter s).2]) ∧ (rdLetter s).1.tags = [] ∧ Below w.heap.size w w' := by
  match s, hs with
  | [], hs =>
    go_enter Try.func57, Try.ntmps57
    go_wp2
    exact bodyPost_ret (v := .tuple #[evVal zeroEv (.slice none 0 0), .bool false]) (by simp [results, Try.results57, go_sem, evVal, zeroEv]) rfl ⟨rfl, rfl, (Below.refl _ _).alloc (Nat.le_refl _) _⟩
  | c :: r, hs =>
    have hr : r.length ≤ maxLen := by simp at hs; omega
    have hne : (⟨(c :: r).toArray⟩ : ByteArray).toList.isEmpty = false := by rw [ByteArray.toList_eq]; rfl
    have hext : (⟨(c :: r).toArray⟩ : ByteArray).extract 1 (r.length + 1) = ⟨r.toArray⟩ := extract_end ⟨(c :: r).toArray⟩ 1
    have hT := fun w' => readText_any ⟨r.toArray⟩ w' hr
    simp only at hT
    rcases hq : readTx r with _ | ⟨t, b⟩
    · have HE : Hid (rdLetter (c :: r) = (zeroEv, false)) := by simp [Hid, rdLetter, hq]
      rw [hq] at hT
      clear hq
      go_enter Try.func57, Try.ntmps57
      go_wp2_with (go_at_call 64; refine (hT _).mono ?_; rintro e w1 ⟨rfl, nq, rfl⟩; simp only [txVal])
      refine bodyPost_ret (v := .tuple #[evVal zeroEv (.slice none 0 0), .bool false]) (by simp [results, Try.results57, go_sem, evVal, zeroEv]) rfl ⟨?_, ?_, ?_⟩
      · rw [HE.out]
      · rw [HE.out]; rfl
      · exact below_set5 (below_drewN ((Below.refl _ _).alloc (Nat.le_refl _) _) nq) (Nat.le_refl _)
    · have hlen := readTx_len hq
      rw [hq] at hT
      simp only [txVal] at hT
      obtain ⟨k, hk, HK⟩ : ∃ k, wrap64 (Lib.indexByte [98, 100, 102] c + 1) = k ∧ Hid (k = letterKind c) := ⟨_, rfl, letterKind_wrap c⟩
      have hidx : ∀ h, (⟨(c :: r).toArray⟩ : ByteArray)[0]'h = c := fun _ => rfl
      have htl : (⟨t.toArray⟩ : ByteArray).size ≤ maxLen := by show t.length ≤ _; omega
      have hbl : (⟨b.toArray⟩ : ByteArray).size ≤ maxLen := by show b.length ≤ _; omega
      by_cases ht : t = []
      · have HE : Hid (rdLetter (c :: r) = (⟨k, ⟨#[45]⟩, 0, ⟨b.toArray⟩, []⟩, isB ⟨k, ⟨#[45]⟩, 0, ⟨b.toArray⟩, []⟩)) := by simp [Hid, rdLetter, hq, ht, HK.out]
        have htb : t.isEmpty = true := by simpa using ht
        have hdl : (⟨#[45]⟩ : ByteArray).size ≤ maxLen := by decide
        have hG : ∀ w', Calls Try.prog 51 #[.agg #[.int .i64 k, .string ⟨#[45]⟩, .int .i64 0, .string ⟨b.toArray⟩, .slice none 0 0]] w' fun e w'' => e = .returned (.bool (isB ⟨k, ⟨#[45]⟩, 0, ⟨b.toArray⟩, []⟩)) ∧ Below w'.heap.size w' w'' := fun w' => is_any k ⟨#[45]⟩ 0 ⟨b.toArray⟩ none 0 [] w' (tags_none w') short_none (Nat.zero_le _) hdl hbl
        clear hq ht htl hbl
        go_enter Try.func57, Try.ntmps57
        go_wp2_with (first
          | (go_at_call 64; refine (hT _).mono ?_; rintro e w1 ⟨rfl, nq, rfl⟩)
          | (go_at_call 65; refine (Try.strings_IndexByte _ _ _).mono ?_; rintro e w' ⟨rfl, rfl⟩))
        obtain ⟨k0, k1, k2, k3, k4, kz⟩ := new_cells w nq (.cells #[.int .i64 0, .string ⟨#[]⟩, .int .i64 0, .string ⟨#[]⟩, .slice none 0 0] 24) (.int .i64 k) (.string ⟨#[45]⟩) (.int .i64 0) (.string ⟨b.toArray⟩) (.slice none 0 0) 24
        go_region_held (fun w' => w'.cell? ⟨w.heap.size + 1, 0, none⟩ = some (.int .i64 k) ∧ w'.cell? ⟨w.heap.size + 1, 1, none⟩ = some (.string ⟨#[45]⟩) ∧ w'.cell? ⟨w.heap.size + 1, 2, none⟩ = some (.int .i64 0) ∧ w'.cell? ⟨w.heap.size + 1, 3, none⟩ = some (.string ⟨b.toArray⟩) ∧ w'.cell? ⟨w.heap.size + 1, 4, none⟩ = some (.slice none 0 0)) (go_keep)
          (first | (go_at_call 51; refine (hG _).mono ?_; rintro e w2 ⟨rfl, hb2⟩; obtain ⟨hc2, hf2⟩ := bcell hb2))
        have hrb := hb2.block w.heap.size (two_lt w nq _ _)
        obtain ⟨r0, r1, r2, r3, r4, rz⟩ := res_cells (hrb.trans (old_block w nq (.cells #[.int .i64 0, .string ⟨#[]⟩, .int .i64 0, .string ⟨#[]⟩, .slice none 0 0] 24) _))
        clear hc2 hf2 hG hT k0 k1 k2 k3 k4 kz
        go_wp2
        refine bodyPost_ret (v := .tuple #[evVal ⟨k, ⟨#[45]⟩, 0, ⟨b.toArray⟩, []⟩ (.slice none 0 0), .bool (isB ⟨k, ⟨#[45]⟩, 0, ⟨b.toArray⟩, []⟩)]) (by simp [results, Try.results57, go_sem, evVal, r0, r1, r2, r3, r4]) rfl ⟨?_, ?_, ?_⟩
        · rw [HE.out]
        · rw [HE.out]
        · exact below_set5 ((two_below w nq _ _).drew.trans (hb2.mono (Nat.le_of_lt (two_lt w nq _ _)))) (Nat.le_refl _)
      · have HE : Hid (rdLetter (c :: r) = (⟨k, ⟨t.toArray⟩, 0, ⟨b.toArray⟩, []⟩, goesB 1 ⟨k, ⟨t.toArray⟩, 0, ⟨b.toArray⟩, []⟩)) := by simp [Hid, rdLetter, hq, ht, HK.out]
        have htb : t.isEmpty = false := by simpa using ht
        have hG : ∀ w', Calls Try.prog 26 #[.int .i64 1, .agg #[.int .i64 k, .string ⟨t.toArray⟩, .int .i64 0, .string ⟨b.toArray⟩, .slice none 0 0]] w' fun e w'' => e = .returned (.bool (goesB 1 ⟨k, ⟨t.toArray⟩, 0, ⟨b.toArray⟩, []⟩)) ∧ Below w'.heap.size w' w'' := fun w' => goesInto_any 1 k ⟨t.toArray⟩ 0 ⟨b.toArray⟩ none 0 [] w' (tags_none w') short_none (Nat.zero_le _) htl hbl
        clear hq ht htl hbl
        go_enter Try.func57, Try.ntmps57
        go_wp2_with (first
          | (go_at_call 64; refine (hT _).mono ?_; rintro e w1 ⟨rfl, nq, rfl⟩)
          | (go_at_call 65; refine (Try.strings_IndexByte _ _ _).mono ?_; rintro e w' ⟨rfl, rfl⟩))
        obtain ⟨k0, k1, k2, k3, k4, kz⟩ := new_cells w nq (.cells #[.int .i64 0, .string ⟨#[]⟩, .int .i64 0, .string ⟨#[]⟩, .slice none 0 0] 24) (.int .i64 k) (.string ⟨t.toArray⟩) (.int .i64 0) (.string ⟨b.toArray⟩) (.slice none 0 0) 24
        go_region_held (fun w' => w'.cell? ⟨w.heap.size + 1, 0, none⟩ = some (.int .i64 k) ∧ w'.cell? ⟨w.heap.size + 1, 1, none⟩ = some (.string ⟨t.toArray⟩) ∧ w'.cell? ⟨w.heap.size + 1, 2, none⟩ = some (.int .i64 0) ∧ w'.cell? ⟨w.heap.size + 1, 3, none⟩ = some (.string ⟨b.toArray⟩) ∧ w'.cell? ⟨w.heap.size + 1, 4, none⟩ = some (.slice none 0 0)) (go_keep)
          (first | (go_at_call 26; refine (hG _).mono ?_; rintro e w2 ⟨rfl, hb2⟩; obtain ⟨hc2, hf2⟩ := bcell hb2))
        have hrb := hb2.block w.heap.size (two_lt w nq _ _)
        obtain ⟨r0, r1, r2, r3, r4, rz⟩ := res_cells (hrb.trans (old_block w nq (.cells #[.int .i64 0, .string ⟨#[]⟩, .int .i64 0, .string ⟨#[]⟩, .slice none 0 0] 24) _))
        clear hc2 hf2 hG hT k0 k1 k2 k3 k4 kz
        go_wp2
        refine bodyPost_ret (v := .tuple #[evVal ⟨k, ⟨t.toArray⟩, 0, ⟨b.toArray⟩, []⟩ (.slice none 0 0), .bool (goesB 1 ⟨k, ⟨t.toArray⟩, 0, ⟨b.toArray⟩, []⟩)]) (by simp [results, Try.results57, go_sem, evVal, r0, r1, r2, r3, r4]) rfl ⟨?_, ?_, ?_⟩
        · rw [HE.out]
        · rw [HE.out]
        · exact below_set5 ((two_below w nq _ _).drew.trans (hb2.mono (Nat.le_of_lt (two_lt w nq _ _)))) (Nat.le_refl _)
end Go.Proofs.Ytdjllnhahhjgmaa
