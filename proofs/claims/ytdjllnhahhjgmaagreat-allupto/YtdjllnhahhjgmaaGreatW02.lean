/- Walks and plain facts, in the order in which they lean on one another. -/
import Derived.Test.YtdjllnhahhjgmaaGreatW01
import Derived.Deep.RegionHeld
import Derived.Deep.AppendLies
import Derived.Deep.RegionLaw
namespace Go.Proofs.YtdjllnhahhjgmaaGreat
open Go.RowKit Chron
set_option maxRecDepth 100000 in
set_option maxHeartbeats 1000000 in
theorem writeLetter_any (k : Int) (c : UInt8) (t : ByteArray) (m : Int) (b : ByteArray) (a : Option Addr) (n cap : Nat) (w : World)
    (htl : t.size ≤ 60) (hbl : b.size ≤ 60) (hk : k = 1 ∧ c = 98 ∨ k = 2 ∧ c = 100 ∨ k = 3 ∧ c = 102) :
    Calls Tryz.prog 79 #[.agg #[.int .i64 k, .string t, .int .i64 m, .string b, .slice a n cap]] w fun e w' => e = .returned (.string ⟨(c :: text t.data.toList ++ b.data.toList).toArray⟩) ∧ Below w.heap.size w w' := by
  have htx : (text t.data.toList).length ≤ 70 := by have := text_len t.data.toList; simp at this; omega
  have hw1 : IntKind.i64.wrap 1 = 1 := by decide
  have hw2 : IntKind.i64.wrap 2 = 2 := by decide
  have hw3 : IntKind.i64.wrap 3 = 3 := by decide
  rcases hk with ⟨rfl, rfl⟩ | ⟨rfl, rfl⟩ | ⟨rfl, rfl⟩
  · go_enter Tryz.func79, Tryz.ntmps79
    go_wp2_with fail
    go_region_held (fun w' => w'.cell? ⟨w.heap.size, 1, none⟩ = some (.string t) ∧ w'.cell? ⟨w.heap.size, 3, none⟩ = some (.string b)) (go_keep)
      (first | (go_at_call 60; refine (wireText_any t _ (by omega)).mono ?_; rintro e w1 ⟨rfl, hb1⟩; obtain ⟨hc1, hf1⟩ := bcell hb1))
    go_wp2
    go_ret
    exact ⟨ret_str (letter_eq (by decide)), ((Below.refl w.heap.size w).alloc (Nat.le_refl _) _).drew.trans (hb1.mono (by simp))⟩
  · go_enter Tryz.func79, Tryz.ntmps79
    go_wp2_with fail
    go_region_held (fun w' => w'.cell? ⟨w.heap.size, 1, none⟩ = some (.string t) ∧ w'.cell? ⟨w.heap.size, 3, none⟩ = some (.string b)) (go_keep)
      (first | (go_at_call 60; refine (wireText_any t _ (by omega)).mono ?_; rintro e w1 ⟨rfl, hb1⟩; obtain ⟨hc1, hf1⟩ := bcell hb1))
    go_wp2
    go_ret
    exact ⟨ret_str (letter_eq (by decide)), ((Below.refl w.heap.size w).alloc (Nat.le_refl _) _).drew.trans (hb1.mono (by simp))⟩
  · go_enter Tryz.func79, Tryz.ntmps79
    go_wp2_with fail
    go_region_held (fun w' => w'.cell? ⟨w.heap.size, 1, none⟩ = some (.string t) ∧ w'.cell? ⟨w.heap.size, 3, none⟩ = some (.string b)) (go_keep)
      (first | (go_at_call 60; refine (wireText_any t _ (by omega)).mono ?_; rintro e w1 ⟨rfl, hb1⟩; obtain ⟨hc1, hf1⟩ := bcell hb1))
    go_wp2
    go_ret
    exact ⟨ret_str (letter_eq (by decide)), ((Below.refl w.heap.size w).alloc (Nat.le_refl _) _).drew.trans (hb1.mono (by simp))⟩

theorem hide0 {p : Prop} (h : p) : Hid p := h
theorem ret_enc {v : Int} {e : Ev} {s : ByteArray} {c : Int} {l : List UInt8} (hs : s = ⟨l.toArray⟩) (h : encB v e = (l, c)) :
    Ending.returned (.tuple #[.string s, .int .i64 c]) = .returned (.tuple #[.string ⟨(encB v e).1.toArray⟩, .int .i64 (encB v e).2]) := by rw [h, hs]
set_option maxRecDepth 100000 in
set_option maxHeartbeats 1000000 in
theorem encode_any (v k : Int) (t : ByteArray) (m : Int) (b : ByteArray) (a : Option Addr) (cap : Nat) (ts : List ByteArray) (w : World) (ht : Hid (TagsAt w a ts)) (hs : Hid (Short ts)) (hl : ts.length ≤ maxLen)
    (htl : t.size ≤ maxLen) (hbl : b.size ≤ maxLen) :
    Calls Tryz.prog 59 #[.int .i64 v, .agg #[.int .i64 k, .string t, .int .i64 m, .string b, .slice a ts.length cap]] w fun e w' =>
      e = .returned (.tuple #[.string ⟨(encB v ⟨k, t, m, b, ts⟩).1.toArray⟩, .int .i64 (encB v ⟨k, t, m, b, ts⟩).2]) ∧ Below w.heap.size w w' := by
  by_cases hv : isVer v = true
  · have hG := goesInto_any v k t m b a cap ts (w.alloc (.cells #[.int .i64 k, .string t, .int .i64 m, .string b, .slice a ts.length cap] 38)) (TagsAt.alloc ht.out _) hs hl htl hbl
    generalize hq : goesB v ⟨k, t, m, b, ts⟩ = q at hG
    have HQ : Hid _ := hq
    clear hq
    cases q
    · have HE : Hid (encB v ⟨k, t, m, b, ts⟩ = ([], 2)) := by simp [Hid, encB, hv, HQ.out]
      go_enter Tryz.func59, Tryz.ntmps59
      go_wp2_with (first
        | (go_at_call 54; refine (isVersion_any _ _).mono ?_; rintro e w' ⟨rfl, rfl⟩)
        | (go_at_call 55; refine hG.mono ?_; rintro e w1 ⟨rfl, hb1⟩; obtain ⟨hc1, hf1⟩ := bcell hb1))
      go_ret2
      exact ⟨ret_enc rfl HE.out, ((Below.refl _ _).alloc (Nat.le_refl _) _).trans (hb1.mono (by simp))⟩
    · obtain ⟨h1, h4, htk, _, ht0, ht1, hbd, hfew, hlines⟩ := is_known (goes_is HQ.out)
      simp only at h1 h4 htk ht0 ht1 hbd hfew hlines
      have HT := hide0 (time_small ht1)
      have HLN := hide0 hlines
      clear ht1 hlines
      by_cases hv1 : v = 1
      · subst hv1
        have HE : Hid (encB 1 ⟨k, t, m, b, ts⟩ = (letterB ⟨k, t, m, b, ts⟩, 0)) := by simp [Hid, encB, hv, HQ.out]
        have hcs := letter_cases h1 h4 (goes_one HQ.out).1
        have hWL := fun w' => writeLetter_any k (letterOf k) t m b a ts.length cap w' htk hbd hcs
        clear hcs
        go_enter Tryz.func59, Tryz.ntmps59
        go_wp2_with (first
          | (go_at_call 54; refine (isVersion_any _ _).mono ?_; rintro e w' ⟨rfl, rfl⟩)
          | (go_at_call 55; refine hG.mono ?_; rintro e w1 ⟨rfl, hb1⟩; obtain ⟨hc1, hf1⟩ := bcell hb1)
          | (go_at_call 79; refine (hWL _).mono ?_; rintro e w2 ⟨rfl, hb2⟩))
        go_ret2
        exact ⟨ret_enc rfl HE.out, (((Below.refl _ _).alloc (Nat.le_refl _) _).trans (hb1.mono (by simp))).trans (hb2.mono (by have := hb1.size; simp at this; omega))⟩
      · have hvb : (v == 1) = false := by simp [hv1]
        have HE : Hid (encB v ⟨k, t, m, b, ts⟩ = (fieldsB v ⟨k, t, m, b, ts⟩, 0)) := by simp [Hid, encB, hv, HQ.out, hv1]
        clear hv1
        have hWF := fun w' hx => writeFields_any v k t m b a cap ts w' hx HLN hfew htk hbd h1 h4 ht0 HT
        go_enter Tryz.func59, Tryz.ntmps59
        go_wp2_with (first
          | (go_at_call 54; refine (isVersion_any _ _).mono ?_; rintro e w' ⟨rfl, rfl⟩)
          | (go_at_call 55; refine hG.mono ?_; rintro e w1 ⟨rfl, hb1⟩; obtain ⟨hc1, hf1⟩ := bcell hb1)
          | (go_at_call 80; refine (hWF _ (TagsAt.below (TagsAt.alloc ht.out _) hb1 (Nat.le_refl _))).mono ?_; rintro e w2 ⟨rfl, hb2⟩))
        go_ret2
        exact ⟨ret_enc rfl HE.out, (((Below.refl _ _).alloc (Nat.le_refl _) _).trans (hb1.mono (by simp))).trans (hb2.mono (by have := hb1.size; simp at this; omega))⟩
  · have hv' : isVer v = false := by simpa using hv
    have HE : Hid (encB v ⟨k, t, m, b, ts⟩ = ([], 1)) := by simp [Hid, encB, hv']
    clear hv
    go_enter Tryz.func59, Tryz.ntmps59
    go_wp2_with (first
      | (go_at_call 54; refine (isVersion_any _ _).mono ?_; rintro e w' ⟨rfl, rfl⟩))
    go_ret2
    exact ⟨ret_enc rfl HE.out, (Below.refl _ _).alloc (Nat.le_refl _) _⟩
end Go.Proofs.YtdjllnhahhjgmaaGreat
namespace Go.Proofs.YtdjllnhahhjgmaaGreat
open Go.RowKit Chron
theorem byteCells_push (l : List UInt8) (c : UInt8) : Lib.byteCells l ++ [.int .u8 (c.toNat : Int)] = Lib.byteCells (l ++ [c]) := by simp [Lib.byteCells]
end Go.Proofs.YtdjllnhahhjgmaaGreat
namespace Go.Proofs.YtdjllnhahhjgmaaGreat
open Go.RowKit Chron
theorem put_text (b : Nat) (l : List UInt8) (s : List UInt8) (X : World) (hX : Lib.IsBuilderF 102 5 b b (Lib.byteCells l) X) (hl : l.length + s.length ≤ 1000000) :
    Calls Tryz.prog 56 #[.pointer (some ⟨b, 0, none⟩), .string ⟨s.toArray⟩] X fun e X' => (∃ v, e = .returned v) ∧ Hid (Lib.IsBuilderF 102 5 b b (Lib.byteCells (l ++ s)) X') ∧ Below b X X' := by
  refine (Tryz.Builder_WriteString_k b b _ _ _ hX (by rw [Lib.byteCells_length]; show l.length + s.length ≤ _; omega) (Nat.le_of_lt (builder_lt hX))).mono ?_
  rintro e w1 ⟨rfl, hB1, hb1, _⟩
  rw [strCells_bytes] at hB1
  exact ⟨⟨_, rfl⟩, .inr hB1, hb1⟩
end Go.Proofs.YtdjllnhahhjgmaaGreat
namespace Chron
open Go Go.RowKit
def numOf (l : List UInt8) : Nat := match readNum l with | none => 0 | some (n, _) => n
def numRest (l : List UInt8) : List UInt8 := match readNum l with | none => [] | some (_, r) => r
def txOf (l : List UInt8) : List UInt8 := match readTx l with | none => [] | some (t, _) => t
def txRest (l : List UInt8) : List UInt8 := match readTx l with | none => [] | some (_, r) => r
def nx (tag : Nat) (s : List UInt8) : List UInt8 := Lib.trimPrefix s (num tag)
def hp (tag : Nat) (s : List UInt8) : Bool := Lib.hasPrefix s (num tag)
def kindOf (v : Int) (s : List UInt8) : Int := if hp 1 s = true then wrap64 (numOf (nx 1 s) + shift v) else 0
def timeOf (s : List UInt8) : Int := if hp 3 s = true then numOf (nx 3 s) else 0
def textOf (tag : Nat) (s : List UInt8) : ByteArray := if hp tag s = true then ⟨(txOf (nx tag s)).toArray⟩ else ⟨#[]⟩
def behindNum (tag : Nat) (s : List UInt8) : List UInt8 := if hp tag s = true then numRest (nx tag s) else nx tag s
def behindText (tag : Nat) (s : List UInt8) : List UInt8 := if hp tag s = true then txRest (nx tag s) else nx tag s
def tagsF : Nat → List UInt8 → List ByteArray
  | 0, _ => []
  | f + 1, s => if hp 5 s = true then ⟨(txOf (nx 5 s)).toArray⟩ :: tagsF f (txRest (nx 5 s)) else []
def rdFields (v : Int) (s : List UInt8) : Ev :=
  { kind := kindOf v s, task := textOf 2 (behindNum 1 s), time := timeOf (behindText 2 (behindNum 1 s)),
    body := textOf 4 (behindNum 3 (behindText 2 (behindNum 1 s))), tags := tagsF 4 (behindText 4 (behindNum 3 (behindText 2 (behindNum 1 s)))) }
theorem nx_len (tag : Nat) (s : List UInt8) : (nx tag s).length ≤ s.length := by
  unfold nx Lib.trimPrefix; split <;> simp
theorem numRest_len (s : List UInt8) : (numRest s).length ≤ s.length := by
  unfold numRest; rcases h : readNum s with _ | ⟨n, r⟩
  · simp
  · exact readNum_len h
theorem readTx_len {s t r : List UInt8} (h : readTx s = some (t, r)) : t.length + r.length ≤ s.length := by
  unfold readTx at h
  rcases hq : readNum s with _ | ⟨n, q⟩
  · rw [hq] at h; cases h
  · rw [hq] at h
    simp only at h
    split at h
    · simp only [Option.some.injEq, Prod.mk.injEq] at h
      have := readNum_len hq
      rw [← h.1, ← h.2]; simp; omega
    · cases h
theorem txRest_len (s : List UInt8) : (txRest s).length ≤ s.length := by
  unfold txRest; rcases h : readTx s with _ | ⟨n, r⟩
  · simp
  · have := readTx_len h; simp only; omega
theorem txOf_len (s : List UInt8) : (txOf s).length ≤ s.length := by
  unfold txOf; rcases h : readTx s with _ | ⟨n, r⟩
  · simp
  · have := readTx_len h; simp only; omega
theorem behindNum_len (tag : Nat) (s : List UInt8) : (behindNum tag s).length ≤ s.length := by
  have h1 := nx_len tag s; have h2 := numRest_len (nx tag s)
  unfold behindNum; split <;> omega
theorem behindText_len (tag : Nat) (s : List UInt8) : (behindText tag s).length ≤ s.length := by
  have h1 := nx_len tag s; have h2 := txRest_len (nx tag s)
  unfold behindText; split <;> omega
def zeroEv : Ev := ⟨0, ⟨#[]⟩, 0, ⟨#[]⟩, []⟩
def letterKind (c : UInt8) : Int := Lib.indexByte [98, 100, 102] c + 1
def rdLetter : List UInt8 → Ev × Bool
  | [] => (zeroEv, false)
  | c :: r =>
    match readTx r with
    | none => (zeroEv, false)
    | some (t, b) =>
      if t = [] then (⟨letterKind c, ⟨#[45]⟩, 0, ⟨b.toArray⟩, []⟩, isB ⟨letterKind c, ⟨#[45]⟩, 0, ⟨b.toArray⟩, []⟩)
      else (⟨letterKind c, ⟨t.toArray⟩, 0, ⟨b.toArray⟩, []⟩, goesB 1 ⟨letterKind c, ⟨t.toArray⟩, 0, ⟨b.toArray⟩, []⟩)
theorem letterKind_fin : ∀ x : Fin 256, letterKind (UInt8.ofNat x.val) = if UInt8.ofNat x.val = 98 then 1 else if UInt8.ofNat x.val = 100 then 2 else if UInt8.ofNat x.val = 102 then 3 else 0 := by decide +kernel
theorem letterKind_eq (c : UInt8) : letterKind c = if c = 98 then 1 else if c = 100 then 2 else if c = 102 then 3 else 0 := by
  have := letterKind_fin ⟨c.toNat, c.toNat_lt⟩
  simpa using this
theorem letterKind_bd (c : UInt8) : 0 ≤ letterKind c ∧ letterKind c ≤ 3 := by
  rw [letterKind_eq]
  split
  · omega
  · split
    · omega
    · split <;> omega
theorem letterKind_wrap (c : UInt8) : wrap64 (Lib.indexByte [98, 100, 102] c + 1) = letterKind c := by
  have := letterKind_bd c
  unfold letterKind at *
  exact wrap_small (by omega) (by omega)
def okOf (v : Int) (s : List UInt8) : Bool := decide ((encB v (rdFields v s)).2 = 0) && ((encB v (rdFields v s)).1 == s)
def rdB (v : Int) (s : List UInt8) : Ev × Bool := if v = 1 then rdLetter s else (rdFields v s, okOf v s)
theorem textOf_size (tag : Nat) (s : List UInt8) : (textOf tag s).size ≤ s.length := by
  have h1 := nx_len tag s; have h2 := txOf_len (nx tag s)
  unfold textOf; split
  · show (txOf (nx tag s)).length ≤ _; omega
  · show 0 ≤ _; omega
theorem tagsF_size : ∀ (f : Nat) (s : List UInt8), (tagsF f s).length ≤ f ∧ ∀ t ∈ tagsF f s, t.size ≤ s.length
  | 0, s => ⟨by simp [tagsF], by simp [tagsF]⟩
  | f + 1, s => by
    have h1 := nx_len 5 s; have h2 := txOf_len (nx 5 s); have h3 := txRest_len (nx 5 s)
    have ih := tagsF_size f (txRest (nx 5 s))
    unfold tagsF; split
    · refine ⟨by simp; omega, fun t ht => ?_⟩
      rcases List.mem_cons.1 ht with rfl | ht
      · show (txOf (nx 5 s)).length ≤ _; omega
      · have := ih.2 t ht; omega
    · simp
structure Fits (e : Ev) (n : Nat) : Prop where
  task : e.task.size ≤ n
  body : e.body.size ≤ n
  few : e.tags.length ≤ 4
  tags : ∀ t ∈ e.tags, t.size ≤ n
theorem rdFields_fits (v : Int) (s : List UInt8) : Fits (rdFields v s) s.length := by
  have h1 := behindNum_len 1 s
  have h2 := behindText_len 2 (behindNum 1 s)
  have h3 := behindNum_len 3 (behindText 2 (behindNum 1 s))
  have h4 := behindText_len 4 (behindNum 3 (behindText 2 (behindNum 1 s)))
  refine ⟨Nat.le_trans (textOf_size _ _) h1, Nat.le_trans (textOf_size _ _) (by omega), (tagsF_size 4 _).1, fun t ht => Nat.le_trans ((tagsF_size 4 _).2 t ht) (by omega)⟩
end Chron
namespace Chron
open Go Go.RowKit
def decB (v : Int) (s : List UInt8) : Ev × Int := if isVer v = false then (zeroEv, 1) else if (rdB v s).2 = false then (zeroEv, 3) else ((rdB v s).1, 0)
theorem enc_ok {v : Int} {e : Ev} (h : (encB v e).2 = 0) : isVer v = true ∧ goesB v e = true := by
  unfold encB at h
  split at h
  · simp at h
  · rename_i h1
    split at h
    · simp at h
    · rename_i h2
      exact ⟨by simpa using h1, by simpa using h2⟩
theorem rdLetter_is {s : List UInt8} (h : (rdLetter s).2 = true) : isB (rdLetter s).1 = true := by
  match s, h with
  | [], h => simp [rdLetter] at h
  | c :: r, h =>
    rcases hq : readTx r with _ | ⟨t, b⟩
    · simp [rdLetter, hq] at h
    · by_cases ht : t = []
      · simp only [rdLetter, hq, if_pos ht] at h ⊢; exact h
      · simp only [rdLetter, hq, if_neg ht] at h ⊢; exact goes_is h
theorem rd_is {v : Int} {s : List UInt8} (h : (rdB v s).2 = true) : isB (rdB v s).1 = true := by
  by_cases hv : v = 1
  · rw [rdB, if_pos hv] at h ⊢; exact rdLetter_is h
  · rw [rdB, if_neg hv] at h ⊢
    simp only [okOf, Bool.and_eq_true, decide_eq_true_eq] at h
    exact goes_is (enc_ok h.1).2
end Chron
namespace Chron
open Go Go.RowKit
theorem readF_pos : ∀ (f : Nat) (l : List UInt8) (n : Nat) (r : List UInt8), readF f false l = some (n, r) → 1 ≤ n
  | 0, _, _, _, h => by simp [readF] at h
  | f + 1, [], _, _, h => by simp [readF] at h
  | f + 1, c :: l, n, r, h => by
    unfold readF at h
    split at h
    · split at h
      · cases h
      · rename_i hz
        simp only [Option.some.injEq, Prod.mk.injEq] at h
        simp at hz; omega
    · rcases hq : readF f false l with _ | ⟨m, r'⟩
      · rw [hq] at h; cases h
      · rw [hq] at h
        simp only [Option.some.injEq, Prod.mk.injEq] at h
        have := readF_pos f l m r' hq
        omega
theorem readF_num : ∀ (f : Nat) (b : Bool) (l : List UInt8) (n : Nat) (r : List UInt8), readF f b l = some (n, r) → l = numF f n ++ r ∧ n < 128 ^ f
  | 0, _, _, _, _, h => by simp [readF] at h
  | f + 1, _, [], _, _, h => by simp [readF] at h
  | f + 1, b, c :: l, n, r, h => by
    have hc : c.toNat < 256 := c.toNat_lt
    unfold readF at h
    split at h
    · rename_i hlt
      split at h
      · cases h
      · simp only [Option.some.injEq, Prod.mk.injEq] at h
        obtain ⟨rfl, rfl⟩ := h
        refine ⟨?_, ?_⟩
        · rw [numF_small hlt]; simp
        · rw [Nat.pow_succ]; have : 0 < 128 ^ f := Nat.pow_pos (by omega); omega
    · rename_i hge
      rcases hq : readF f false l with _ | ⟨m, r'⟩
      · rw [hq] at h; cases h
      · rw [hq] at h
        simp only [Option.some.injEq, Prod.mk.injEq] at h
        obtain ⟨rfl, rfl⟩ := h
        obtain ⟨h1, h2⟩ := readF_num f false l m r' hq
        have h3 := readF_pos f l m r' hq
        refine ⟨?_, ?_⟩
        · rw [numF_more (by omega), List.cons_append]
          rw [show (c.toNat - 128 + 128 * m) / 128 = m by omega, show 128 + (c.toNat - 128 + 128 * m) % 128 = c.toNat by omega, ← h1]
          simp
        · rw [Nat.pow_succ]; omega
theorem numF_fuel : ∀ (f g n : Nat), 0 < f → f ≤ g → n < 128 ^ f → numF g n = numF f n
  | 0, _, _, h, _, _ => by omega
  | f + 1, 0, _, _, h, _ => by omega
  | f + 1, g + 1, n, _, h, hn => by
    by_cases hs : n < 128
    · rw [numF_small hs, numF_small hs]
    · rw [numF_more (by omega), numF_more (by omega)]
      rw [Nat.pow_succ] at hn
      have hf : 0 < f := by
        rcases Nat.eq_zero_or_pos f with h0 | h0
        · subst h0; simp at hn; omega
        · exact h0
      rw [numF_fuel f g (n / 128) hf (by omega) (Nat.div_lt_of_lt_mul (by omega))]
theorem readNum_num {l : List UInt8} {n : Nat} {r : List UInt8} (h : readNum l = some (n, r)) : l = num n ++ r := by
  obtain ⟨h1, h2⟩ := readF_num 9 true l n r h
  rw [h1, num, numF_fuel 9 10 n (by omega) (by omega) h2]
theorem readTx_text {l t r : List UInt8} (h : readTx l = some (t, r)) : l = text t ++ r := by
  unfold readTx at h
  rcases hq : readNum l with _ | ⟨n, q⟩
  · rw [hq] at h; cases h
  · rw [hq] at h
    simp only at h
    split at h
    · rename_i hle
      simp only [Option.some.injEq, Prod.mk.injEq] at h
      obtain ⟨rfl, rfl⟩ := h
      rw [readNum_num hq, text, List.length_take, Nat.min_eq_left hle, List.append_assoc, List.take_append_drop]
    · cases h
theorem letterOf_kind {c : UInt8} (h : 1 ≤ letterKind c) : letterOf (letterKind c) = c := by
  rw [letterKind_eq] at h ⊢
  split at h
  · rename_i hc; rw [if_pos hc]; subst hc; decide
  · rename_i h1
    rw [if_neg h1]
    split at h
    · rename_i hc; rw [if_pos hc]; subst hc; decide
    · rename_i h2
      rw [if_neg h2]
      split at h
      · rename_i hc; rw [if_pos hc]; subst hc; decide
      · omega
theorem mk_toList (l : List UInt8) : (⟨l.toArray⟩ : ByteArray).toList = l := by rw [ByteArray.toList_eq]
/- what OneWay says of what was read -/
def OneWayB (v : Int) (s : List UInt8) (e : Ev) : Prop :=
  if v = 1 ∧ e.task.toList = [45] then (encB v e).2 = 2 ∧ ∃ c, s = c :: 0 :: e.body.toList
  else encB v e = (s, 0)
theorem dash_goes {e : Ev} (h : e.task.toList = [45]) : goesB 1 e = false := by
  simp [goesB, fitsB, dashB, h]
theorem rd_oneWay {v : Int} {s : List UInt8} (hv : isVer v = true) (h : (rdB v s).2 = true) : OneWayB v s (rdB v s).1 := by
  by_cases h1 : v = 1
  · subst h1
    rw [rdB, if_pos rfl] at h ⊢
    match s, h with
    | [], h => simp [rdLetter] at h
    | c :: r, h =>
      rcases hq : readTx r with _ | ⟨t, b⟩
      · simp [rdLetter, hq] at h
      · have htx := readTx_text hq
        by_cases ht : t = []
        · simp only [rdLetter, hq, if_pos ht] at h ⊢
          have hd : (⟨#[45]⟩ : ByteArray).toList = [45] := by rw [ByteArray.toList_eq]
          rw [OneWayB, if_pos ⟨rfl, hd⟩]
          refine ⟨?_, c, ?_⟩
          · rw [encB, if_neg (by simp [hv]), if_pos (dash_goes hd)]
          · rw [htx, ht]
            show c :: (text [] ++ b) = c :: 0 :: (⟨b.toArray⟩ : ByteArray).toList
            rw [mk_toList]; rfl
        · simp only [rdLetter, hq, if_neg ht] at h ⊢
          have hg := goes_one h
          have hk := is_known (goes_is h)
          have hnd : ¬ (⟨t.toArray⟩ : ByteArray).toList = [45] := by
            have := hg.2.2.2
            simpa [dashB] using this
          rw [OneWayB, if_neg (by rintro ⟨_, h2⟩; exact hnd h2)]
          rw [encB, if_neg (by simp [hv]), if_neg (by simp [h]), if_pos rfl, letterB]
          simp only
          rw [letterOf_kind hk.k1, htx]
          rfl
  · rw [rdB, if_neg h1] at h ⊢
    simp only [okOf, Bool.and_eq_true, decide_eq_true_eq, beq_iff_eq] at h
    rw [OneWayB, if_neg (by rintro ⟨h2, _⟩; exact h1 h2)]
    exact Prod.ext h.2 h.1
theorem first_two : encB 2 ⟨4, ⟨#[45]⟩, 0, ⟨#[]⟩, []⟩ = ([1, 3, 2, 1, 45], 0) := by decide +kernel
theorem pick_neg {c n : Int} (h0 : -9223372036854775808 ≤ c) (hc : c < 0) (hn : 0 < n) : 0 ≤ (wrap64 (-wrap64 (c + 1))).tmod n ∧ (wrap64 (-wrap64 (c + 1))).tmod n < n := by
  have e1 : wrap64 (c + 1) = c + 1 := by unfold wrap64; omega
  have e2 : wrap64 (-(c + 1)) = -(c + 1) := by unfold wrap64; omega
  rw [e1, e2]
  exact ⟨Int.tmod_nonneg _ (by omega), Int.tmod_lt_of_pos _ hn⟩
end Chron
namespace Go.Proofs.YtdjllnhahhjgmaaGreat
open Go.RowKit Chron
def rdVal : Option (Nat × List UInt8) → Value
  | none => .tuple #[.int .i64 0, .string ⟨#[]⟩, .bool false]
  | some (n, r) => .tuple #[.int .i64 n, .string ⟨r.toArray⟩, .bool true]
theorem ret_some {l : List UInt8} {n : Nat} {r : List UInt8} {x : Int} {y : ByteArray} (h : readNum l = some (n, r)) (hx : x = (n : Int)) (hy : y = ⟨r.toArray⟩) :
    Ending.returned (.tuple #[.int .i64 x, .string y, .bool true]) = .returned (rdVal (readNum l)) := by rw [h, hx, hy]; rfl
theorem ret_none {l : List UInt8} (h : readNum l = none) :
    Ending.returned (.tuple #[.int .i64 0, .string ⟨#[]⟩, .bool false]) = .returned (rdVal (readNum l)) := by rw [h]; rfl
set_option maxRecDepth 100000 in
set_option maxHeartbeats 400000 in
theorem readNumber_any (s : ByteArray) (w : World) (hs : s.size ≤ maxLen) :
    Calls Tryz.prog 88 #[.string s] w fun e w' => e = .returned (rdVal (readNum s.data.toList)) ∧ ∃ nq, w' = w.drewN nq := by
  unfold maxLen at hs
  go_enter Tryz.func88, Tryz.ntmps88
  go_wp2
  go_loop [2, 5] (fun m i => ∃ k : Nat, ∃ n : Nat, k ≤ 9 ∧ k ≤ s.size ∧ i = .int .i64 k ∧ m = .int .i64 n ∧ Hid (Reads s.data.toList n k)) (fun _ i => 9 - (intOf i).toNat)
  case atStart => exact ⟨0, 0, by omega, Nat.zero_le _, rfl, rfl, reads_start _⟩
  case round =>
    obtain ⟨k, n, hk9, hks, rfl, rfl, HR⟩ := hrel
    by_cases hlt : k < s.size ∧ k < 9
    · obtain ⟨hlt, hlt9⟩ := hlt
      by_cases hc : 128 ≤ (s[k].toNat : Int)
      · go_wp2
        go_round
        case rel => exact ⟨k + 1, _, by omega, by omega, by go_num, by rw [or_step s[k] hlt9 HR.out.1], reads_more HR.out hlt9 hlt hc⟩
        case measure => simp [intOf]; omega
      · by_cases hz : ((s[k].toNat : Int) == 0) = true ∧ 0 < k
        · obtain ⟨hz, hk0⟩ := hz
          go_wp2
          go_ret3
          exact ⟨ret_none (reads_zero HR.out hlt9 hlt (by have := hz; simpa using this) hk0), 0, rfl⟩
        · have hz' : ¬ (s[k].toNat = 0 ∧ 0 < k) := by simpa using hz
          have HL : Hid _ := reads_last HR.out hlt9 hlt (by omega) hz'
          have HO : Hid _ := or_step s[k] hlt9 HR.out.1
          by_cases hk0 : 0 < k
          · have hz1 : ((s[k].toNat : Int) == 0) = false := by simp; omega
            clear hz hz'
            go_wp2_with fail
            go_quiet (fail)
            go_wp2
            go_ret3
            exact ⟨ret_some HL.out HO.out (extract_end _ _), _, rfl⟩
          · have hk0' : k = 0 := by omega
            subst hk0'
            clear hz hz'
            by_cases hz1 : ((s[0].toNat : Int) == 0) = true
            · go_wp2_with fail
              go_quiet (fail)
              go_wp2
              go_ret3
              exact ⟨ret_some HL.out (by have := HO.out; simpa using this) (extract_end _ _), _, rfl⟩
            · have hz2 : ((s[0].toNat : Int) == 0) = false := by simpa using hz1
              clear hz1
              go_wp2_with fail
              go_quiet (fail)
              go_wp2
              go_ret3
              exact ⟨ret_some HL.out (by have := HO.out; simpa using this) (extract_end _ _), _, rfl⟩
    · have HE : Hid _ := reads_end HR.out hlt
      by_cases h9 : k < 9
      · have : ¬ k < s.size := by omega
        go_wp2
        go_ret3
        exact ⟨ret_none HE.out, 0, rfl⟩
      · go_wp2
        all_goals
          go_ret3
          exact ⟨ret_none HE.out, 0, rfl⟩

/- a text within bytes, and what is behind it -/
def txVal : Option (List UInt8 × List UInt8) → Value
  | none => .tuple #[.string ⟨#[]⟩, .string ⟨#[]⟩, .bool false]
  | some (t, r) => .tuple #[.string ⟨t.toArray⟩, .string ⟨r.toArray⟩, .bool true]
theorem ret_tx {l : List UInt8} {t r : List UInt8} {x y : ByteArray} (h : readTx l = some (t, r)) (hx : x = ⟨t.toArray⟩) (hy : y = ⟨r.toArray⟩) :
    Ending.returned (.tuple #[.string x, .string y, .bool true]) = .returned (txVal (readTx l)) := by rw [h, hx, hy]; rfl
set_option maxRecDepth 100000 in
set_option maxHeartbeats 400000 in
theorem readText_any (s : ByteArray) (w : World) (hs : s.size ≤ maxLen) :
    Calls Tryz.prog 106 #[.string s] w fun e w' => e = .returned (txVal (readTx s.data.toList)) ∧ ∃ nq, w' = w.drewN nq := by
  have hR := readNumber_any s w hs
  rcases hq : readNum s.data.toList with _ | ⟨n, r⟩
  · rw [hq] at hR
    have HQ : Hid _ := hq
    clear hq
    go_enter Tryz.func106, Tryz.ntmps106
    go_wp2_with fail
    refine hR.mono ?_
    rintro e w' ⟨rfl, nq, rfl⟩
    simp only [rdVal]
    go_wp2
    go_ret3
    exact ⟨by rw [readTx, HQ.out]; rfl, nq, rfl⟩
  · rw [hq] at hR
    have HQ : Hid _ := hq
    have hrl : r.length ≤ s.size := by have := readNum_len hq; simpa using this
    unfold maxLen at hs
    clear hq
    by_cases hn : n ≤ r.length
    · go_enter Tryz.func106, Tryz.ntmps106
      go_wp2_with fail
      refine hR.mono ?_
      rintro e w' ⟨rfl, nq, rfl⟩
      simp only [rdVal]
      go_wp2_with fail
      go_quiet (fail)
      go_wp2
      go_ret3
      exact ⟨ret_tx (readTx_some HQ.out hn) (extract_mk_take _ _) (extract_mk_drop _ _), _, World.drewN_drewN _ _ _⟩
    · go_enter Tryz.func106, Tryz.ntmps106
      go_wp2_with fail
      refine hR.mono ?_
      rintro e w' ⟨rfl, nq, rfl⟩
      simp only [rdVal]
      go_wp2
      go_ret3
      exact ⟨by rw [readTx, HQ.out]; simp [hn]; rfl, nq, rfl⟩
end Go.Proofs.YtdjllnhahhjgmaaGreat
namespace Go.Proofs.YtdjllnhahhjgmaaGreat
open Go.RowKit Chron
def Held (p : Nat) (r : List UInt8) (w w' : World) : Prop := w'.cell? ⟨p, 0, none⟩ = some (.string ⟨r.toArray⟩) ∧ w'.frozen? ⟨p, 0, none⟩ = false ∧ w.grownBy w' (some p)
theorem held_store {p : Nat} {r : List UInt8} {w w1 : World} {x : Value} (hb : Below w.heap.size w w1) (hk : w1.cell? ⟨p, 0, none⟩ = some x) (hkf : w1.frozen? ⟨p, 0, none⟩ = false) :
    Held p r w (w1.setCell ⟨p, 0, none⟩ (.string ⟨r.toArray⟩)) := by
  refine ⟨World.cell?_setCell_same _ _ _ hk, by rw [World.frozen?_setCell]; exact hkf, hb.os, hb.tape, hb.output, by simpa [World.setCell] using hb.size, fun k hk hne => ?_⟩
  rw [Below.heap_setCell _ _ _ _ (fun e => hne (by simp [e]))]
  exact hb.block k hk
set_option maxRecDepth 100000 in
set_option maxHeartbeats 1000000 in
theorem next_any (p : Nat) (s : ByteArray) (tag : Int) (w : World) (hc : w.cell? ⟨p, 0, none⟩ = some (.string s)) (hf : w.frozen? ⟨p, 0, none⟩ = false) (h0 : 0 ≤ tag) (h1 : tag ≤ 5) :
    Calls Tryz.prog 108 #[.pointer (some ⟨p, 0, none⟩), .int .i64 tag] w fun e w' =>
      e = .returned (.bool (Lib.hasPrefix s.data.toList (num tag.toNat))) ∧ Hid (Held p (Lib.trimPrefix s.data.toList (num tag.toNat)) w w') := by
  have hp := World.block_lt_of_cell? w _ hc
  simp only at hp
  go_enter Tryz.func108, Tryz.ntmps108
  go_wp2_with fail
  go_region_held (fun w' => w'.cell? ⟨p, 0, none⟩ = some (.string s)) (go_keep)
    (first
      | (go_at_call 57; refine (wireNumber_any tag _ h0 (by show tag.toNat < 128 ^ 9; omega)).mono ?_; rintro e w1 ⟨rfl, hb1⟩; have hk1 : w1.cell? ⟨p, 0, none⟩ = some (.string s) := (hb1.cell (p := ⟨p, 0, none⟩) hp).trans hc; have hkf : w1.frozen? ⟨p, 0, none⟩ = false := (hb1.frozen (p := ⟨p, 0, none⟩) hp).trans hf)
      | (go_at_call 112; refine (Tryz.strings_CutPrefix _ _ _).mono ?_; rintro e w' ⟨rfl, rfl⟩))
  go_wp2
  go_ret
  exact ⟨rfl, held_store ((Below.refl w.heap.size w).drew.trans hb1) hk1 hkf⟩

theorem rdVal_eq (l : List UInt8) : rdVal (readNum l) = .tuple #[.int .i64 (numOf l), .string ⟨(numRest l).toArray⟩, .bool (readNum l).isSome] := by
  unfold numOf numRest; rcases readNum l with _ | ⟨n, r⟩ <;> rfl
theorem txVal_eq (l : List UInt8) : txVal (readTx l) = .tuple #[.string ⟨(txOf l).toArray⟩, .string ⟨(txRest l).toArray⟩, .bool (readTx l).isSome] := by
  unfold txOf txRest; rcases readTx l with _ | ⟨n, r⟩ <;> rfl
theorem below_of_drewN {w : World} (n : Nat) : Below w.heap.size w (w.drewN n) := below_drewN (Below.refl _ _) n
set_option maxRecDepth 100000 in
set_option maxHeartbeats 1000000 in
theorem number_any (p : Nat) (s : ByteArray) (w : World) (hc : w.cell? ⟨p, 0, none⟩ = some (.string s)) (hf : w.frozen? ⟨p, 0, none⟩ = false) (hs : s.size ≤ maxLen) :
    Calls Tryz.prog 109 #[.pointer (some ⟨p, 0, none⟩)] w fun e w' =>
      e = .returned (.int .i64 (numOf s.data.toList)) ∧ Hid (Held p (numRest s.data.toList) w w') := by
  have hR := readNumber_any s w hs
  rw [rdVal_eq] at hR
  go_enter Tryz.func109, Tryz.ntmps109
  go_wp2_with fail
  refine hR.mono ?_
  rintro e w1 ⟨rfl, nq, rfl⟩
  go_wp2
  go_ret
  exact ⟨rfl, held_store (below_of_drewN nq) hc hf⟩
set_option maxRecDepth 100000 in
set_option maxHeartbeats 1000000 in
theorem text_any (p : Nat) (s : ByteArray) (w : World) (hc : w.cell? ⟨p, 0, none⟩ = some (.string s)) (hf : w.frozen? ⟨p, 0, none⟩ = false) (hs : s.size ≤ maxLen) :
    Calls Tryz.prog 110 #[.pointer (some ⟨p, 0, none⟩)] w fun e w' =>
      e = .returned (.string ⟨(txOf s.data.toList).toArray⟩) ∧ Hid (Held p (txRest s.data.toList) w w') := by
  have hR := readText_any s w hs
  rw [txVal_eq] at hR
  go_enter Tryz.func110, Tryz.ntmps110
  go_wp2_with fail
  refine hR.mono ?_
  rintro e w1 ⟨rfl, nq, rfl⟩
  go_wp2
  go_ret
  exact ⟨rfl, held_store (below_of_drewN nq) hc hf⟩
end Go.Proofs.YtdjllnhahhjgmaaGreat
namespace Go.Proofs.YtdjllnhahhjgmaaGreat
open Go.RowKit Chron
structure Fld (N : Nat) (w wx : World) (s : List UInt8) (k : Int) (t : ByteArray) (m : Int) (b : ByteArray) (v : Value) : Prop where
  f0 : wx.cell? ⟨N + 2, 0, none⟩ = some (.string ⟨s.toArray⟩)
  ff : wx.frozen? ⟨N + 2, 0, none⟩ = false
  c0 : wx.cell? ⟨N + 1, 0, none⟩ = some (.int .i64 k)
  c1 : wx.cell? ⟨N + 1, 1, none⟩ = some (.string t)
  c2 : wx.cell? ⟨N + 1, 2, none⟩ = some (.int .i64 m)
  c3 : wx.cell? ⟨N + 1, 3, none⟩ = some (.string b)
  c4 : wx.cell? ⟨N + 1, 4, none⟩ = some v
  z1 : ∀ o, wx.frozen? ⟨N + 1, o, none⟩ = false
  bel : Below N w wx
  big : N + 3 ≤ wx.heap.size
  res : wx.heap[N]? = some (.cells #[.int .i64 0, .string ⟨#[]⟩, .int .i64 0, .string ⟨#[]⟩, .slice none 0 0] 38)
theorem Fld.held {N : Nat} {w wx wy : World} {s r : List UInt8} {k : Int} {t : ByteArray} {m : Int} {b : ByteArray} {v : Value} (h : Fld N w wx s k t m b v) (hh : Held (N + 2) r wx wy) : Fld N w wy r k t m b v := by
  obtain ⟨h1, h2, hg⟩ := hh
  have hbig := h.big
  have hblk : ∀ q, q ≤ N + 1 → wy.heap[q]? = wx.heap[q]? := fun q hq => hg.block q (by omega) (fun e => by simp only [Option.some.injEq] at e; omega)
  have hc : ∀ q o, q ≤ N + 1 → wy.cell? ⟨q, o, none⟩ = wx.cell? ⟨q, o, none⟩ := fun q o hq => World.cell?_of_block (hblk q hq)
  have hz : ∀ q o, q ≤ N + 1 → wy.frozen? ⟨q, o, none⟩ = wx.frozen? ⟨q, o, none⟩ := fun q o hq => World.frozen?_of_block (hblk q hq)
  exact ⟨h1, h2, (hc _ _ (by omega)).trans h.c0, (hc _ _ (by omega)).trans h.c1, (hc _ _ (by omega)).trans h.c2, (hc _ _ (by omega)).trans h.c3, (hc _ _ (by omega)).trans h.c4,
    fun o => (hz _ o (by omega)).trans (h.z1 o), h.bel.trans ⟨hg.os, hg.tape, hg.output, hg.size, fun q hq => hblk q (by omega)⟩, Nat.le_trans hbig hg.size, (hblk N (by omega)).trans h.res⟩
theorem Fld.put {N : Nat} {w wx : World} {s : List UInt8} {k : Int} {t : ByteArray} {m : Int} {b : ByteArray} {v : Value} (h : Fld N w wx s k t m b v) :
    (∀ k', Fld N w (wx.setCell ⟨N + 1, 0, none⟩ (.int .i64 k')) s k' t m b v) ∧ (∀ t', Fld N w (wx.setCell ⟨N + 1, 1, none⟩ (.string t')) s k t' m b v) ∧
    (∀ m', Fld N w (wx.setCell ⟨N + 1, 2, none⟩ (.int .i64 m')) s k t m' b v) ∧ (∀ b', Fld N w (wx.setCell ⟨N + 1, 3, none⟩ (.string b')) s k t m b' v) ∧ (∀ v', Fld N w (wx.setCell ⟨N + 1, 4, none⟩ v') s k t m b v') := by
  obtain ⟨f0, ff, c0, c1, c2, c3, c4, z1, bel, big, res⟩ := h
  refine ⟨fun x => ?_, fun x => ?_, fun x => ?_, fun x => ?_, fun x => ?_⟩
  all_goals
    constructor
    all_goals first
      | (go_simp; done)
      | (intro o; rw [World.frozen?_setCell]; exact z1 o)
      | exact bel.setCell (by simp) _
      | (rw [Below.heap_setCell _ _ _ _ (by simp)]; exact res)
      | (simp [World.setCell]; exact big)
      | (rw [World.frozen?_setCell]; exact ff)

theorem Fld.drew {N : Nat} {w wx : World} {s : List UInt8} {k : Int} {t : ByteArray} {m : Int} {b : ByteArray} {v : Value} (h : Fld N w wx s k t m b v) : Fld N w wx.drew s k t m b v :=
  ⟨h.f0, h.ff, h.c0, h.c1, h.c2, h.c3, h.c4, h.z1, h.bel.drew, h.big, h.res⟩
theorem Fld.grown {N : Nat} {w wx wy : World} {s : List UInt8} {k : Int} {t : ByteArray} {m : Int} {b : ByteArray} {v : Value} {row : Option Nat} (h : Fld N w wx s k t m b v) (hg : wx.grownBy wy row) (hr : ∀ q, row = some q → N + 3 ≤ q) : Fld N w wy s k t m b v := by
  have hbig := h.big
  have hblk : ∀ q, q ≤ N + 2 → wy.heap[q]? = wx.heap[q]? := fun q hq => hg.block q (by omega) (fun e => by have := hr q e.symm; omega)
  have hc : ∀ q o, q ≤ N + 2 → wy.cell? ⟨q, o, none⟩ = wx.cell? ⟨q, o, none⟩ := fun q o hq => World.cell?_of_block (hblk q hq)
  have hz : ∀ q o, q ≤ N + 2 → wy.frozen? ⟨q, o, none⟩ = wx.frozen? ⟨q, o, none⟩ := fun q o hq => World.frozen?_of_block (hblk q hq)
  exact ⟨(hc _ _ (by omega)).trans h.f0, (hz _ _ (by omega)).trans h.ff, (hc _ _ (by omega)).trans h.c0, (hc _ _ (by omega)).trans h.c1, (hc _ _ (by omega)).trans h.c2, (hc _ _ (by omega)).trans h.c3, (hc _ _ (by omega)).trans h.c4,
    fun o => (hz _ o (by omega)).trans (h.z1 o), h.bel.trans ⟨hg.os, hg.tape, hg.output, hg.size, fun q hq => hblk q (by omega)⟩, Nat.le_trans hbig hg.size, (hblk N (by omega)).trans h.res⟩
theorem Fld.alloc {N : Nat} {w wx : World} {s : List UInt8} {k : Int} {t : ByteArray} {m : Int} {b : ByteArray} {v : Value} (h : Fld N w wx s k t m b v) (o : Obj) : Fld N w (wx.alloc o) s k t m b v :=
  h.grown (World.grownBy_alloc wx o none) (fun q hq => by cases hq)
theorem own_kept {w w' : World} {base : Nat} {e : TypeId} {size : Nat} {v : Value} {n : Nat} {xs : List Value} {p : Nat} (h : w.ownsRow base e size v n xs) (hg : w.grownBy w' (some p)) (hp : p < base) : w'.ownsRow base e size v n xs := by
  refine h.kept hg ?_
  cases hv : v.ownBlock with
  | none => exact .inl rfl
  | some k => exact .inr (fun e => by have := (h.lt k hv).1; simp only [Option.some.injEq] at e; omega)
theorem res_cells {w : World} {N : Nat} {a b c d e : Value} {t : TypeId} (h : w.heap[N]? = some (.cells #[a, b, c, d, e] t)) :
    w.cell? ⟨N, 0, none⟩ = some a ∧ w.cell? ⟨N, 1, none⟩ = some b ∧ w.cell? ⟨N, 2, none⟩ = some c ∧ w.cell? ⟨N, 3, none⟩ = some d ∧ w.cell? ⟨N, 4, none⟩ = some e ∧ ∀ o, w.frozen? ⟨N, o, none⟩ = false := by
  simp [World.cell?, World.frozen?, h]
theorem one_string (x : ByteArray) : ∀ u ∈ [Value.string x], u.oneCell' = true := fun u hu => by simp at hu; subst hu; rfl
theorem own_mono {w : World} {base base' : Nat} {e : TypeId} {size : Nat} {v : Value} {n : Nat} {xs : List Value} (h : w.ownsRow base e size v n xs) (hb : base' ≤ base) : w.ownsRow base' e size v n xs := by
  obtain ⟨h1, h2 | ⟨g, cap, cur, a1, a2, a3⟩⟩ := h
  · exact ⟨h1, .inl h2⟩
  · exact ⟨h1, .inr ⟨g, cap, cur, a1, Nat.le_trans hb a2, a3⟩⟩
def lenAt (q : Nat) (w : World) : Nat := match w.cell? ⟨q, 4, none⟩ with | some (.slice _ n _) => n | _ => 0
theorem lenAt_of {q n cap : Nat} {a : Option Addr} {w : World} (h : w.cell? ⟨q, 4, none⟩ = some (.slice a n cap)) : lenAt q w = n := by simp [lenAt, h]
theorem infoString : (Tryz.prog.info? 9).map (fun i => (i.zero, i.size, i.bytes)) = some (some (.string ⟨#[]⟩), 1, 16) := by kernel_rfl
theorem next_list (p : Nat) (s : List UInt8) (tag : Nat) (w : World) (hc : w.cell? ⟨p, 0, none⟩ = some (.string ⟨s.toArray⟩)) (hf : w.frozen? ⟨p, 0, none⟩ = false) (h1 : tag ≤ 5) :
    Calls Tryz.prog 108 #[.pointer (some ⟨p, 0, none⟩), .int .i64 tag] w fun e w' => e = .returned (.bool (hp tag s)) ∧ Hid (Held p (nx tag s) w w') := by
  have := next_any p ⟨s.toArray⟩ (tag : Int) w hc hf (by omega) (by omega)
  rw [Int.toNat_natCast] at this
  exact this
theorem number_list (p : Nat) (s : List UInt8) (w : World) (hc : w.cell? ⟨p, 0, none⟩ = some (.string ⟨s.toArray⟩)) (hf : w.frozen? ⟨p, 0, none⟩ = false) (hs : s.length ≤ maxLen) :
    Calls Tryz.prog 109 #[.pointer (some ⟨p, 0, none⟩)] w fun e w' => e = .returned (.int .i64 (numOf s)) ∧ Hid (Held p (numRest s) w w') := number_any p ⟨s.toArray⟩ w hc hf hs
theorem text_list (p : Nat) (s : List UInt8) (w : World) (hc : w.cell? ⟨p, 0, none⟩ = some (.string ⟨s.toArray⟩)) (hf : w.frozen? ⟨p, 0, none⟩ = false) (hs : s.length ≤ maxLen) :
    Calls Tryz.prog 110 #[.pointer (some ⟨p, 0, none⟩)] w fun e w' => e = .returned (.string ⟨(txOf s).toArray⟩) ∧ Hid (Held p (txRest s) w w') := text_any p ⟨s.toArray⟩ w hc hf hs
theorem fld_start (w : World) (s : List UInt8) : Fld w.heap.size w (((w.alloc (.cells #[.int .i64 0, .string ⟨#[]⟩, .int .i64 0, .string ⟨#[]⟩, .slice none 0 0] 38)).alloc (.cells #[.int .i64 0, .string ⟨#[]⟩, .int .i64 0, .string ⟨#[]⟩, .slice none 0 0] 38)).alloc (.cells #[.string ⟨s.toArray⟩] 144)) s 0 ⟨#[]⟩ 0 ⟨#[]⟩ (.slice none 0 0) := by
  constructor
  all_goals first
    | (go_simp; done)
    | (intro o; go_simp; done)
    | exact (((Below.refl _ _).alloc (Nat.le_refl _) _).alloc (by simp) _).alloc (by simp; omega) _
    | (simp; done)
    | (rw [Below.heap_alloc _ _ _ (by simp; omega), Below.heap_alloc _ _ _ (by simp), heap_alloc_new])

set_option maxRecDepth 100000 in
set_option maxHeartbeats 2000000 in
theorem readFields_any (v : Int) (s : List UInt8) (w : World) (hs : s.length ≤ maxLen) :
    Calls Tryz.prog 105 #[.int .i64 v, .string ⟨s.toArray⟩] w fun e w' =>
      ∃ x, e = .returned (.agg #[.int .i64 (rdFields v s).kind, .string (rdFields v s).task, .int .i64 (rdFields v s).time, .string (rdFields v s).body, x]) ∧
        w'.ownsRow w.heap.size 9 1 x (rdFields v s).tags.length ((rdFields v s).tags.map Value.string) ∧ Below w.heap.size w w' := by
  have HF0 : Hid _ := fld_start w s
  have hl0 : s.length ≤ s.length := Nat.le_refl _
  go_enter Tryz.func105, Tryz.ntmps105
  go_wp2_with fail
  refine (next_list _ s 1 _ HF0.out.f0 HF0.out.ff (by omega)).mono ?_
  rintro e w1 ⟨rfl, hh⟩
  have HG1 : Hid _ := HF0.out.held hh.out
  clear hh HF0
  have hl1 := nx_len 1 s
  go_upto_if 9 with fail
  go_cut [9] (fun _ wx => Hid (Fld w.heap.size w wx (behindNum 1 s) (kindOf v s) ⟨#[]⟩ 0 ⟨#[]⟩ (.slice none 0 0)))
  case first =>
    by_cases hq : hp 1 s = true
    · have HK : Hid (behindNum 1 s = numRest (nx 1 s) ∧ kindOf v s = (wrap64 (numOf (nx 1 s) + shift v) : Int)) := ⟨if_pos hq, if_pos hq⟩
      rw [hq]
      obtain ⟨f0, ff, c0, c1, c2, c3, c4, z1, bel, big, res⟩ := HG1.out
      go_wp2_with fail
      refine (number_list _ (nx 1 s) _ f0 ff (by omega)).mono ?_
      rintro e wq ⟨rfl, hh⟩
      have HX : Hid _ := HG1.out.held hh.out
      clear f0 ff c0 c1 c2 c3 c4 z1 bel big res hh
      obtain ⟨f0, ff, c0, c1, c2, c3, c4, z1, bel, big, res⟩ := HX.out
      go_wp2_with (go_at_call 99; refine (kindShift_any _ _).mono ?_; rintro e w' ⟨rfl, rfl⟩)
      go_meet
      case rel => rw [HK.out.1, HK.out.2]; exact HX.out.put.1 _
    · have HK : Hid (behindNum 1 s = nx 1 s ∧ kindOf v s = (0 : Int)) := ⟨if_neg hq, if_neg hq⟩
      have hq' : hp 1 s = false := by simpa using hq
      rw [hq']
      go_wp2_with fail
      go_meet
      case rel => rw [HK.out.1, HK.out.2]; exact HG1.out
  case rest =>
    have HF1 := hcut
    have hb1 := behindNum_len 1 s
    clear hcut HG1
    go_wp2_with fail
    refine (next_list _ (behindNum 1 s) 2 _ HF1.out.f0 HF1.out.ff (by omega)).mono ?_
    rintro e w2 ⟨rfl, hh⟩
    have HG2 : Hid _ := HF1.out.held hh.out
    clear hh HF1
    have hl2 := nx_len 2 (behindNum 1 s)
    go_upto_if 15 with fail
    go_cut [15] (fun _ wx => Hid (Fld w.heap.size w wx (behindText 2 (behindNum 1 s)) (kindOf v s) (textOf 2 (behindNum 1 s)) 0 ⟨#[]⟩ (.slice none 0 0)))
    case first =>
      by_cases hq : hp 2 (behindNum 1 s) = true
      · have HK : Hid (behindText 2 (behindNum 1 s) = txRest (nx 2 (behindNum 1 s)) ∧ textOf 2 (behindNum 1 s) = (⟨(txOf (nx 2 (behindNum 1 s))).toArray⟩ : ByteArray)) := ⟨if_pos hq, if_pos hq⟩
        rw [hq]
        obtain ⟨f0, ff, c0, c1, c2, c3, c4, z1, bel, big, res⟩ := HG2.out
        go_wp2_with fail
        refine (text_list _ (nx 2 (behindNum 1 s)) _ f0 ff (by omega)).mono ?_
        rintro e wq ⟨rfl, hh⟩
        have HX : Hid _ := HG2.out.held hh.out
        clear f0 ff c0 c1 c2 c3 c4 z1 bel big res hh
        obtain ⟨f0, ff, c0, c1, c2, c3, c4, z1, bel, big, res⟩ := HX.out
        go_wp2_with fail
        go_meet
        case rel => rw [HK.out.1, HK.out.2]; exact HX.out.put.2.1 _
      · have HK : Hid (behindText 2 (behindNum 1 s) = nx 2 (behindNum 1 s) ∧ textOf 2 (behindNum 1 s) = (⟨#[]⟩ : ByteArray)) := ⟨if_neg hq, if_neg hq⟩
        have hq' : hp 2 (behindNum 1 s) = false := by simpa using hq
        rw [hq']
        go_wp2_with fail
        go_meet
        case rel => rw [HK.out.1, HK.out.2]; exact HG2.out
    case rest =>
      have HF2 := hcut
      have hb2 := behindText_len 2 (behindNum 1 s)
      clear hcut HG2
      go_wp2_with fail
      refine (next_list _ (behindText 2 (behindNum 1 s)) 3 _ HF2.out.f0 HF2.out.ff (by omega)).mono ?_
      rintro e w3 ⟨rfl, hh⟩
      have HG3 : Hid _ := HF2.out.held hh.out
      clear hh HF2
      have hl3 := nx_len 3 (behindText 2 (behindNum 1 s))
      go_upto_if 18 with fail
      go_cut [18] (fun _ wx => Hid (Fld w.heap.size w wx (behindNum 3 (behindText 2 (behindNum 1 s))) (kindOf v s) (textOf 2 (behindNum 1 s)) (timeOf (behindText 2 (behindNum 1 s))) ⟨#[]⟩ (.slice none 0 0)))
      case first =>
        by_cases hq : hp 3 (behindText 2 (behindNum 1 s)) = true
        · have HK : Hid (behindNum 3 (behindText 2 (behindNum 1 s)) = numRest (nx 3 (behindText 2 (behindNum 1 s))) ∧ timeOf (behindText 2 (behindNum 1 s)) = (numOf (nx 3 (behindText 2 (behindNum 1 s))) : Int)) := ⟨if_pos hq, if_pos hq⟩
          rw [hq]
          obtain ⟨f0, ff, c0, c1, c2, c3, c4, z1, bel, big, res⟩ := HG3.out
          go_wp2_with fail
          refine (number_list _ (nx 3 (behindText 2 (behindNum 1 s))) _ f0 ff (by omega)).mono ?_
          rintro e wq ⟨rfl, hh⟩
          have HX : Hid _ := HG3.out.held hh.out
          clear f0 ff c0 c1 c2 c3 c4 z1 bel big res hh
          obtain ⟨f0, ff, c0, c1, c2, c3, c4, z1, bel, big, res⟩ := HX.out
          go_wp2_with fail
          go_meet
          case rel => rw [HK.out.1, HK.out.2]; exact HX.out.put.2.2.1 _
        · have HK : Hid (behindNum 3 (behindText 2 (behindNum 1 s)) = nx 3 (behindText 2 (behindNum 1 s)) ∧ timeOf (behindText 2 (behindNum 1 s)) = (0 : Int)) := ⟨if_neg hq, if_neg hq⟩
          have hq' : hp 3 (behindText 2 (behindNum 1 s)) = false := by simpa using hq
          rw [hq']
          go_wp2_with fail
          go_meet
          case rel => rw [HK.out.1, HK.out.2]; exact HG3.out
      case rest =>
        have HF3 := hcut
        have hb3 := behindNum_len 3 (behindText 2 (behindNum 1 s))
        clear hcut HG3
        go_wp2_with fail
        refine (next_list _ (behindNum 3 (behindText 2 (behindNum 1 s))) 4 _ HF3.out.f0 HF3.out.ff (by omega)).mono ?_
        rintro e w4 ⟨rfl, hh⟩
        have HG4 : Hid _ := HF3.out.held hh.out
        clear hh HF3
        have hl4 := nx_len 4 (behindNum 3 (behindText 2 (behindNum 1 s)))
        go_upto_if 21 with fail
        go_cut [21] (fun _ wx => Hid (Fld w.heap.size w wx (behindText 4 (behindNum 3 (behindText 2 (behindNum 1 s)))) (kindOf v s) (textOf 2 (behindNum 1 s)) (timeOf (behindText 2 (behindNum 1 s))) (textOf 4 (behindNum 3 (behindText 2 (behindNum 1 s)))) (.slice none 0 0)))
        case first =>
          by_cases hq : hp 4 (behindNum 3 (behindText 2 (behindNum 1 s))) = true
          · have HK : Hid (behindText 4 (behindNum 3 (behindText 2 (behindNum 1 s))) = txRest (nx 4 (behindNum 3 (behindText 2 (behindNum 1 s)))) ∧ textOf 4 (behindNum 3 (behindText 2 (behindNum 1 s))) = (⟨(txOf (nx 4 (behindNum 3 (behindText 2 (behindNum 1 s))))).toArray⟩ : ByteArray)) := ⟨if_pos hq, if_pos hq⟩
            rw [hq]
            obtain ⟨f0, ff, c0, c1, c2, c3, c4, z1, bel, big, res⟩ := HG4.out
            go_wp2_with fail
            refine (text_list _ (nx 4 (behindNum 3 (behindText 2 (behindNum 1 s)))) _ f0 ff (by omega)).mono ?_
            rintro e wq ⟨rfl, hh⟩
            have HX : Hid _ := HG4.out.held hh.out
            clear f0 ff c0 c1 c2 c3 c4 z1 bel big res hh
            obtain ⟨f0, ff, c0, c1, c2, c3, c4, z1, bel, big, res⟩ := HX.out
            go_wp2_with fail
            go_meet
            case rel => rw [HK.out.1, HK.out.2]; exact HX.out.put.2.2.2.1 _
          · have HK : Hid (behindText 4 (behindNum 3 (behindText 2 (behindNum 1 s))) = nx 4 (behindNum 3 (behindText 2 (behindNum 1 s))) ∧ textOf 4 (behindNum 3 (behindText 2 (behindNum 1 s))) = (⟨#[]⟩ : ByteArray)) := ⟨if_neg hq, if_neg hq⟩
            have hq' : hp 4 (behindNum 3 (behindText 2 (behindNum 1 s))) = false := by simpa using hq
            rw [hq']
            go_wp2_with fail
            go_meet
            case rel => rw [HK.out.1, HK.out.2]; exact HG4.out
        case rest =>
          have HF4 := hcut
          have hb4 := behindText_len 4 (behindNum 3 (behindText 2 (behindNum 1 s)))
          clear hcut HG4
          have hSl : (behindText 4 (behindNum 3 (behindText 2 (behindNum 1 s)))).length ≤ s.length := by omega
          have HRD : Hid (rdFields v s = ⟨kindOf v s, textOf 2 (behindNum 1 s), timeOf (behindText 2 (behindNum 1 s)), textOf 4 (behindNum 3 (behindText 2 (behindNum 1 s))), tagsF 4 (behindText 4 (behindNum 3 (behindText 2 (behindNum 1 s))))⟩) := rfl
          clear hl0 hl1 hl2 hl3 hl4 hb1 hb2 hb3 hb4
          generalize behindText 4 (behindNum 3 (behindText 2 (behindNum 1 s))) = S at HF4 hSl HRD
          generalize kindOf v s = K at HF4 HRD
          generalize textOf 2 (behindNum 1 s) = T at HF4 HRD
          generalize timeOf (behindText 2 (behindNum 1 s)) = M at HF4 HRD
          generalize textOf 4 (behindNum 3 (behindText 2 (behindNum 1 s))) = B at HF4 HRD
          obtain ⟨i0, hi, hz0, hz1, hz2⟩ := info_parts infoString
          unfold maxLen at hs
          go_wp2_with fail
          go_loopw [30] (fun _ wx => ∃ (a : Option Addr) (cap : Nat) (acc : List ByteArray) (r : List UInt8), acc.length ≤ 4 ∧ r.length ≤ s.length ∧ Hid (acc ++ tagsF (4 - acc.length) r = tagsF 4 S) ∧ Hid (Fld w.heap.size w wx r K T M B (.slice a acc.length cap)) ∧ Hid (wx.ownsRow (w.heap.size + 3) 9 1 (.slice a acc.length cap) acc.length (acc.map Value.string))) (fun _ wx => 4 - lenAt (w.heap.size + 1) wx)
          case atStart => exact ⟨none, 0, [], S, by simp, hSl, rfl, HF4, World.ownsRow_nil _ _ _ _⟩
          case round =>
            obtain ⟨a, cap, acc, r, hacc, hrl, HS, HF, HO⟩ := hrel
            clear HF4
            obtain ⟨f0, ff, c0, c1, c2, c3, c4, z1, bel, big, res⟩ := HF.out
            by_cases hlt : acc.length < 4
            · go_wp2_with fail
              refine (next_list _ r 5 _ f0 ff (by omega)).mono ?_
              rintro e wq ⟨rfl, hh⟩
              have HX : Hid _ := HF.out.held hh.out
              have HP : Hid (wq.ownsRow (w.heap.size + 3) 9 1 (.slice a acc.length cap) acc.length (acc.map Value.string)) := own_kept HO.out hh.out.2.2 (by omega)
              have hnl := nx_len 5 r
              have htl := txRest_len (nx 5 r)
              clear f0 ff c0 c1 z1 bel res hh c2 c3
              obtain ⟨f0, ff, c0, c1, c2, c3, c4', z1, bel, big', res⟩ := HX.out
              obtain ⟨r0, r1, r2, r3, r4, rz⟩ := res_cells res
              by_cases hq : hp 5 r = true
              · have HT : Hid (tagsF (4 - acc.length) r = ⟨(txOf (nx 5 r)).toArray⟩ :: tagsF (4 - (acc.length + 1)) (txRest (nx 5 r))) := by
                  rw [show 4 - acc.length = (4 - (acc.length + 1)) + 1 by omega]; exact if_pos hq
                have e1 : acc.length + 1 ≤ maxLen := by unfold maxLen; omega
                have hTX : Calls Tryz.prog 110 #[.pointer (some ⟨w.heap.size + 1 + 1, 0, none⟩)] wq.drew fun e wz => e = .returned (.string ⟨(txOf (nx 5 r)).toArray⟩) ∧ Hid (Fld w.heap.size w wz (txRest (nx 5 r)) K T M B (.slice a acc.length cap)) ∧ Hid (wz.ownsRow (w.heap.size + 3) 9 1 (.slice a acc.length cap) acc.length (acc.map Value.string)) ∧ wz.cell? ⟨w.heap.size + 1, 4, none⟩ = some (.slice a acc.length cap) ∧ ∀ o, (wz.alloc o).cell? ⟨w.heap.size + 1, 4, none⟩ = some (.slice a acc.length cap) := by
                  refine (text_list (w.heap.size + 2) (nx 5 r) wq.drew HX.out.drew.f0 HX.out.drew.ff (by unfold maxLen; omega)).mono ?_
                  rintro e wz ⟨rfl, hhz⟩
                  exact ⟨rfl, HX.out.drew.held hhz.out, own_kept (World.ownsRow.drew HP.out) hhz.out.2.2 (by omega), (HX.out.drew.held hhz.out).c4, fun o => ((HX.out.drew.held hhz.out).alloc o).c4⟩
                have e2 : (acc.length + 1) * 16 ≤ 140737488355328 := by omega
                rw [hq]
                go_wp2_with fail
                go_region_law (first
                  | (have hq9 := HQ.out
                     have e3 : ∀ o, w.heap.size + 3 ≤ (wz.alloc o).heap.size := fun o => by have := HY.out.big; simp; omega
                     refine step_append_lies _ rfl _ _ 36 rfl (w.heap.size + 3) 9 i0 (.string ⟨#[]⟩) 1 16 Tryz.underlying36 hi hz0 hz1 hz2 rfl Nat.one_pos _ _ _ rfl (hq9.alloc _) ⟨wz.heap.size, 0, none⟩ 1 1 [_] rfl rfl (cell_one_new _ _ _) (one_string _) Nat.one_pos e1 e2 (e3 _) _ rfl ?_
                     clear hq9 e3
                     intro g cap' wa hown' hgrow hat hglt
                     have HA : Hid _ := (HY.out.alloc _).grown hgrow (fun q hq => (HQ.out.lt q hq).1)
                     have HO' : Hid (wa.ownsRow (w.heap.size + 3) 9 1 (.slice (some ⟨g, 0, none⟩) (acc.length + 1) cap') (acc.length + 1) (acc.map Value.string ++ [.string ⟨(txOf (nx 5 r)).toArray⟩])) := hown'
                     have ca := HA.out.c4
                     have za := HA.out.z1
                     clear hgrow hown' hat)
                  | (go_simp; go_at_call 110; refine hTX.mono ?_; rintro e wz ⟨rfl, HY, HQ, cz, czo⟩))
                all_goals
                  go_wp2
                  go_roundw
                  case rel =>
                    refine ⟨some ⟨g, 0, none⟩, cap', acc ++ [⟨(txOf (nx 5 r)).toArray⟩], txRest (nx 5 r), by simp; omega, by omega, ?_, ?_, ?_⟩
                    · show _ = _
                      rw [← HS.out, HT.out]; simp
                    · rw [List.length_append]; exact HA.out.put.2.2.2.2 _
                    · rw [List.length_append, List.map_append]; exact ownsRow_setCell_below HO'.out (by simp) _
                  case measure => rw [lenAt_of c4, lenAt_of (HA.out.put.2.2.2.2 _).c4]; omega
              · have hq' : hp 5 r = false := by simpa using hq
                have HT : Hid (tagsF 4 S = acc) := by
                  show _ = _
                  rw [← HS.out, show 4 - acc.length = (4 - (acc.length + 1)) + 1 by omega, tagsF, if_neg hq, List.append_nil]
                rw [hq']
                go_wp2
                refine bodyPost_ret (v := .agg #[.int .i64 K, .string T, .int .i64 M, .string B, .slice a acc.length cap]) (by simp [results, Tryz.results105, go_sem, r0, r1, r2, r3, r4]) rfl ⟨.slice a acc.length cap, ?_, ?_, ?_⟩
                · rw [HRD.out]
                · rw [HRD.out]
                  show World.ownsRow _ _ _ _ _ (tagsF 4 S).length ((tagsF 4 S).map Value.string)
                  rw [HT.out]
                  exact own_mono (ownsRow_setCell_below (ownsRow_setCell_below (ownsRow_setCell_below (ownsRow_setCell_below (ownsRow_setCell_below HP.out (by simp) _) (by simp) _) (by simp) _) (by simp) _) (by simp) _) (by omega)
                · exact ((((bel.setCell (by simp) _).setCell (by simp) _).setCell (by simp) _).setCell (by simp) _).setCell (by simp) _
            · have HT : Hid (tagsF 4 S = acc) := by
                show _ = _
                rw [← HS.out, show 4 - acc.length = 0 by omega, tagsF, List.append_nil]
              obtain ⟨r0, r1, r2, r3, r4, rz⟩ := res_cells res
              go_wp2
              refine bodyPost_ret (v := .agg #[.int .i64 K, .string T, .int .i64 M, .string B, .slice a acc.length cap]) (by simp [results, Tryz.results105, go_sem, r0, r1, r2, r3, r4]) rfl ⟨.slice a acc.length cap, ?_, ?_, ?_⟩
              · rw [HRD.out]
              · rw [HRD.out]
                show World.ownsRow _ _ _ _ _ (tagsF 4 S).length ((tagsF 4 S).map Value.string)
                rw [HT.out]
                exact own_mono (ownsRow_setCell_below (ownsRow_setCell_below (ownsRow_setCell_below (ownsRow_setCell_below (ownsRow_setCell_below HO.out (by simp) _) (by simp) _) (by simp) _) (by simp) _) (by simp) _) (by omega)
              · exact ((((bel.setCell (by simp) _).setCell (by simp) _).setCell (by simp) _).setCell (by simp) _).setCell (by simp) _
end Go.Proofs.YtdjllnhahhjgmaaGreat
