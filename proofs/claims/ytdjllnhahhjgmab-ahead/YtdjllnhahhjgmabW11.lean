/- Walks and plain facts, in the order in which they lean on one another. -/
import Derived.Test.YtdjllnhahhjgmabW07
import Derived.Test.YtdjllnhahhjgmabW10
import Derived.Test.YtdjllnhahhjgmabW06
import Derived.Lib.ConvBytes
import Derived.RangeFuncBox
namespace Chron
open Go Go.RowKit
theorem readF_took : ∀ (f : Nat) (b : Bool) (l : List UInt8) (n : Nat) (r : List UInt8), readF f b l = some (n, r) → l.length ≤ r.length + f
  | 0, _, _, _, _, h => by simp [readF] at h
  | f + 1, _, [], _, _, h => by simp [readF] at h
  | f + 1, b, c :: l, n, r, h => by
    unfold readF at h
    split at h
    · split at h
      · cases h
      · simp only [Option.some.injEq, Prod.mk.injEq] at h
        rw [← h.2]; simp
    · rcases hq : readF f false l with _ | ⟨m, r'⟩
      · rw [hq] at h; cases h
      · rw [hq] at h
        simp only [Option.some.injEq, Prod.mk.injEq] at h
        have := readF_took f false l m r' hq
        rw [← h.2]; simp; omega
/- what a reader took that isn't stopped behind it -/
structure Took (c : Nat) (r r' : Rdr) : Prop where
  was : r.stop = false
  le : r'.rest.length ≤ r.rest.length
  most : r.rest.length ≤ r'.rest.length + c
theorem Took.trans {c d : Nat} {a b e : Rdr} (h : Took c a b) (k : Took d b e) : Took (c + d) a e :=
  ⟨h.was, by have := h.le; have := k.le; omega, by have := h.most; have := k.most; omega⟩
theorem fail_stop (r : Rdr) : r.fail.stop = true := by simp [Rdr.fail, Rdr.stop]
theorem over_stop (r : Rdr) : r.over.stop = true := by simp [Rdr.over, Rdr.stop]
theorem cutNumR_stop (most : Int) (r : Rdr) : (cutNumR most r).stop = true := by
  unfold cutNumR
  split
  · exact fail_stop r
  · split
    · exact fail_stop r
    · exact over_stop r
theorem numR_took {least most : Int} {r : Rdr} (h : (numR least most r).2.stop = false) :
    Took 9 r (numR least most r).2 ∧ (numR least most r).2.rest.length < r.rest.length ∧ least ≤ ((numR least most r).1 : Int) ∧ ((numR least most r).1 : Int) ≤ most := by
  by_cases hs : r.stop = true
  · have e : numR least most r = (0, r) := if_pos hs
    rw [e] at h
    simp only at h
    rw [hs] at h; cases h
  · rcases hq : readNum r.rest with _ | ⟨n, q⟩
    · have e : numR least most r = (0, cutNumR most r) := by unfold numR; rw [if_neg hs, hq]
      rw [e] at h
      simp only at h
      rw [cutNumR_stop] at h; cases h
    · by_cases hb : (n : Int) < least ∨ most < (n : Int)
      · have e : numR least most r = (0, r.fail) := by unfold numR; rw [if_neg hs, hq]; exact if_pos hb
        rw [e] at h
        simp only at h
        rw [fail_stop] at h; cases h
      · have e : numR least most r = (n, ⟨q, r.cut, r.wrong⟩) := by unfold numR; rw [if_neg hs, hq]; exact if_neg hb
        rw [e]
        have h1 := readF_len 9 true _ _ _ hq
        have h2 := readF_took 9 true _ _ _ hq
        exact ⟨⟨by simpa using hs, Nat.le_of_lt h1, h2⟩, h1, by simp only; omega, by simp only; omega⟩
theorem textR_took {most : Int} {c : Nat} {r : Rdr} (hm : most = (c : Int)) (h : (textR most r).2.stop = false) : Took (9 + c) r (textR most r).2 := by
  by_cases hl : (numR 0 most r).2.rest.length < (numR 0 most r).1
  · have e : textR most r = ([], (numR 0 most r).2.over) := if_pos hl
    rw [e] at h
    simp only at h
    rw [over_stop] at h; cases h
  · have e : textR most r = ((numR 0 most r).2.rest.take (numR 0 most r).1, ⟨(numR 0 most r).2.rest.drop (numR 0 most r).1, (numR 0 most r).2.cut, (numR 0 most r).2.wrong⟩) := if_neg hl
    rw [e] at h ⊢
    obtain ⟨h1, _, _, h4⟩ := numR_took (least := 0) (most := most) (r := r) h
    refine h1.trans ⟨h, ?_, ?_⟩
    · simp only [List.length_drop]; omega
    · simp only [List.length_drop]; omega
theorem dec_is {v : Int} {s : List UInt8} (h : (decB v s).2 = 0) : isB (decB v s).1 = true := by
  unfold decB at h ⊢
  split at h
  · simp at h
  · rename_i h1
    split at h
    · simp at h
    · rename_i h2
      rw [if_neg h1, if_neg h2]
      exact rd_is (by simpa using h2)
theorem bareR_took {v : Int} {r : Rdr} (h : (bareR v r).2.stop = false) : Took 330 r (bareR v r).2 ∧ isB (bareR v r).1 = true := by
  by_cases hs : (textR 321 r).2.stop = true
  · have e : bareR v r = (zeroEv, (textR 321 r).2) := if_pos hs
    rw [e] at h
    simp only at h
    rw [hs] at h; cases h
  · have e : bareR v r = ((decB v (textR 321 r).1).1, if bareOk (decB v (textR 321 r).1) = true then (textR 321 r).2 else (textR 321 r).2.fail) := if_neg hs
    by_cases hk : bareOk (decB v (textR 321 r).1) = true
    · rw [if_pos hk] at e
      rw [e] at h ⊢
      refine ⟨textR_took (most := 321) (c := 321) rfl h, ?_⟩
      simp only [bareOk, Bool.and_eq_true, decide_eq_true_eq] at hk
      exact dec_is hk.1
    · rw [if_neg hk] at e
      rw [e] at h
      simp only at h
      rw [fail_stop] at h; cases h
theorem bodyR_took {old : ByteArray} {r : Rdr} (h : (bodyR old r).2.stop = false) : Took 71 r (bodyR old r).2 ∧ lineB (bodyR old r).1 = true := by
  by_cases hs : (textR 62 r).2.stop = true
  · have e : bodyR old r = (noB, (textR 62 r).2) := if_pos hs
    rw [e] at h
    simp only at h
    rw [hs] at h; cases h
  · have e : bodyR old r = (⟨(applyB old.data.toList (textR 62 r).1).1.toArray⟩, if bodyOk (applyB old.data.toList (textR 62 r).1) = true then (textR 62 r).2 else (textR 62 r).2.fail) := if_neg hs
    by_cases hk : bodyOk (applyB old.data.toList (textR 62 r).1) = true
    · rw [if_pos hk] at e
      rw [e] at h ⊢
      refine ⟨textR_took (most := 62) (c := 62) rfl h, ?_⟩
      simp only [bodyOk, Bool.and_eq_true, decide_eq_true_eq] at hk
      exact hk.2
    · rw [if_neg hk] at e
      rw [e] at h
      simp only at h
      rw [fail_stop] at h; cases h
theorem is_body {e : Ev} {b : ByteArray} (h : isB e = true) (hb : lineB b = true) : isB ⟨e.kind, e.task, e.time, b, e.tags⟩ = true := by
  simp only [isB, Bool.and_eq_true] at h ⊢
  exact ⟨h.1, h.2.1, h.2.2.1, h.2.2.2.1, h.2.2.2.2.1, hb, h.2.2.2.2.2.2⟩
theorem evR_took {v : Int} {old : ByteArray} {r : Rdr} (h : (evR v old r).2.stop = false) : Took 401 r (evR v old r).2 ∧ isB (evR v old r).1 = true := by
  obtain ⟨h1, h2⟩ := bodyR_took (old := old) (r := (bareR v r).2) h
  obtain ⟨h3, h4⟩ := bareR_took (v := v) (r := r) h1.was
  exact ⟨h3.trans h1, is_body h4 h2⟩
theorem evsR_took {v : Int} : ∀ (n : Nat) (l : List Ev) (r : Rdr), (evsR v n l r).2.stop = false → (∀ e ∈ l, isB e = true) → Took (401 * n) r (evsR v n l r).2 ∧ (∀ e ∈ (evsR v n l r).1, isB e = true) ∧ (evsR v n l r).1.length = l.length + n
  | 0, l, r, h, hl => ⟨⟨h, Nat.le_refl _, Nat.le_refl _⟩, hl, rfl⟩
  | n + 1, l, r, h, hl => by
    have hstop : ∀ (n : Nat) (l : List Ev) (r : Rdr), (evsR v n l r).2.stop = false → r.stop = false := by
      intro n
      induction n with
      | zero => exact fun l r h => h
      | succ n ih => exact fun l r h => (evR_took (ih _ _ h)).1.was
    have h1 := hstop n _ _ h
    obtain ⟨h2, h3⟩ := evR_took h1
    obtain ⟨h4, h5, h6⟩ := evsR_took n (l ++ [(evR v (lastB noB l) r).1]) (evR v (lastB noB l) r).2 h (fun e he => by
      rcases List.mem_append.1 he with h | h
      · exact hl e h
      · simp at h; rw [h]; exact h3)
    refine ⟨?_, h5, ?_⟩
    · have := h2.trans h4
      rw [show 401 * (n + 1) = 401 + 401 * n by omega]
      exact this
    · show (evsR v n (l ++ [(evR v (lastB noB l) r).1]) (evR v (lastB noB l) r).2).1.length = _
      rw [h6]; simp; omega
theorem entryR_took {l : List Ev} {r : Rdr} (h : (entryR l r).2.stop = false) (hl : ∀ e ∈ l, isB e = true) :
    r.stop = false ∧ (entryR l r).2.rest.length < r.rest.length ∧ (∀ e ∈ (entryR l r).1, isB e = true) ∧ (entryR l r).1.length ≤ 200 ∧ r.rest.length + 419 * l.length ≤ (entryR l r).2.rest.length + 419 * (entryR l r).1.length := by
  obtain ⟨h1, h2, h3⟩ := evsR_took (v := (numR 1 3 r).1) _ l _ h hl
  obtain ⟨k1, k2, k3, k4⟩ := numR_took h1.was
  obtain ⟨m1, m2, m3, m4⟩ := numR_took k1.was
  refine ⟨m1.was, ?_, h2, ?_, ?_⟩
  · have := h1.le
    show (evsR (numR 1 3 r).1 (numR 1 (200 - (l.length : Int)) (numR 1 3 r).2).1 l (numR 1 (200 - (l.length : Int)) (numR 1 3 r).2).2).2.rest.length < _
    omega
  · show (evsR (numR 1 3 r).1 (numR 1 (200 - (l.length : Int)) (numR 1 3 r).2).1 l (numR 1 (200 - (l.length : Int)) (numR 1 3 r).2).2).1.length ≤ _
    omega
  · have a1 := h1.most
    have a2 := k1.most
    have a3 := m1.most
    show r.rest.length + 419 * l.length ≤ (evsR (numR 1 3 r).1 (numR 1 (200 - (l.length : Int)) (numR 1 3 r).2).1 l (numR 1 (200 - (l.length : Int)) (numR 1 3 r).2).2).2.rest.length + 419 * (evsR (numR 1 3 r).1 (numR 1 (200 - (l.length : Int)) (numR 1 3 r).2).1 l (numR 1 (200 - (l.length : Int)) (numR 1 3 r).2).2).1.length
    omega
theorem readR_any (size : Nat) : ∀ (f : Nat) (l : List Ev) (whole : Nat) (r : Rdr), (∀ e ∈ l, isB e = true) → l.length ≤ 200 → whole = size - r.rest.length → r.rest.length ≤ size → whole ≤ 419 * l.length →
    (∀ e ∈ (readR size f l whole r).1, isB e = true) ∧ (readR size f l whole r).1.length ≤ 200 ∧ (readR size f l whole r).2.1 ≤ size ∧ (readR size f l whole r).2.1 ≤ 419 * (readR size f l whole r).1.length
  | 0, l, whole, r, h1, h2, h3, h4, h5 => ⟨h1, h2, by show whole ≤ size; omega, h5⟩
  | f + 1, l, whole, r, h1, h2, h3, h4, h5 => by
    unfold readR
    split
    · exact ⟨h1, h2, by show whole ≤ size; omega, h5⟩
    · split
      · exact ⟨h1, h2, by show whole ≤ size; omega, h5⟩
      · rename_i hs
        obtain ⟨k1, k2, k3, k4, k5⟩ := entryR_took (by simpa using hs) h1
        exact readR_any size f _ _ _ k3 k4 rfl (by omega) (by omega)
theorem readB_any (file : List UInt8) : (∀ e ∈ (readB file).1, isB e = true) ∧ (readB file).1.length ≤ 200 ∧ (readB file).2.1 ≤ file.length ∧ (readB file).2.1 ≤ 83800 := by
  obtain ⟨h1, h2, h3, h4⟩ := readR_any file.length file.length [] 0 ⟨file, false, false⟩ (fun e he => by cases he) (by simp) (by simp) (by simp) (by simp)
  refine ⟨h1, h2, h3, ?_⟩
  show (readR file.length file.length [] 0 ⟨file, false, false⟩).2.1 ≤ _
  omega
end Chron
namespace Go.Proofs.Ytdjllnhahhjgmab
open Go.RowKit Chron
theorem restLen_rd {R : Nat} {w : World} {r : Rdr} (h : RdAt R w r) : restLen R w = r.rest.length := by rw [restLen, h.cells.1]; rfl
theorem few_evs {its : List Item} (h : ∀ e ∈ evs its, isB e = true) : ∀ e ∈ evs its, Few 1048576 e := by
  intro e he
  have k := is_known (h e he)
  exact ⟨by have := k.few; omega, fun t ht => by have := k.lines t ht; omega, by have := k.task; omega, by have := k.body; omega⟩
theorem readR_stop {size f : Nat} {l : List Ev} {whole : Nat} {r : Rdr} (hr : r.rest ≠ []) (hf : r.rest.length ≤ f) (h : (entryR l r).2.stop = true) : readR size f l whole r = (l, whole, !(entryR l r).2.wrong) := by
  obtain ⟨g, rfl⟩ : ∃ g, f = g + 1 := ⟨f - 1, by have := List.length_pos_iff.2 hr; omega⟩
  rw [readR, if_neg hr, if_pos h]
theorem readR_on {size f : Nat} {l : List Ev} {whole : Nat} {r : Rdr} (hr : r.rest ≠ []) (hf : r.rest.length ≤ f) (h : (entryR l r).2.stop = false) : readR size f l whole r = readR size (f - 1) (entryR l r).1 (size - (entryR l r).2.rest.length) (entryR l r).2 := by
  obtain ⟨g, rfl⟩ : ∃ g, f = g + 1 := ⟨f - 1, by have := List.length_pos_iff.2 hr; omega⟩
  rw [readR, if_neg hr, if_neg (by rw [h]; decide)]
  rfl
theorem readR_end {size f : Nat} {l : List Ev} {whole : Nat} {r : Rdr} (hr : r.rest = []) : readR size f l whole r = (l, whole, !r.wrong) := by
  cases f with
  | zero => rfl
  | succ f => rw [readR, if_pos hr]
set_option maxRecDepth 100000 in
set_option maxHeartbeats 1000000 in
theorem aRead_any (file : List UInt8) (w : World) (hs : file.length ≤ 281474976710656) :
    Calls Try.prog 18 #[.string ⟨file.toArray⟩] w fun e w' => ∃ (va : Option Addr) (vc : Nat) (its : List Item), e = .returned (.tuple #[.slice va its.length vc, .int .i64 (readB file).2.1, .bool (readB file).2.2]) ∧ Hid (evs its = (readB file).1) ∧ Hid (MadeO (w.heap.size + 1) w' (.slice va its.length vc) its) ∧ Hid (Below w.heap.size w w') := by
  have hlen : ((⟨file.toArray⟩ : ByteArray).size : Int) = (file.length : Int) := rfl
  go_enter Try.func18, Try.ntmps18
  go_wp2_with fail
  go_loopw [2, 3] (fun lv hv wx => ∃ (its : List Item) (va : Option Addr) (vc : Nat) (rr : Rdr) (f whole : Nat), lv = .slice va its.length vc ∧ hv = .int .i64 whole ∧ rr.rest.length ≤ f ∧ rr.rest.length ≤ file.length ∧ its.length ≤ 200 ∧ Hid (rr.stop = false) ∧ Hid (readR file.length f (evs its) whole rr = readB file) ∧ Hid (MadeO (w.heap.size + 1) wx (.slice va its.length vc) its) ∧ Hid (RdAt w.heap.size wx rr) ∧ Hid (Below w.heap.size w wx) ∧ Hid (∀ e ∈ evs its, isB e = true)) (fun _ _ wx => restLen w.heap.size wx)
  case atStart => exact ⟨[], none, 0, ⟨file, false, false⟩, file.length, 0, rfl, rfl, Nat.le_refl _, Nat.le_refl _, by simp, by show _ = _; rfl, by show _ = _; rfl, ⟨World.ownsRow_nil _ _ _ _, (fun _ h => by cases h), (fun _ h => by simp [tagBs] at h), by simp [tagBs]⟩, heap_alloc_new w _, (Below.refl _ _).alloc (Nat.le_refl _) _, fun e he => by simp [evs] at he⟩
  case round =>
    obtain ⟨its, va, vc, rr, f, whole, rfl, rfl, hf, hrl, hl2, HST, HRD, HM, HR, HB, HG⟩ := hrel
    obtain ⟨c0, c1, c2, cz⟩ := HR.out.cells
    by_cases hz : rr.rest = []
    · have HE := hide0 (HRD.out.symm.trans (readR_end hz))
      have hcmp : rr.rest.isEmpty = true := by rw [hz]; rfl
      clear hz
      go_wp2_with fail
      trace_state
      go_quiet (fail)
      go_wp2
      go_ret3
      exact ⟨va, vc, its, by rw [HE.out]; rfl, by rw [HE.out]; exact hide0 rfl, hide0 (HM.out.keep (fun q _ _ => rfl)), hide0 (HB.out.trans ⟨rfl, rfl, rfl, Nat.le_refl _, fun _ _ => rfl⟩)⟩
    · have hcmp : rr.rest.isEmpty = false := by simpa using hz
      have hnw := HB.out.size
      have hrlt := HR.out.lt
      have hent := aEntry_any (w.heap.size + 1) w.heap.size rr va vc its wr HR HM (by omega) (by omega) (by omega) (few_evs HG.out) hl2
      by_cases hst : (entryR (evs its) rr).2.stop = true
      · have HE := hide0 (HRD.out.symm.trans (readR_stop hz hf hst))
        clear hz
        go_wp2_with fail
        refine hent.mono ?_
        rintro e w1 ⟨va1, vc1, its1, rfl, HT1, HEV1, HR1, HB1, _, _⟩
        go_wp2_with (go_at_call 31; refine (aStopped_any _ _ _ HR1).mono ?_; rintro e w' ⟨rfl, hw'⟩; have hw2 := hw'.symm; subst hw2)
        obtain ⟨d0, d1, d2, dz⟩ := HR1.out.cells
        go_wp2_with fail
        go_quiet (fail)
        go_wp2
        go_ret3
        exact ⟨va, vc, its, by rw [HE.out]; rfl, by rw [HE.out]; exact hide0 rfl, hide0 (HT1.out.old.keep (fun q _ _ => rfl)), hide0 (HB.out.trans (HB1.out.trans ⟨rfl, rfl, rfl, Nat.le_refl _, fun _ _ => rfl⟩))⟩
      · have hst' : (entryR (evs its) rr).2.stop = false := by simpa using hst
        have HON := hide0 (HRD.out.symm.trans (readR_on hz hf hst'))
        obtain ⟨k1, k2, k3, k4, k5⟩ := entryR_took hst' HG.out
        have HK3 := hide0 k3
        have hpos := List.length_pos_iff.2 hz
        have HS2 := hide0 hst'
        clear hz k3
        go_wp2_with fail
        refine hent.mono ?_
        rintro e w1 ⟨va1, vc1, its1, rfl, HT1, HEV1, HR1, HB1, _, hl3⟩
        go_wp2_with (go_at_call 31; refine (aStopped_any _ _ _ HR1).mono ?_; rintro e w' ⟨rfl, hw'⟩; have hw2 := hw'.symm; subst hw2)
        obtain ⟨d0, d1, d2, dz⟩ := HR1.out.cells
        have HM9 := hide0 (restLen_rd HR.out)
        go_wp2_with fail
        go_quiet (fail)
        go_wp2
        go_roundw
        case rel => exact ⟨its1, va1, vc1, (entryR (evs its) rr).2, f - 1, file.length - (entryR (evs its) rr).2.rest.length, rfl, by go_num, by omega, by omega, hl3, HS2, by rw [HEV1.out]; exact hide0 HON.out.symm, hide0 (HT1.out.made.keep (fun q _ _ => rfl)), HR1, hide0 (HB.out.trans (HB1.out.trans ⟨rfl, rfl, rfl, Nat.le_refl _, fun _ _ => rfl⟩)), by rw [HEV1.out]; exact HK3⟩
        case measure => rw [show restLen w.heap.size (w1.drewN nq) = restLen w.heap.size w1 from rfl, restLen_rd HR1.out, HM9.out]; omega
theorem MadeO.mono {N M : Nat} {w : World} {lv : Value} {its : List Item} (h : MadeO N w lv its) (hM : M ≤ N) : MadeO M w lv its :=
  ⟨own_mono h.row hM, fun it hi => own_mono (h.tags it hi) hM, h.apart, h.dist⟩
/- bytes of a text -/
theorem OwnB.conv (w : World) (l : List UInt8) (h : l.length ≤ maxLen) : OwnB (Lib.bytesWorld w 5 ⟨l.toArray⟩) w.heap.size 5 (.slice (some ⟨w.heap.size, 0, none⟩) l.length (grownCap w l.length 0 5)) l.length (Lib.byteCells l) := by
  have hge := grownCap_ge w l.length 0 5
  have hsz : (Lib.bytesCells w 5 ⟨l.toArray⟩).size = grownCap w l.length 0 5 := by
    have : (⟨l.toArray⟩ : ByteArray).size = l.length := rfl
    simp only [Lib.bytesCells, Array.size_append, Array.size_map, Array.size_replicate, this, List.size_toArray]; omega
  refine ⟨by simp [Lib.byteCells], .inr ⟨w.heap.size, _, _, _, rfl, Nat.le_refl _, Lib.bytesWorld_at_new w 5 ⟨l.toArray⟩, fun o ho h => by simp only at h; omega, hge, grownCap_le_maxLen _ _ _ _ h, hsz, ?_⟩⟩
  simp [Lib.bytesCells, Lib.byteCells]
set_option maxRecDepth 100000 in
set_option maxHeartbeats 1000000 in
theorem open_any (file : List UInt8) (w : World) (hs : file.length ≤ 281474976710656) :
    Calls Try.prog 7 #[.string ⟨file.toArray⟩] w fun e w' => Hid (Below w.heap.size w w') ∧ (((readB file).2.2 = false ∧ e = .returned (.tuple #[.pointer none, .int .i64 6])) ∨ ((readB file).2.2 = true ∧ ∃ p fv ev its, e = .returned (.tuple #[.pointer (some ⟨p, 0, none⟩), .int .i64 0]) ∧ Hid (ArchO w.heap.size p w' fv ev (file.take (readB file).2.1) its) ∧ Hid (evs its = (readB file).1))) := by
  obtain ⟨k1, k2, k3, k4⟩ := readB_any file
  have hR := aRead_any file w hs
  generalize readB file = rb at *
  obtain ⟨l, whole, ok⟩ := rb
  simp only at k1 k2 k3 k4 hR ⊢
  have HK1 := hide0 k1
  clear k1
  cases ok
  · go_enter Try.func7, Try.ntmps7
    go_wp2_with fail
    refine hR.mono ?_
    rintro e w1 ⟨va, vc, its, rfl, HEV, HM, HB⟩
    go_wp2
    go_ret2
    exact ⟨HB, .inl ⟨trivial, rfl⟩⟩
  · have htl : (file.take whole).length = whole := by rw [List.length_take]; omega
    have hx : (⟨file.toArray⟩ : ByteArray).extract 0 whole = ⟨(file.take whole).toArray⟩ := extract_mk_take file whole
    go_enter Try.func7, Try.ntmps7
    go_wp2_with fail
    refine hR.mono ?_
    rintro e w1 ⟨va, vc, its, rfl, HEV, HM, HB⟩
    have hcv := Lib.run_convert_string_bytes (P := Try.prog) w1 9 46 5 ⟨(file.take whole).toArray⟩ (u := .string) Try.underlying9 Try.underlying46 Try.underlying5
    have HO := hide0 (OwnB.conv w1 (file.take whole) (by unfold maxLen; omega))
    have HBW := hide0 (Lib.bytesWorld_below w1 5 ⟨(file.take whole).toArray⟩)
    generalize Lib.bytesWorld w1 5 ⟨(file.take whole).toArray⟩ = W1 at hcv HO HBW
    rw [htl] at HO
    have hO := HO.out
    have hlt1 := (HO.out.lt w1.heap.size rfl).2
    have hsw := HB.out.size
    have hcvx : (⟨(file.take whole).toArray⟩ : ByteArray).size = whole := htl
    rw [hcvx] at hcv
    clear hO
    go_wp2_with fail
    go_ret2
    have key : ∀ q, q < w1.heap.size → (W1.alloc (.cells #[.int .i32 0, .int .u32 0, .slice (some ⟨w1.heap.size, 0, none⟩) whole (grownCap w1 whole 0 5), .slice va its.length vc] 55)).heap[q]? = w1.heap[q]? := fun q hq => (Below.heap_alloc _ _ _ (by omega)).trans (HBW.out.block q hq)
    have hel : ∀ q, Value.ownBlock (.slice va its.length vc) = some q ∨ q ∈ tagBs its → w.heap.size < q ∧ q < w1.heap.size := fun q hq => by
      rcases hq with h | h
      · have := HM.out.row.lt q h; omega
      · have := HM.out.tag_lt h; omega
    have hil : its.length = l.length := by have := congrArg List.length HEV.out; simpa [evs] using this
    refine ⟨hide0 ((HB.out.trans (HBW.out.mono hsw)).alloc (by have := HBW.out.size; omega) _), .inr ⟨trivial, W1.heap.size, _, _, its, rfl, ⟨heap_alloc_new W1 _, ?_, ?_, by omega, ?_, ?_, ?_, ?_, ?_, by omega⟩, HEV⟩⟩
    · rw [htl]
      exact (HO.out.block (fun q hq => Below.heap_alloc _ _ _ (HO.out.lt q hq).2)).mono hsw
    · exact (HM.out.keep (fun q h1 h2 => key q h2)).mono (by omega)
    · intro e
      simp only [Value.ownBlock, Option.some.injEq] at e
      omega
    · intro e; have := (hel _ (.inl e)).2; omega
    · intro e; have := (hel _ (.inr e)).2; omega
    · intro q hq
      simp only [Value.ownBlock, Option.some.injEq] at hq
      subst hq
      exact ⟨fun e => by have := (hel _ (.inl e)).2; omega, fun e => by have := (hel _ (.inr e)).2; omega⟩
    · intro it hit
      exact HK1.out it.ev (by rw [← HEV.out]; exact List.mem_map.2 ⟨it, hit, rfl⟩)
end Go.Proofs.Ytdjllnhahhjgmab
namespace Go.Proofs.Ytdjllnhahhjgmab
open Go.RowKit Go.Shelf Chron
theorem wpListIn_append_lies {F : Fence} {nF : Nat} {P : Program} (w : World) {ops : Array Oper} {rest : List Oper} {o : Oper} {a : Act} {Q : Exit → Act → World → Prop} (hgd : o.guard = none) (s x : Operand) (t : TypeId)
    (ho : o.op = .call { callee := .builtin .append, args := #[s, x], argTypes := #[t, t] })
    (base : Nat) (e : TypeId) (i : TypeInfo) (z : Value) (size bytes : Nat) (ht : P.underlying t = some (.slice e)) (hi : P.info? e = some i) (hz : i.zero = some z)
    (hsize : i.size = size) (hby : i.bytes = bytes) (hzs : z.cells.size = size) (hsz : 0 < size)
    (v : Value) (n : Nat) (xs : List Value) (hs : a.eval s = v) (hown : w.ownsRow base e size v n xs)
    (ad : Addr) (m c : Nat) (news : List Value) (hx : a.eval x = .slice (some ad) m c) (hl : news.length = m * size) (hnews : ∀ j u, news[j]? = some u → w.cell? (ad.add j) = some u) (h1 : ∀ u ∈ news, u.oneCell' = true)
    (hm : 0 < m) (h63 : n + m ≤ maxLen) (hbytes : (n + m) * bytes ≤ 140737488355328) (hbase : base ≤ w.heap.size) (H : Nat) (hH : w.heap.size = H)
    (h : ∀ g cap w', w'.ownsRow base e size (.slice (some ⟨g, 0, none⟩) (n + m) cap) (n + m) (xs ++ news) → w.grownBy w' v.ownBlock → (v.ownBlock = some g ∨ g = H) → g < w'.heap.size → wpListIn F nF P ops Q rest (a.put o.dst (.slice (some ⟨g, 0, none⟩) (n + m) cap)) w') : wpListIn F nF P ops Q (o :: rest) a w := by
  refine wpListIn_plain hgd fun K hK => ?_
  obtain ⟨g, cap, w', hr, h2, h3, h4, h5⟩ := run_append_lies (P := P) w t o.type base e i z size bytes ht hi hz hsize hby hzs hsz v n xs hown ad m c news hl hnews h1 hm h63 hbytes hbase H hH
  unfold Oper.wpIn
  refine ⟨by simp [Oper.about, ho, resolve, Target.leads, Sem.run_pure], ?_⟩
  rw [Oper.semAt_plain F _ _ (by rw [ho]; intro c hc'; cases hc')]
  simp [execOp, ho, resolve, invoke, builtin, hs, hx, hr, Result.andThen]
  exact hK _ _ (h g cap w' h2 h3 h4 h5)
theorem abide_block {W W' : World} {row : Option Nat} (hg : W.grownBy W' row) (hr : ∀ r, row = some r → ∃ o : Obj, W.heap[r]? = some o ∧ o.isCells = false) {q : Nat} {cur : Array Value} {e : TypeId} {fz : Nat × Nat} (hq : W.heap[q]? = some (.cells cur e fz)) : W'.heap[q]? = W.heap[q]? :=
  hg.block q (Array.getElem?_eq_some_iff.1 hq).1 (fun er => by
    obtain ⟨o, h1, h2⟩ := hr q er.symm
    rw [hq] at h1
    cases h1
    simp [Obj.isCells] at h2)
theorem own_blk {w : World} {N e s n q : Nat} {v : Value} {xs : List Value} (h : w.ownsRow N e s v n xs) (hq : v.ownBlock = some q) : ∃ cur, w.heap[q]? = some (.cells cur e (0, 0)) := by
  rcases h.2 with ⟨rfl, _⟩ | ⟨g, cap, cur, rfl, _, hg, _⟩
  · simp [Value.ownBlock] at hq
  · simp only [Value.ownBlock, Option.some.injEq] at hq
    subst hq
    exact ⟨cur, hg⟩
theorem own_abide {W W' : World} {row : Option Nat} (hg : W.grownBy W' row) (hr : ∀ r, row = some r → ∃ o : Obj, W.heap[r]? = some o ∧ o.isCells = false) {N e s n : Nat} {v : Value} {xs : List Value} (h : W.ownsRow N e s v n xs) : W'.ownsRow N e s v n xs :=
  own_of_block h fun q hq => by
    obtain ⟨cur, hc⟩ := own_blk h hq
    exact abide_block hg hr hc
theorem MadeO.abide {W W' : World} {row : Option Nat} (hg : W.grownBy W' row) (hr : ∀ r, row = some r → ∃ o : Obj, W.heap[r]? = some o ∧ o.isCells = false) {N : Nat} {v : Value} {its : List Item} (h : MadeO N W v its) : MadeO N W' v its :=
  ⟨own_abide hg hr h.row, fun it hi => own_abide hg hr (h.tags it hi), h.apart, h.dist⟩
/- a list that is put together in a box: what lies in it lies ahead of m -/
def OutAt (B m : Nat) (w0 W : World) (l : List Ev) : Prop :=
  ∃ va vc its, W.heap[B]? = some (.cells #[.slice va its.length vc] 23) ∧ MadeO (B + 1) W (.slice va its.length vc) its ∧ evs its = l ∧ (∀ q, Value.ownBlock (.slice va its.length vc) = some q ∨ q ∈ tagBs its → q < m) ∧ Below w0.heap.size w0 W ∧ w0.heap.size ≤ B ∧ B < m
theorem OutAt.abide {B m L : Nat} {w0 : World} {l : List Ev} (hL : w0.heap.size ≤ L) : Abide L (fun W => OutAt B m w0 W l) := by
  rintro W W' row ⟨va, vc, its, h1, h2, h3, h4, h5, h6, h7⟩ hg hr
  have hr' : ∀ r, row = some r → ∃ o : Obj, W.heap[r]? = some o ∧ o.isCells = false := fun r e => (hr r e).2
  exact ⟨va, vc, its, (abide_block hg hr' h1).trans h1, h2.abide hg hr', h3, h4, ⟨hg.os.trans h5.os, hg.tape.trans h5.tape, hg.output.trans h5.output, Nat.le_trans h5.size hg.size, fun q hq => (hg.block q (Nat.lt_of_lt_of_le hq h5.size) (fun er => by have := (hr q er.symm).1; omega)).trans (h5.block q hq)⟩, h6, h7⟩
theorem Kept.far {ev : Value} {its : List Item} {W W' : World} {n : Nat} (h : Below n W W') (h1 : ∀ q, ev.ownBlock = some q → q < n) (h2 : ∀ q ∈ tagBs its, q < n) : Kept ev its W W' := by
  intro b o v hq hv
  have hb : b < n := by
    rcases hq with ⟨h, _⟩ | h
    · exact h1 b h
    · exact h2 b h
  exact (World.cell?_of_block (h.block b hb)).trans hv
theorem OutAt.push {B m L : Nat} {w0 W wa : World} {o : Obj} {g cap : Nat} {i : Item} {va : Option Addr} {vc : Nat} {its : List Item} (h1 : W.heap[B]? = some (.cells #[.slice va its.length vc] 23)) (h2 : MadeO (B + 1) W (.slice va its.length vc) its) (h4 : ∀ q, Value.ownBlock (.slice va its.length vc) = some q ∨ q ∈ tagBs its → q < m)
    (h5 : Below w0.heap.size w0 W) (h6 : w0.heap.size ≤ B) (h7 : B < m) (hi : W.ownsRow m 9 1 i.tv i.ev.tags.length (i.ev.tags.map Value.string)) (hgr : (W.alloc o).grownBy wa (Value.ownBlock (.slice va its.length vc)))
    (hown : wa.ownsRow (B + 1) 36 5 (.slice (some ⟨g, 0, none⟩) (its.length + 1) cap) (its.length + 1) (fives its ++ i.five)) (hat : Value.ownBlock (.slice va its.length vc) = some g ∨ g = (W.alloc o).heap.size) :
    OutAt B (wa.setCell ⟨B, 0, none⟩ (.slice (some ⟨g, 0, none⟩) (its.length + 1) cap)).heap.size w0 (wa.setCell ⟨B, 0, none⟩ (.slice (some ⟨g, 0, none⟩) (its.length + 1) cap)) (evs its ++ [i.ev]) ∧ KeepsFrom L W (wa.setCell ⟨B, 0, none⟩ (.slice (some ⟨g, 0, none⟩) (its.length + 1) cap)) ∧ Below w0.heap.size W (wa.setCell ⟨B, 0, none⟩ (.slice (some ⟨g, 0, none⟩) (its.length + 1) cap)) := by
  have hl : (its ++ [i]).length = its.length + 1 := by simp
  have hP := h2.push hi (by omega) (fun q hq => h4 q (.inl hq)) (fun q hq => h4 q (.inr hq)) hgr hown hat
  have hBs := (Array.getElem?_eq_some_iff.1 h1).1
  have hgs := hgr.size
  rw [World.size_alloc] at hgs
  have hws := h5.size
  have hrow := fun q (hq : Value.ownBlock (.slice va its.length vc) = some q) => h2.row.lt q hq
  have hwB : wa.heap[B]? = some (.cells #[.slice va its.length vc] 23) := (hgr.block B (by rw [World.size_alloc]; omega) (fun e => by have := (hrow B e.symm).1; omega)).trans ((Below.heap_alloc _ _ _ hBs).trans h1)
  have hfs : (wa.setCell ⟨B, 0, none⟩ (.slice (some ⟨g, 0, none⟩) (its.length + 1) cap)).heap.size = wa.heap.size := by simp [World.setCell]
  have hset : (wa.setCell ⟨B, 0, none⟩ (.slice (some ⟨g, 0, none⟩) (its.length + 1) cap)).heap[B]? = some (.cells #[.slice (some ⟨g, 0, none⟩) (its.length + 1) cap] 23) := by
    simp only [World.setCell, Array.getElem?_modify, if_true, hwB, Option.map_some]
    rfl
  have hoth : ∀ q, q ≠ B → (wa.setCell ⟨B, 0, none⟩ (.slice (some ⟨g, 0, none⟩) (its.length + 1) cap)).heap[q]? = wa.heap[q]? := fun q hq => Below.heap_setCell _ _ _ _ hq
  have hPF := hP.keep (w' := wa.setCell ⟨B, 0, none⟩ (.slice (some ⟨g, 0, none⟩) (its.length + 1) cap)) (fun q h1 _ => hoth q (by omega))
  have hbel : Below w0.heap.size W (wa.setCell ⟨B, 0, none⟩ (.slice (some ⟨g, 0, none⟩) (its.length + 1) cap)) := by
    refine ⟨hgr.os, hgr.tape, hgr.output, by omega, fun q hq => ?_⟩
    rw [hoth q (by omega), hgr.block q (by rw [World.size_alloc]; omega) (fun e => by have := (hrow q e.symm).1; omega), Below.heap_alloc _ _ _ (by omega)]
  refine ⟨⟨some ⟨g, 0, none⟩, cap, its ++ [i], by rw [hl]; exact hset, by rw [hl]; exact hPF, by simp [evs], fun q hq => ?_, h5.trans hbel, h6, by omega⟩, ⟨by omega, fun k ob hk hob hc => ?_⟩, hbel⟩
  · rw [hl] at hq
    rcases hq with hq | hq
    · exact (hPF.row.lt q hq).2
    · exact (hPF.tag_lt hq).2
  · have hkW := (Array.getElem?_eq_some_iff.1 hob).1
    have n1 : k ≠ B := fun e => by rw [e, h1] at hob; cases hob; simp [Obj.isCells] at hc
    have n2 : Value.ownBlock (.slice va its.length vc) ≠ some k := fun e => by
      obtain ⟨cur, hcur⟩ := own_blk h2.row e
      rw [hcur] at hob; cases hob; simp [Obj.isCells] at hc
    rw [hoth k n1, hgr.block k (by rw [World.size_alloc]; omega) (fun e => n2 e.symm), Below.heap_alloc _ _ _ hkW]
    exact hob
theorem out_box {B : Nat} {W wa : World} {o : Obj} {lv : Value} {n : Nat} {xs : List Value} (h1 : W.heap[B]? = some (.cells #[lv] 23)) (h2 : W.ownsRow (B + 1) 36 5 lv n xs) (hgr : (W.alloc o).grownBy wa lv.ownBlock) : wa.cell? ⟨B, 0, none⟩ = some lv ∧ wa.frozen? ⟨B, 0, none⟩ = false := by
  have hBs := (Array.getElem?_eq_some_iff.1 h1).1
  have h : wa.heap[B]? = some (.cells #[lv] 23) := (hgr.block B (by rw [World.size_alloc]; omega) (fun e => by have := (h2.lt B e.symm).1; omega)).trans ((Below.heap_alloc _ _ _ hBs).trans h1)
  simp [World.cell?, World.frozen?, h]
attribute [local go_sem] Oper.semAt_some
set_option maxRecDepth 100000 in
set_option maxHeartbeats 1000000 in
theorem told_any (N p : Nat) (fv ev : Value) (file : List UInt8) (its : List Item) (w : World) (hA : Hid (ArchO N p w fv ev file its)) :
    Calls Try.prog 10 #[.pointer (some ⟨p, 0, none⟩)] w fun e w' => ∃ (va : Option Addr) (vc : Nat) (js : List Item), e = .returned (.slice va js.length vc) ∧ Hid (MadeO w.heap.size w' (.slice va js.length vc) js) ∧ Hid (evs js = evs its) ∧ Hid (Below w.heap.size w w') := by
  obtain ⟨ea, ec, rfl, hE, hcap, h0⟩ := hA.out.evs.at hA.out.good
  obtain ⟨i0, hi, hz0, hz1, hz2⟩ := info_parts infoEvent5
  have hnil : ∀ w' : World, Sem.run Try.prog (binOp BinOp.eql 57 (Value.func (Fn.func 34) #[] #[.pointer (some ⟨w.heap.size, 0, none⟩)]) Value.nilFunc) w' = .ok (.bool false) w' := fun w' => by kernel_rfl
  have hlt := hA.out.lt
  refine (callsIn_wide (n := 0)).1 (callsIn_of_wp_marks Try.func10 rfl trivial ?_)
  simp only [Try.ntmps10, List.size_toArray, List.length_cons, List.length_nil, Nat.reduceAdd, Nat.reduceSub, Array.replicate_succ, Array.replicate_zero, List.push_toArray, List.append_toArray, List.nil_append, List.cons_append]
  gi_wp2_with fail
  refine ⟨trivial, rfl, (callsIn_wide.2 (seq_any p _)).mono ?_⟩
  rintro e w' ⟨rfl, rfl⟩
  gi_wp2_with fail
  have hB0 : Below w.heap.size w ((w.alloc (.cells #[.pointer (some ⟨p, 0, none⟩)] 25)).alloc (.cells #[.slice none 0 0] 23)) := ((Below.refl _ w).alloc (Nat.le_refl _) _).alloc (by simp) _
  have hbox : ((w.alloc (.cells #[.pointer (some ⟨p, 0, none⟩)] 25)).alloc (.cells #[.slice none 0 0] 23)).cell? ⟨w.heap.size, 0, none⟩ = some (.pointer (some ⟨p, 0, none⟩)) := by
    have h := (Below.heap_alloc (w.alloc (.cells #[.pointer (some ⟨p, 0, none⟩)] 25)) (.cells #[.slice none 0 0] 23) w.heap.size (by simp)).trans (heap_alloc_new w _)
    simp only [World.cell?, h]; rfl
  have hout : ((w.alloc (.cells #[.pointer (some ⟨p, 0, none⟩)] 25)).alloc (.cells #[.slice none 0 0] 23)).heap[w.heap.size + 1]? = some (.cells #[.slice none 0 0] 23) := by
    have := heap_alloc_new (w.alloc (.cells #[.pointer (some ⟨p, 0, none⟩)] 25)) (.cells #[.slice none 0 0] 23)
    rw [World.size_alloc] at this; exact this
  have hsz0 : ((w.alloc (.cells #[.pointer (some ⟨p, 0, none⟩)] 25)).alloc (.cells #[.slice none 0 0] 23)).heap.size = w.heap.size + 2 := by simp
  generalize ((w.alloc (.cells #[.pointer (some ⟨p, 0, none⟩)] 25)).alloc (.cells #[.slice none 0 0] 23)) = W0 at *
  have hA0 := hA.out.below hB0
  refine wp_tells (gf := 34) (lb := #[.pointer (some ⟨w.heap.size, 0, none⟩)]) rfl (enters_of Try.func34 (by kernel_rfl) rfl)
    (tells_any p w.heap.size fv ea ec its W0 hbox hA0.blk (hE.below hB0 (Nat.le_refl _)) h0 hA.out.good hA.out.few) (Below.refl _ _) (fun _ => rfl) Kept.trans (fun W l o o' _ hl ho => Kept.put o' hl ho)
    (fun c xs m W => c = none ∧ OutAt (w.heap.size + 1) m w W (toldEvs xs))
    (fun xs x a' W => ∃ m E, OutAt (w.heap.size + 1) m w W (toldEvs xs) ∧ ownTold x m W ∧ xs.length < its.length ∧ W.heap[E]? = some (.cells #[.int .i64 x.it.ev.kind, .string x.it.ev.task, .int .i64 x.it.ev.time, .string x.it.ev.body, .slice x.it.at' x.it.ev.tags.length x.it.cap] 36) ∧
      a' = { tmps := #[.pointer (some ⟨p, 0, none⟩), undef, .slice none 0 0, .func (.func 34) #[] #[.pointer (some ⟨w.heap.size, 0, none⟩)], .pointer (some ⟨w.heap.size + 1, 0, none⟩), undef, .pointer (some ⟨E, 0, none⟩), .pointer (some ⟨p, 0, none⟩), .func (.func 34) #[] #[.pointer (some ⟨w.heap.size, 0, none⟩)], .func (.func 34) #[] #[.pointer (some ⟨w.heap.size, 0, none⟩)], .bool false, undef, undef, .func (.func 34) #[] #[.pointer (some ⟨w.heap.size, 0, none⟩)], .int .i64 x.i, x.it.val, undef, undef, undef, undef, undef], defers := [] })
    ?hI ?hAx ?start ?assign ?body ?done ?stop
  case hI =>
    rintro c xs m W W' row ⟨h1, h2⟩ hg hr
    exact ⟨h1, OutAt.abide (L := W0.heap.size) (by omega) W W' row h2 hg hr⟩
  case hAx =>
    rintro xs x a' W W' row ⟨m, E, h1, h2, h3, h4, h5⟩ hg hr
    have hr' : ∀ r, row = some r → ∃ o : Obj, W.heap[r]? = some o ∧ o.isCells = false := fun r e => (hr r e).2
    exact ⟨m, E, OutAt.abide (L := W0.heap.size) (by omega) W W' row h1 hg hr, own_abide hg hr' h2, h3, (abide_block hg hr' h4).trans h4, h5⟩
  case start =>
    exact ⟨rfl, none, 0, [], hout, ⟨World.ownsRow_nil _ _ _ _, (fun _ h => by cases h), (fun _ h => by simp [tagBs] at h), by simp [tagBs]⟩, rfl, fun q hq => by simp [Value.ownBlock, tagBs] at hq, hB0, by omega, by omega⟩
  case assign =>
    rintro l xs x m h W K ⟨_, hO⟩ hwh hmh hhW hH hSp hK
    obtain ⟨xi, ⟨⟨k, t, mm, b, ts⟩, ia, ic⟩⟩ := x
    simp only [encTold, Item.val] at hK ⊢
    gi_wp2
    have hga : W.grownBy (W.alloc (.cells #[.int .i64 k, .string t, .int .i64 mm, .string b, .slice ia ts.length ic] 36)) none := ⟨rfl, rfl, rfl, by simp, fun q hq _ => Below.heap_alloc _ _ _ hq⟩
    refine hK _ _ ⟨by simp, fun q ob _ hob _ => (Below.heap_alloc _ _ _ (Array.getElem?_eq_some_iff.1 hob).1).trans hob⟩ (Kept.below ((Below.refl _ _).alloc (Nat.le_refl _) _)) ⟨m, W.heap.size, OutAt.abide (L := W0.heap.size) (by omega) W _ none hO hga (fun r e => by cases e), ?_, ?_, heap_alloc_new W _, rfl⟩
    · have h9 : W.ownsRow m 9 1 (.slice ia ts.length ic) ts.length (ts.map Value.string) := own_mono hH hmh
      exact h9.alloc _
    · have h9 := hSp.2.1
      simp [evs] at h9
      omega
  case body =>
    rintro l xs x a' W ⟨m, E, hO, hH, hlen, hEv, rfl⟩
    obtain ⟨xi, ⟨⟨k, t, mm, b, ts⟩, ia, ic⟩⟩ := x
    simp only at hEv
    obtain ⟨e0, e1, e2, e3, e4, ez⟩ := res_cells hEv
    obtain ⟨va, vc, js, o1, o2, o3, o4, o5, o6, o7⟩ := hO
    have hc : W.cell? ⟨w.heap.size + 1, 0, none⟩ = some (.slice va js.length vc) := by simp only [World.cell?, o1]; rfl
    have hcz : W.frozen? ⟨w.heap.size + 1, 0, none⟩ = false := by simp [World.frozen?, o1]
    have hjl : js.length = xs.length := by have := congrArg List.length o3; simpa [evs, toldEvs] using this
    have hNew := five_new W ⟨⟨k, t, mm, b, ts⟩, ia, ic⟩
    have hrow := o2.row
    have hfew := hA.out.few
    have hbase : w.heap.size + 1 + 1 ≤ (W.alloc (.cells #[.int .i64 k, .string t, .int .i64 mm, .string b, .slice ia ts.length ic] 36)).heap.size := by have := (Array.getElem?_eq_some_iff.1 o1).1; simp; omega
    have hlW := hlt
    clear hlt
    have hjs : js.length < 200 := by omega
    clear hjl hE h0
    gi_wp2_with (gi_at_builtin; refine wpListIn_append_lies _ rfl _ _ 23 rfl (w.heap.size + 1 + 1) 36 i0 (.agg #[.int .i64 0, .string ⟨#[]⟩, .int .i64 0, .string ⟨#[]⟩, .slice none 0 0]) 5 72 Try.underlying23 hi hz0 hz1 hz2 rfl (by decide) (.slice va js.length vc) js.length (fives js) rfl (hrow.alloc _) ⟨W.heap.size, 0, none⟩ 1 1 (Item.five ⟨⟨k, t, mm, b, ts⟩, ia, ic⟩) rfl rfl hNew (five_one _) Nat.one_pos (by unfold maxLen; omega) (by omega) hbase _ rfl ?_; intro g gcap wa hown hgr hat hlt2; obtain ⟨cB, czB⟩ := out_box o1 hrow hgr)
    obtain ⟨q1, q2, q3⟩ := OutAt.push (L := w.heap.size + 2) (i := ⟨⟨k, t, mm, b, ts⟩, ia, ic⟩) o1 o2 o4 o5 o6 o7 hH hgr hown hat
    have he : toldEvs (xs ++ [⟨xi, ⟨⟨k, t, mm, b, ts⟩, ia, ic⟩⟩]) = evs js ++ [⟨k, t, mm, b, ts⟩] := by rw [o3]; simp [toldEvs]
    refine ⟨q2, Kept.far q3 (fun q hq => (hlW q (.inr (.inr (.inl hq)))).2) (fun q hq => (hlW q (.inr (.inr (.inr hq)))).2), rfl, ?_⟩
    rw [he]
    exact q1
  case done =>
    rintro D xs m W hD hS hm ⟨_, hO⟩ hdef
    obtain ⟨va, vc, js, o1, o2, o3, o4, o5, o6, o7⟩ := hO
    have hc : W.cell? ⟨w.heap.size + 1, 0, none⟩ = some (.slice va js.length vc) := by simp only [World.cell?, o1]; rfl
    gi_wp2
    refine ⟨by simp, .inl ⟨_, _, rfl, run_takeDeferred hdef, ?_⟩⟩
    have hg := grownBy_putObj' W D (.deferred none)
    have hr : ∀ r, some D = some r → ∃ o : Obj, W.heap[r]? = some o ∧ o.isCells = false := fun r e => by cases e; exact ⟨_, hdef, rfl⟩
    refine ⟨_, results_tmp rfl _ _ _, va, vc, js, rfl, hide0 ((o2.abide hg hr).mono (by omega)), hide0 (o3.trans hS.1), ?_⟩
    exact hide0 (Below.trans o5 ⟨hg.os, hg.tape, hg.output, hg.size, fun q hq => hg.block q (by have := o5.size; omega) (fun e => by cases e; omega)⟩)
  case stop =>
    rintro D c xs m W hD hS hm ⟨h, _⟩ _
    cases h
end Go.Proofs.Ytdjllnhahhjgmab
namespace Chron
open Go Go.RowKit
def fillN (hn : Nat → Int) (i : Nat) (l : List Ev) : Nat := min (1 + hn i).toNat l.length
def fillV (hn hv : Nat → Int) (i : Nat) (l : List Ev) : Int := if (l.take (fillN hn i l)).all (goesB (1 + hv i)) = true then 1 + hv i else 3
/- in which version, and how many at a time, events are put in, as numbers say -/
def fillC (hn hv : Nat → Int) : Nat → Nat → List Ev → List Chunk
  | 0, _, _ => []
  | f + 1, i, l => if l = [] then [] else (fillV hn hv i l, l.take (fillN hn i l)) :: fillC hn hv f (i + 1) (l.drop (fillN hn i l))
theorem goes_new {e : Ev} (h : isB e = true) : goesB 3 e = true := by
  have h3 : isVer 3 = true := by decide
  have h4 : fitsB 3 e = true := by simp [fitsB]
  simp only [goesB, h3, h, h4, Bool.and_self]
theorem fillV_goes {hn hv : Nat → Int} {i : Nat} {l : List Ev} (h : ∀ e ∈ l, isB e = true) : ∀ e ∈ l.take (fillN hn i l), goesB (fillV hn hv i l) e = true := by
  intro e he
  unfold fillV
  split
  · rename_i hh; exact List.all_eq_true.1 hh e he
  · exact goes_new (h e (List.mem_of_mem_take he))
theorem fillN_pos {hn : Nat → Int} {i : Nat} {l : List Ev} (h0 : 0 ≤ hn i) (hl : l ≠ []) : 1 ≤ fillN hn i l ∧ fillN hn i l ≤ l.length := by
  have := List.length_pos_iff.2 hl
  unfold fillN; omega
theorem fillC_good {hn hv : Nat → Int} (h0 : ∀ i, 0 ≤ hn i) : ∀ (f i n : Nat) (l : List Ev), (∀ e ∈ l, isB e = true) → l.length ≤ f → n + l.length ≤ 200 → GoodC n (fillC hn hv f i l) ∧ evsOf (fillC hn hv f i l) = l
  | 0, i, n, l, _, hf, _ => by
    have : l = [] := List.eq_nil_of_length_eq_zero (by omega)
    subst this; exact ⟨trivial, rfl⟩
  | f + 1, i, n, l, h, hf, hn2 => by
    unfold fillC
    split
    · rename_i e; subst e; exact ⟨trivial, rfl⟩
    · rename_i e
      obtain ⟨k1, k2⟩ := fillN_pos (i := i) (h0 i) e
      have hl : (l.take (fillN hn i l)).length = fillN hn i l := by rw [List.length_take]; omega
      obtain ⟨r1, r2⟩ := fillC_good h0 f (i + 1) (n + fillN hn i l) (l.drop (fillN hn i l)) (fun e he => h e (List.mem_of_mem_drop he)) (by rw [List.length_drop]; omega) (by rw [List.length_drop]; omega)
      refine ⟨⟨⟨fillV_goes h, ?_, by show n + (l.take (fillN hn i l)).length ≤ 200; omega⟩, by rw [hl]; exact r1⟩, ?_⟩
      · intro e2
        have := congrArg List.length e2
        simp only [List.length_nil] at this
        omega
      · show l.take (fillN hn i l) ++ evsOf _ = l
        rw [r2, List.take_append_drop]
theorem fillC_step {hn hv : Nat → Int} {f i : Nat} {l : List Ev} (hl : l ≠ []) (hf : l.length ≤ f) : fillC hn hv f i l = (fillV hn hv i l, l.take (fillN hn i l)) :: fillC hn hv (f - 1) (i + 1) (l.drop (fillN hn i l)) := by
  obtain ⟨g, rfl⟩ : ∃ g, f = g + 1 := ⟨f - 1, by have := List.length_pos_iff.2 hl; omega⟩
  rw [fillC, if_neg hl]
  rfl
theorem fillC_end {hn hv : Nat → Int} {f i : Nat} : fillC hn hv f i [] = [] := by
  cases f with
  | zero => rfl
  | succ f => rw [fillC, if_pos rfl]
theorem fileB_snoc (cs : List Chunk) (c : Chunk) : fileB noB (cs ++ [c]) = fileB noB cs ++ entryB c.1 (lastB noB (evsOf cs)) c.2 := by
  rw [fileB_append]; simp [fileB]
theorem torn_nil (l : List Ev) : Torn l [] := .inl rfl
theorem readB_file {cs : List Chunk} (hg : GoodC 0 cs) : readB (fileB noB cs) = (evsOf cs, (fileB noB cs).length, true) := by
  have := readB_go (p := []) hg (torn_nil _)
  simpa using this
theorem fileB_short {cs : List Chunk} (hg : GoodC 0 cs) : (fileB noB cs).length ≤ 83800 := by
  have := (readB_any (fileB noB cs)).2.2.2
  rw [readB_file hg] at this
  exact this
theorem anew_good : ∀ (l : List Ev) (n : Nat), (∀ e ∈ l, isB e = true) → n + l.length ≤ 200 → GoodC n (anewC l)
  | [], _, _, _ => trivial
  | e :: r, n, h, hn => by
    simp only [List.length_cons] at hn
    refine ⟨⟨fun x hx => ?_, by simp, by simp; omega⟩, anew_good r (n + 1) (fun x hx => h x (List.mem_cons_of_mem _ hx)) (by omega)⟩
    simp at hx; subst hx
    exact goes_new (h _ List.mem_cons_self)
theorem anew_pos {l : List Ev} (h : l ≠ []) : fileB noB (anewC l) ≠ [] := by
  cases l with
  | nil => exact absurd rfl h
  | cons e r =>
    intro e2
    have h2 := congrArg List.length e2
    have h3 := entry_pos 3 noB [e]
    simp only [anewC, List.map_cons, fileB, List.length_append, List.length_nil] at h2
    omega
end Chron
