/- Walk of chronicleref.guess. -/
import Derived.Test.YtdjllnhahhjgmaaF1
import Derived.Test.YtdjllnhahhjgmaaF2
import Derived.Test.YtdjllnhahhjgmaaD4
namespace Go.Proofs.Ytdjllnhahhjgmaa
open Go.RowKit Chron
/- result and local of guess -/
structure Gs (N : Nat) (w wx : World) (e : Ev) (x : Value) : Prop where
  res : wx.heap[N]? = some (.cells #[.int .i64 0, .string ⟨#[]⟩, .int .i64 0, .string ⟨#[]⟩, .slice none 0 0] 24)
  box : wx.heap[N + 1]? = some (.cells #[.int .i64 e.kind, .string e.task, .int .i64 e.time, .string e.body, x] 24)
  own : wx.ownsRow (N + 2) 9 1 x e.tags.length (e.tags.map Value.string)
  bel : Below N w wx
theorem Gs.big {N : Nat} {w wx : World} {e : Ev} {x : Value} (h : Gs N w wx e x) : N + 2 ≤ wx.heap.size := (Array.getElem?_eq_some_iff.1 h.box).1
theorem Gs.set {N : Nat} {w wx : World} {e e' : Ev} {x : Value} {i : Nat} {u : Value} (h : Gs N w wx e x) (ht : e'.tags = e.tags)
    (hc : #[.int .i64 e.kind, .string e.task, .int .i64 e.time, .string e.body, x].setIfInBounds i u = #[.int .i64 e'.kind, .string e'.task, .int .i64 e'.time, .string e'.body, x]) : Gs N w (wx.setCell ⟨N + 1, i, none⟩ u) e' x := by
  refine ⟨(Below.heap_setCell _ _ _ _ (by show N ≠ N + 1; omega)).trans h.res, by rw [loan_set h.box, hc], ?_, h.bel.setCell (by show N ≤ N + 1; omega) _⟩
  rw [ht]
  exact ownsRow_setCell_below h.own (by show N + 1 < N + 2; omega) _
theorem Gs.push {N : Nat} {w wx wa : World} {e : Ev} {x : Value} {o : Obj} {g cap : Nat} {z : ByteArray} (h : Gs N w wx e x) (hg : (wx.alloc o).grownBy wa x.ownBlock)
    (hown : wa.ownsRow (N + 2) 9 1 (.slice (some ⟨g, 0, none⟩) (e.tags.length + 1) cap) (e.tags.length + 1) (e.tags.map Value.string ++ [.string z])) :
    wa.heap[N + 1]? = some (.cells #[.int .i64 e.kind, .string e.task, .int .i64 e.time, .string e.body, x] 24) ∧
    Gs N w (wa.setCell ⟨N + 1, 4, none⟩ (.slice (some ⟨g, 0, none⟩) (e.tags.length + 1) cap)) { e with tags := e.tags ++ [z] } (.slice (some ⟨g, 0, none⟩) (e.tags.length + 1) cap) := by
  have hbig := h.big
  have hblk : ∀ q, q < N + 2 → wa.heap[q]? = wx.heap[q]? := fun q hq => by
    rw [hg.block q (by rw [World.size_alloc]; omega) (fun e => by have := (h.own.lt q e.symm).1; omega), Below.heap_alloc _ _ _ (by omega)]
  have hb := (hblk (N + 1) (by omega)).trans h.box
  refine ⟨hb, (Below.heap_setCell _ _ _ _ (by show N ≠ N + 1; omega)).trans ((hblk N (by omega)).trans h.res), loan_set hb, ?_, ?_⟩
  · have := ownsRow_setCell_below hown (a := ⟨N + 1, 4, none⟩) (by show N + 1 < N + 2; omega) (.slice (some ⟨g, 0, none⟩) (e.tags.length + 1) cap)
    simpa using this
  · exact (Below.grown (h.bel.alloc (by omega) _) hg (by rw [World.size_alloc]; omega) (fun q hq => by have := (h.own.lt q hq).1; omega)).setCell (by show N ≤ N + 1; omega) _
theorem Gs.start (w : World) : Gs w.heap.size w ((w.alloc (.cells #[.int .i64 0, .string ⟨#[]⟩, .int .i64 0, .string ⟨#[]⟩, .slice none 0 0] 24)).alloc (.cells #[.int .i64 0, .string ⟨#[]⟩, .int .i64 0, .string ⟨#[]⟩, .slice none 0 0] 24)) zeroEv (.slice none 0 0) := by
  refine ⟨?_, ?_, World.ownsRow_nil _ _ _ _, ((Below.refl _ _).alloc (Nat.le_refl _) _).alloc (by simp) _⟩
  · rw [Below.heap_alloc _ _ _ (by simp), heap_alloc_new]
  · have := heap_alloc_new (w.alloc (.cells #[.int .i64 0, .string ⟨#[]⟩, .int .i64 0, .string ⟨#[]⟩, .slice none 0 0] 24)) (.cells #[.int .i64 0, .string ⟨#[]⟩, .int .i64 0, .string ⟨#[]⟩, .slice none 0 0] 24)
    rw [World.size_alloc] at this; exact this
/- where the guess stands: a place, or none -/
def placeV (L : Nat) : Option (List UInt8) → Value
  | none => .int .i64 (-1)
  | some r => .int .i64 ((L - r.length : Nat) : Int)
def placeM (L : Nat) (p : Value) : Nat := if intOf p < 0 then 0 else L + 1 - (intOf p).toNat
/- what was put together so far, and what is left -/
def leftE (e : Ev) : Option (List UInt8) → Ev | none => e | some q => guessG e q
def leftN : Option (List UInt8) → Nat | none => 0 | some q => q.length
structure Left (s : List UInt8) (e : Ev) (r : Option (List UInt8)) : Prop where
  goal : leftE e r = guessG zeroEv s
  tail : ∀ q, r = some q → s.drop (s.length - q.length) = q ∧ q.length ≤ s.length
  few : e.tags.length + leftN r ≤ s.length
  pos : 0 ≤ e.kind
theorem nAt_suffix {r q : List UInt8} (h : (nAt r).2 = some q) : ∃ x, r = x ++ q := by
  unfold nAt at h
  rcases hr : readNum r with _ | ⟨n, y⟩
  · rw [hr] at h; cases h
  · rw [hr] at h
    simp only [Option.some.injEq] at h
    subst h; exact ⟨_, readNum_num hr⟩
theorem tAt_suffix {r q : List UInt8} (h : (tAt r).2 = some q) : ∃ x, r = x ++ q := by
  unfold tAt at h
  rcases hr : readTx r with _ | ⟨n, y⟩
  · rw [hr] at h; cases h
  · rw [hr] at h
    simp only [Option.some.injEq] at h
    subst h; exact ⟨_, readTx_text hr⟩
theorem gstep_suffix {e : Ev} {c : UInt8} {r q : List UInt8} (h : (gstep e c r).2 = some q) : ∃ x, r = x ++ q := by
  unfold gstep at h
  split at h
  · exact nAt_suffix h
  · split at h
    · exact nAt_suffix h
    · split at h
      · exact tAt_suffix h
      · split at h
        · exact tAt_suffix h
        · split at h <;> exact tAt_suffix h
theorem gstep_tags (e : Ev) (c : UInt8) (r : List UInt8) : (gstep e c r).1.tags.length ≤ e.tags.length + 1 ∧ (0 ≤ e.kind → 0 ≤ (gstep e c r).1.kind) := by
  unfold gstep
  split
  · exact ⟨Nat.le_succ _, fun _ => Int.natCast_nonneg _⟩
  · split
    · exact ⟨Nat.le_succ _, id⟩
    · split
      · exact ⟨Nat.le_succ _, id⟩
      · split
        · exact ⟨Nat.le_succ _, id⟩
        · split
          · exact ⟨by simp, id⟩
          · exact ⟨Nat.le_succ _, id⟩
theorem left_step {s : List UInt8} {e : Ev} {c : UInt8} {r : List UInt8} (h : Left s e (some (c :: r))) : Left s (gstep e c r).1 (gstep e c r).2 := by
  obtain ⟨h1, h2, h3, h4⟩ := h
  obtain ⟨h5, h6⟩ := h2 _ rfl
  have ht := gstep_tags e c r
  simp only [leftN, List.length_cons] at h3 h6
  refine ⟨?_, fun q hq => ?_, ?_, ht.2 h4⟩
  · rcases hg : gstep e c r with ⟨e', _ | q⟩
    · exact (guessG_stop hg).symm.trans h1
    · exact (guessG_next hg).symm.trans h1
  · obtain ⟨x, hx⟩ := gstep_suffix hq
    have e1 : s = s.take (s.length - (c :: r).length) ++ (c :: x ++ q) := by
      have e2 : s.take (s.length - (c :: r).length) ++ s.drop (s.length - (c :: r).length) = s := List.take_append_drop _ _
      rw [h5, hx] at e2
      rw [hx]; simpa using e2.symm
    have hl := gstep_len hq
    refine ⟨suffix_drop (x := s.take (s.length - (c :: r).length) ++ (c :: x)) (by rw [List.append_assoc]; exact e1), by omega⟩
  · rcases hg : (gstep e c r).2 with _ | q
    · simp only [leftN]; omega
    · have := gstep_len hg
      simp only [leftN]; omega
theorem atVal_eq (L : Nat) (r : List UInt8) : atVal L (readNum r) = .tuple #[.int .i64 ((nAt r).1 : Nat), placeV L (nAt r).2] := by
  unfold nAt; rcases readNum r with _ | ⟨n, q⟩ <;> rfl
theorem tAtVal_eq (L : Nat) (r : List UInt8) : tAtVal L (readTx r) = .tuple #[.string ⟨(tAt r).1.toArray⟩, placeV L (tAt r).2] := by
  unfold tAt; rcases readTx r with _ | ⟨n, q⟩ <;> rfl
theorem place_less {L n : Nat} {r : Option (List UInt8)} (hn : n < L) (hr : ∀ q, r = some q → n < L - q.length) : placeM L (placeV L r) < placeM L (.int .i64 n) := by
  have h0 : placeM L (.int .i64 n) = L + 1 - n := by rw [placeM, intOf, if_neg (by omega), Int.toNat_natCast]
  rw [h0]
  rcases r with _ | q
  · have : placeM L (placeV L none) = 0 := by rw [placeV, placeM, intOf, if_pos (by decide)]
    omega
  · have h1 := hr q rfl
    have : placeM L (placeV L (some q)) = L + 1 - (L - q.length) := by rw [placeV, placeM, intOf, if_neg (by omega), Int.toNat_natCast]
    omega
theorem byte_eq {c : UInt8} {k : Nat} (h : c = UInt8.ofNat k) (hk : k < 256) : ((c.toNat : Int) == (k : Int)) = true := by
  subst h; simp; omega
theorem byte_ne {c : UInt8} {k : Nat} (h : c ≠ UInt8.ofNat k) : ((c.toNat : Int) == (k : Int)) = false := by
  simp only [beq_eq_false_iff_ne, ne_eq, Int.natCast_inj]
  intro e; apply h; rw [← e]; simp
set_option maxRecDepth 100000 in
set_option maxHeartbeats 1000000 in
theorem guess_any (v : Int) (s : ByteArray) (w : World) (hs : s.size ≤ 4398046511104) :
    Calls Try.prog 41 #[.int .i64 v, .string s] w fun e w' => ∃ x, e = .returned (evVal (guessB v s.data.toList) x) ∧ w'.ownsRow w.heap.size 9 1 x (guessB v s.data.toList).tags.length ((guessB v s.data.toList).tags.map Value.string) ∧ Below w.heap.size w w' := by
  have HS0 := hide0 (Gs.start w)
  go_enter Try.func41, Try.ntmps41
  go_wp2
  go_loopw [6, 7, 8, 9, 10] (fun p _ _ _ _ wx => ∃ (e : Ev) (x : Value) (r : Option (List UInt8)), p = placeV s.size r ∧ Hid (Gs w.heap.size w wx e x) ∧ Hid (Left s.data.toList e r)) (fun p _ _ _ _ _ => placeM s.size p)
  case atStart => exact ⟨zeroEv, .slice none 0 0, some s.data.toList, by simp [placeV], HS0, rfl, fun q hq => by cases hq; simp, by simp [zeroEv, leftN], by decide⟩
  case round =>
    obtain ⟨e, x, r, rfl, HG, HL⟩ := hrel
    rcases r with _ | q
    · have HE : Hid (guessG zeroEv s.data.toList = e) := HL.out.goal.symm
      simp only [placeV]
      have hpos := HL.out.pos
      obtain ⟨xa, xc, rfl, _⟩ := own_tags HG.out.own
      obtain ⟨b0, b1, b2, b3, b4, bf⟩ := res_cells HG.out.box
      obtain ⟨r0, r1, r2, r3, r4, rf⟩ := res_cells HG.out.res
      have n1 : ¬ w.heap.size = w.heap.size + 1 := by omega
      have n2 : ¬ w.heap.size + 1 = w.heap.size := by omega
      by_cases hv2 : v = 2 ∧ e.kind < 9
      · have HB : Hid (guessB v s.data.toList = { e with kind := e.kind + 1 }) := by rw [Hid, guessB, HE.out, bump, if_pos hv2]
        have hvb : (v == 2) = true := by simp [hv2.1]
        have hk9 := hv2.2
        have HN := hide0 (HG.out.set (e' := { e with kind := e.kind + 1 }) (i := 0) (u := .int .i64 (e.kind + 1)) rfl rfl)
        clear hv2
        go_wp2
        refine bodyPost_ret (v := evVal { e with kind := e.kind + 1 } (.slice xa e.tags.length xc)) (by simp [results, Try.results41, go_sem, evVal, r0, r1, r2, r3, r4]) rfl ⟨.slice xa e.tags.length xc, by rw [HB.out], ?_, below_set5 HN.out.bel (Nat.le_refl _)⟩
        rw [HB.out]
        exact own_set5 HN.out.own (by omega) (by omega)
      · have HB : Hid (guessB v s.data.toList = e) := by rw [Hid, guessB, HE.out, bump, if_neg hv2]
        by_cases hv : v = 2
        · have hvb : (v == 2) = true := by simp [hv]
          have hk9 : ¬ e.kind < 9 := fun h => hv2 ⟨hv, h⟩
          clear hv2 hv
          go_wp2
          refine bodyPost_ret (v := evVal e (.slice xa e.tags.length xc)) (by simp [results, Try.results41, go_sem, evVal, r0, r1, r2, r3, r4]) rfl ⟨.slice xa e.tags.length xc, by rw [HB.out], ?_, below_set5 HG.out.bel (Nat.le_refl _)⟩
          rw [HB.out]
          exact own_set5 HG.out.own (by omega) (by omega)
        · have hvb : (v == 2) = false := by simp [hv]
          clear hv2 hv
          go_wp2
          refine bodyPost_ret (v := evVal e (.slice xa e.tags.length xc)) (by simp [results, Try.results41, go_sem, evVal, r0, r1, r2, r3, r4]) rfl ⟨.slice xa e.tags.length xc, by rw [HB.out], ?_, below_set5 HG.out.bel (Nat.le_refl _)⟩
          rw [HB.out]
          exact own_set5 HG.out.own (by omega) (by omega)
    · have hsl : s.data.toList.length = s.size := rfl
      obtain ⟨hdr, hql⟩ := HL.out.tail q rfl
      rw [hsl] at hdr hql
      rcases q with _ | ⟨c, r⟩
      · have HE : Hid (guessG zeroEv s.data.toList = e) := HL.out.goal.symm
        have hp0 : placeV s.size (some []) = .int .i64 (s.size : Int) := by simp [placeV]
        rw [hp0]
        clear hdr hql hp0
        have hpos := HL.out.pos
        obtain ⟨xa, xc, rfl, _⟩ := own_tags HG.out.own
        obtain ⟨b0, b1, b2, b3, b4, bf⟩ := res_cells HG.out.box
        obtain ⟨r0, r1, r2, r3, r4, rf⟩ := res_cells HG.out.res
        have n1 : ¬ w.heap.size = w.heap.size + 1 := by omega
        have n2 : ¬ w.heap.size + 1 = w.heap.size := by omega
        by_cases hv2 : v = 2 ∧ e.kind < 9
        · have HB : Hid (guessB v s.data.toList = { e with kind := e.kind + 1 }) := by rw [Hid, guessB, HE.out, bump, if_pos hv2]
          have hvb : (v == 2) = true := by simp [hv2.1]
          have hk9 := hv2.2
          have HN := hide0 (HG.out.set (e' := { e with kind := e.kind + 1 }) (i := 0) (u := .int .i64 (e.kind + 1)) rfl rfl)
          clear hv2
          go_wp2
          refine bodyPost_ret (v := evVal { e with kind := e.kind + 1 } (.slice xa e.tags.length xc)) (by simp [results, Try.results41, go_sem, evVal, r0, r1, r2, r3, r4]) rfl ⟨.slice xa e.tags.length xc, by rw [HB.out], ?_, below_set5 HN.out.bel (Nat.le_refl _)⟩
          rw [HB.out]
          exact own_set5 HN.out.own (by omega) (by omega)
        · have HB : Hid (guessB v s.data.toList = e) := by rw [Hid, guessB, HE.out, bump, if_neg hv2]
          by_cases hv : v = 2
          · have hvb : (v == 2) = true := by simp [hv]
            have hk9 : ¬ e.kind < 9 := fun h => hv2 ⟨hv, h⟩
            clear hv2 hv
            go_wp2
            refine bodyPost_ret (v := evVal e (.slice xa e.tags.length xc)) (by simp [results, Try.results41, go_sem, evVal, r0, r1, r2, r3, r4]) rfl ⟨.slice xa e.tags.length xc, by rw [HB.out], ?_, below_set5 HG.out.bel (Nat.le_refl _)⟩
            rw [HB.out]
            exact own_set5 HG.out.own (by omega) (by omega)
          · have hvb : (v == 2) = false := by simp [hv]
            clear hv2 hv
            go_wp2
            refine bodyPost_ret (v := evVal e (.slice xa e.tags.length xc)) (by simp [results, Try.results41, go_sem, evVal, r0, r1, r2, r3, r4]) rfl ⟨.slice xa e.tags.length xc, by rw [HB.out], ?_, below_set5 HG.out.bel (Nat.le_refl _)⟩
            rw [HB.out]
            exact own_set5 HG.out.own (by omega) (by omega)
      · obtain ⟨p, hpe⟩ : ∃ p, s.size - (c :: r).length = p := ⟨_, rfl⟩
        have hpl : p + 1 + r.length = s.size := by simp only [List.length_cons] at hpe hql; omega
        rw [hpe] at hdr
        have HC : Hid (∃ h : p < s.size, s[p] = c) := by
          refine ⟨by omega, ?_⟩
          have h2 : s[p]'(by omega) = s.data.toList[p]'(by rw [hsl]; omega) := rfl
          have h3 : s.data.toList[p]? = some c := by
            have := congrArg (fun l => l[0]?) hdr
            simpa using this
          rw [h2]
          rw [List.getElem?_eq_getElem (by rw [hsl]; omega)] at h3
          exact Option.some.inj h3
        obtain ⟨hlt, hcc⟩ := HC.out
        have hdr1 : s.data.toList.drop (p + 1) = r := by
          rw [← List.drop_drop, hdr]; rfl
        have hN := fun X => numberAt_any s (p + 1) X (by omega) (by omega)
        have hT := fun X => textAt_any s (p + 1) X (by omega) (by omega)
        rw [hdr1, atVal_eq] at hN
        rw [hdr1, tAtVal_eq] at hT
        have HLS := hide0 (left_step HL.out)
        have HTL := hide0 (fun q (hq : (gstep e c r).2 = some q) => gstep_len hq)
        have hpv : placeV s.size (some (c :: r)) = .int .i64 (p : Int) := by rw [placeV, hpe]
        rw [hpv]
        have hpi : (p : Int) < (s.size : Int) := by omega
        have hcast : ((p + 1 : Nat) : Int) = (p : Int) + 1 := by omega
        rw [hcast] at hN hT
        clear HL hdr hql hdr1 hpe hpv HC hcast
        obtain ⟨b0, b1, b2, b3, b4, bf⟩ := res_cells HG.out.box
        by_cases h1 : c = 1
        · subst h1
          have q1 : ((s[p].toNat : Int) == 1) = true := by rw [hcc]; exact byte_eq (k := 1) rfl (by decide)
          have q2 : ((s[p].toNat : Int) == 2) = false := by rw [hcc]; exact byte_ne (k := 2) (by decide)
          have q3 : ((s[p].toNat : Int) == 3) = false := by rw [hcc]; exact byte_ne (k := 3) (by decide)
          have q4 : ((s[p].toNat : Int) == 4) = false := by rw [hcc]; exact byte_ne (k := 4) (by decide)
          have q5 : ((s[p].toNat : Int) == 5) = false := by rw [hcc]; exact byte_ne (k := 5) (by decide)
          have HE : Hid (gstep e 1 r = ({ e with kind := (nAt r).1 }, (nAt r).2)) := by rw [Hid, gstep, if_pos rfl]
          rw [HE.out] at HLS HTL
          clear hcc
          go_wp2_with (first | (go_at_call 47; refine (hN _).mono ?_; rintro e9 w9 ⟨rfl, hw9⟩; have hw9' := hw9.symm; subst hw9'; clear hw9))
          exact ⟨⟨{ e with kind := (nAt r).1 }, x, _, rfl, HG.out.set rfl rfl, HLS⟩, place_less hlt (fun q hq => by have := HTL.out q hq; omega)⟩
        · skip
          by_cases h3 : c = 3
          · subst h3
            have q1 : ((s[p].toNat : Int) == 1) = false := by rw [hcc]; exact byte_ne (k := 1) (by decide)
            have q2 : ((s[p].toNat : Int) == 2) = false := by rw [hcc]; exact byte_ne (k := 2) (by decide)
            have q3 : ((s[p].toNat : Int) == 3) = true := by rw [hcc]; exact byte_eq (k := 3) rfl (by decide)
            have q4 : ((s[p].toNat : Int) == 4) = false := by rw [hcc]; exact byte_ne (k := 4) (by decide)
            have q5 : ((s[p].toNat : Int) == 5) = false := by rw [hcc]; exact byte_ne (k := 5) (by decide)
            have HE : Hid (gstep e 3 r = ({ e with time := (nAt r).1 }, (nAt r).2)) := by rw [Hid, gstep, if_neg (by decide), if_pos rfl]
            rw [HE.out] at HLS HTL
            clear hcc
            go_wp2_with (first | (go_at_call 47; refine (hN _).mono ?_; rintro e9 w9 ⟨rfl, hw9⟩; have hw9' := hw9.symm; subst hw9'; clear hw9))
            exact ⟨⟨{ e with time := (nAt r).1 }, x, _, rfl, HG.out.set rfl rfl, HLS⟩, place_less hlt (fun q hq => by have := HTL.out q hq; omega)⟩
          · skip
            by_cases h2 : c = 2
            · subst h2
              have q1 : ((s[p].toNat : Int) == 1) = false := by rw [hcc]; exact byte_ne (k := 1) (by decide)
              have q2 : ((s[p].toNat : Int) == 2) = true := by rw [hcc]; exact byte_eq (k := 2) rfl (by decide)
              have q3 : ((s[p].toNat : Int) == 3) = false := by rw [hcc]; exact byte_ne (k := 3) (by decide)
              have q4 : ((s[p].toNat : Int) == 4) = false := by rw [hcc]; exact byte_ne (k := 4) (by decide)
              have q5 : ((s[p].toNat : Int) == 5) = false := by rw [hcc]; exact byte_ne (k := 5) (by decide)
              have HE : Hid (gstep e 2 r = ({ e with task := ⟨(tAt r).1.toArray⟩ }, (tAt r).2)) := by rw [Hid, gstep, if_neg (by decide), if_neg (by decide), if_pos rfl]
              rw [HE.out] at HLS HTL
              clear hcc
              go_wp2_with (first | (go_at_call 39; refine (hT _).mono ?_; rintro e9 w9 ⟨rfl, hw9⟩; have hw9' := hw9.symm; subst hw9'; clear hw9))
              exact ⟨⟨{ e with task := ⟨(tAt r).1.toArray⟩ }, x, _, rfl, HG.out.set rfl rfl, HLS⟩, place_less hlt (fun q hq => by have := HTL.out q hq; omega)⟩
            · skip
              by_cases h4 : c = 4
              · subst h4
                have q1 : ((s[p].toNat : Int) == 1) = false := by rw [hcc]; exact byte_ne (k := 1) (by decide)
                have q2 : ((s[p].toNat : Int) == 2) = false := by rw [hcc]; exact byte_ne (k := 2) (by decide)
                have q3 : ((s[p].toNat : Int) == 3) = false := by rw [hcc]; exact byte_ne (k := 3) (by decide)
                have q4 : ((s[p].toNat : Int) == 4) = true := by rw [hcc]; exact byte_eq (k := 4) rfl (by decide)
                have q5 : ((s[p].toNat : Int) == 5) = false := by rw [hcc]; exact byte_ne (k := 5) (by decide)
                have HE : Hid (gstep e 4 r = ({ e with body := ⟨(tAt r).1.toArray⟩ }, (tAt r).2)) := by rw [Hid, gstep, if_neg (by decide), if_neg (by decide), if_neg (by decide), if_pos rfl]
                rw [HE.out] at HLS HTL
                clear hcc
                go_wp2_with (first | (go_at_call 39; refine (hT _).mono ?_; rintro e9 w9 ⟨rfl, hw9⟩; have hw9' := hw9.symm; subst hw9'; clear hw9))
                exact ⟨⟨{ e with body := ⟨(tAt r).1.toArray⟩ }, x, _, rfl, HG.out.set rfl rfl, HLS⟩, place_less hlt (fun q hq => by have := HTL.out q hq; omega)⟩
              · skip
                by_cases h5 : c = 5
                · subst h5
                  have q1 : ((s[p].toNat : Int) == 1) = false := by rw [hcc]; exact byte_ne (k := 1) (by decide)
                  have q2 : ((s[p].toNat : Int) == 2) = false := by rw [hcc]; exact byte_ne (k := 2) (by decide)
                  have q3 : ((s[p].toNat : Int) == 3) = false := by rw [hcc]; exact byte_ne (k := 3) (by decide)
                  have q4 : ((s[p].toNat : Int) == 4) = false := by rw [hcc]; exact byte_ne (k := 4) (by decide)
                  have q5 : ((s[p].toNat : Int) == 5) = true := by rw [hcc]; exact byte_eq (k := 5) rfl (by decide)
                  have HE : Hid (gstep e 5 r = ({ e with tags := e.tags ++ [⟨(tAt r).1.toArray⟩] }, (tAt r).2)) := by rw [Hid, gstep, if_neg (by decide), if_neg (by decide), if_neg (by decide), if_neg (by decide), if_pos rfl]
                  rw [HE.out] at HLS HTL
                  clear hcc
                  obtain ⟨i0, hi0, hz0, hz1, hz2⟩ := info_parts infoText
                  have hfew := HLS.out.few
                  have hfw : e.tags.length + 1 ≤ s.size := by rw [hsl] at hfew; simp only [List.length_append, List.length_cons, List.length_nil] at hfew; omega
                  have e1 : e.tags.length + 1 ≤ maxLen := by unfold maxLen; omega
                  have e2 : (e.tags.length + 1) * 16 ≤ 140737488355328 := by omega
                  have hbig := HG.out.big
                  have e3 : ∀ o, w.heap.size + 2 ≤ (wr.alloc o).heap.size := fun o => by rw [World.size_alloc]; omega
                  clear hfew hfw
                  go_wp2_with (first
                    | (go_at_call 39; refine (hT _).mono ?_; rintro e9 w9 ⟨rfl, hw9⟩; have hw9' := hw9.symm; subst hw9'; clear hw9)
                    | (at_builtin; go_must (refine wpList_append_lies _ rfl _ _ 22 rfl (w.heap.size + 2) 9 i0 (.string ⟨#[]⟩) 1 16 Try.underlying22 hi0 hz0 hz1 hz2 rfl Nat.one_pos x e.tags.length (e.tags.map Value.string) rfl (HG.out.own.alloc _) ⟨wr.heap.size, 0, none⟩ 1 1 [_] rfl rfl (cell_one_new _ _ _) (one_string _) Nat.one_pos e1 e2 (e3 _) _ rfl ?_)
                       intro g cap9 wa hown' hgrow hat hglt
                       obtain ⟨hbY, HP⟩ := HG.out.push hgrow hown'
                       have HN := hide0 HP
                       obtain ⟨ya0, ya1, ya2, ya3, ya4, yaf⟩ := res_cells hbY
                       clear hgrow hown' hat HP hbY))
                  exact ⟨⟨_, _, _, rfl, HN, HLS⟩, place_less hlt (fun q hq => by have := HTL.out q hq; omega)⟩
                · skip
                  have q1 : ((s[p].toNat : Int) == 1) = false := by rw [hcc]; exact byte_ne (k := 1) h1
                  have q2 : ((s[p].toNat : Int) == 2) = false := by rw [hcc]; exact byte_ne (k := 2) h2
                  have q3 : ((s[p].toNat : Int) == 3) = false := by rw [hcc]; exact byte_ne (k := 3) h3
                  have q4 : ((s[p].toNat : Int) == 4) = false := by rw [hcc]; exact byte_ne (k := 4) h4
                  have q5 : ((s[p].toNat : Int) == 5) = false := by rw [hcc]; exact byte_ne (k := 5) h5
                  have HE : Hid (gstep e c r = (e, (tAt r).2)) := by rw [Hid, gstep, if_neg h1, if_neg h3, if_neg h2, if_neg h4, if_neg h5]
                  rw [HE.out] at HLS HTL
                  clear hcc
                  go_wp2_with (first | (go_at_call 39; refine (hT _).mono ?_; rintro e9 w9 ⟨rfl, hw9⟩; have hw9' := hw9.symm; subst hw9'; clear hw9))
                  exact ⟨⟨_, x, _, rfl, HG, HLS⟩, place_less hlt (fun q hq => by have := HTL.out q hq; omega)⟩
end Go.Proofs.Ytdjllnhahhjgmaa
