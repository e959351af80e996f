/- Walks and plain facts, in the order in which they lean on one another. -/
import Derived.Test.YtdjllnhahhjgmaaGreatDoorW06
import Derived.Test.YtdjllnhahhjgmaaGreatDoorW04
namespace Go.Proofs.YtdjllnhahhjgmaaGreatDoor
open Go.RowKit Chron
def letC : Option (UInt8 × List UInt8) → Int
  | some (c, _) => (c.toNat : Int)
  | none => 0
def letP (s : ByteArray) : Option (UInt8 × List UInt8) → Int
  | some (_, r) => pos s (some r)
  | none => -1
theorem ret_two {a b c d : Int} {k l : IntKind} (h1 : a = c) (h2 : b = d) : Ending.returned (.tuple #[.int k a, .int l b]) = .returned (.tuple #[.int k c, .int l d]) := by rw [h1, h2]
theorem pos_at {s : ByteArray} {r : List UInt8} {k n : Nat} (h : Suf s r) (hk : k + n = s.size - r.length) : pos s (some r) = (k : Int) + n := by have := h.le; simp only [pos]; omega
theorem two_bytes {s : ByteArray} {k : Nat} (h : k + 1 < s.size) : (s.extract k (k + 2)).toList = [s[k], s[k + 1]] := by
  rw [ByteArray.toList_eq]
  have hl : k < s.data.toList.length := by simp; omega
  have hl2 : k + 1 < s.data.toList.length := by simpa using h
  have e : (s.extract k (k + 2)).data.toList = (s.data.toList.drop k).take 2 := by simp
  rw [e, List.drop_eq_getElem_cons hl, List.drop_eq_getElem_cons hl2]; rfl
theorem coded_short {l : List UInt8} (h : l.length < 4) : codedL l = none := by
  match l, h with
  | [], _ => rfl
  | [_], _ => rfl
  | [_, _], _ => rfl
  | [_, _, _], _ => rfl
set_option maxRecDepth 100000 in
set_option maxHeartbeats 2000000 in
theorem letter_any (s : ByteArray) (x : UInt8) (r : List UInt8) (w : World) (h : Suf s (x :: r)) (hs : s.size ≤ 1048576) :
    Calls Tryz.prog 149 #[.string s, .int .i64 (pos s (some (x :: r)))] w fun e w' => e = .returned (.tuple #[.int .u8 (letC (letterL (x :: r))), .int .i64 (letP s (letterL (x :: r)))]) ∧ w' = w := by
  obtain ⟨k, hk⟩ : ∃ k : Nat, k = s.size - (x :: r).length := ⟨_, rfl⟩
  have hle := h.le
  obtain ⟨hlt, hx⟩ := h.byte hk
  have hp : pos s (some (x :: r)) = (k : Int) := by have := pos_at (k := k) (n := 0) h (by omega); simpa using this
  rw [hp]
  have HX := hide0 hx
  have HK : Hid (k + 1 = s.size - r.length) := by simp only [List.length_cons] at hk hle; show _ = _; omega
  by_cases hx92 : x = 92
  · subst hx92
    have hs92 : (s[k].toNat : Int) = 92 := by rw [hx]; rfl
    clear hx
    match r, h, HK with
    | [], h, HK =>
      have hend : ¬ (k : Int) + 1 < (s.size : Int) := by have := HK.out; simp only [List.length_nil] at this; omega
      clear hk hle hp
      go_enter Tryz.func149, Tryz.ntmps149
      go_wp2
      go_ret2
      exact ⟨rfl, rfl⟩
    | c :: r2, h, HK =>
      obtain ⟨hlt1, hc⟩ := h.tail.byte HK.out
      have HK2 : Hid (k + 2 = s.size - r2.length) := by have := HK.out; have := h.tail.le; simp only [List.length_cons] at *; show _ = _; omega
      have hl1 : (k : Int) + 1 < (s.size : Int) := by omega
      have HS2 := hide0 h.tail.tail
      clear hk hle hp h
      by_cases hc3 : c = 34 ∨ c = 92 ∨ c = 47
      · have HF : Hid (letterL (92 :: c :: r2) = some (c, r2)) := by simp [Hid, letterL, hc3]
        have hcv : (s[k + 1].toNat : Int) = 34 ∨ (s[k + 1].toNat : Int) = 92 ∨ (s[k + 1].toNat : Int) = 47 := by
          rw [hc]
          rcases hc3 with rfl | rfl | rfl
          · exact .inl rfl
          · exact .inr (.inl rfl)
          · exact .inr (.inr rfl)
        have HC := hide0 hc
        clear hc hc3
        rcases hcv with hcv | hcv | hcv
        all_goals
          go_enter Tryz.func149, Tryz.ntmps149
          go_wp2
          go_ret2
          refine ⟨ret_two ?_ ?_, rfl⟩
          · rw [HF.out]; show _ = (c.toNat : Int); rw [← HC.out]; omega
          · rw [HF.out]; exact (pos_at (n := 2) HS2.out HK2.out).symm
      · have hn : ¬ (s[k + 1].toNat : Int) = 34 ∧ ¬ (s[k + 1].toNat : Int) = 92 ∧ ¬ (s[k + 1].toNat : Int) = 47 := by
          rw [hc]
          refine ⟨fun h => hc3 (.inl (UInt8.toNat_inj.1 ?_)), fun h => hc3 (.inr (.inl (UInt8.toNat_inj.1 ?_))), fun h => hc3 (.inr (.inr (UInt8.toNat_inj.1 ?_)))⟩
          · show c.toNat = 34; omega
          · show c.toNat = 92; omega
          · show c.toNat = 47; omega
        have n1 : ((s[k + 1].toNat : Int) == 34) = false := by simp [hn.1]
        have n2 : ((s[k + 1].toNat : Int) == 92) = false := by simp [hn.2.1]
        have n3 : ((s[k + 1].toNat : Int) == 47) = false := by simp [hn.2.2]
        clear hn
        by_cases hcu : c = 117
        · subst hcu
          have hu : ((s[k + 1].toNat : Int) != 117) = false := by rw [hc]; rfl
          have HL0 : Hid (letterL (92 :: 117 :: r2) = plainL (codedL r2)) := by simp [Hid, letterL]
          clear hc hc3
          by_cases h4 : r2.length < 4
          · have HF : Hid (letterL (92 :: 117 :: r2) = none) := by rw [HL0.out, coded_short h4]; exact rfl
            have hend : (s.size : Int) < (k : Int) + 6 := by have := HK2.out; have := HS2.out.le; omega
            clear h4
            go_enter Tryz.func149, Tryz.ntmps149
            go_wp2
            go_ret2
            exact ⟨ret_two (by rw [HF.out]; rfl) (by rw [HF.out]; rfl), rfl⟩
          · match r2, HK2, HS2, HL0, h4 with
            | [], HK2, HS2, HL0, h4 => simp at h4
            | [_], HK2, HS2, HL0, h4 => simp at h4
            | [_, _], HK2, HS2, HL0, h4 => simp at h4
            | [_, _, _], HK2, HS2, HL0, h4 => simp at h4
            | z :: y :: a :: b :: r3, HK2, HS2, HL0, _ =>
              have hle := HS2.out.le
              have hkk := HK2.out
              simp only [List.length_cons] at hle hkk
              obtain ⟨lt2, hz⟩ := HS2.out.byte (k := k + 2) (by simp only [List.length_cons]; omega)
              obtain ⟨lt3, hy⟩ := HS2.out.tail.byte (k := k + 3) (by simp only [List.length_cons]; omega)
              obtain ⟨lt4, ha⟩ := HS2.out.tail.tail.byte (k := k + 4) (by simp only [List.length_cons]; omega)
              obtain ⟨lt5, hb⟩ := HS2.out.tail.tail.tail.byte (k := k + 5) (by simp only [List.length_cons]; omega)
              obtain ⟨P, hext, HPP⟩ : ∃ P, (s.extract (k + 2) (k + 4)).toList = P ∧ Hid (P = [z, y]) := ⟨_, rfl, by
                have := two_bytes (s := s) (k := k + 2) (by omega)
                show _ = _
                rw [this, hz, hy]⟩
              have hend : ¬ (s.size : Int) < (k : Int) + 6 := by omega
              have HP6 := hide0 (pos_at (k := k) (n := 6) HS2.out.tail.tail.tail.tail (by omega))
              clear hle hkk hz hy
              by_cases hzy : z = 48 ∧ y = 48
              · obtain ⟨rfl, rfl⟩ := hzy
                have heq : (P == [48, 48]) = true := by rw [HPP.out]; rfl
                have HL1 : Hid (letterL (92 :: 117 :: 48 :: 48 :: a :: b :: r3) = plainL (match hexD a, hexD b with | some m, some n => some (UInt8.ofNat (16 * m + n), r3) | _, _ => none)) := by rw [Hid, HL0.out, codedL, if_pos ⟨rfl, rfl⟩]; rfl
                obtain ⟨A, hA, hA1, HAA⟩ : ∃ A : Int, Hid (hexI a = A) ∧ (-1 ≤ A ∧ A < 16) ∧ Hid (hexD a = if A < 0 then none else some A.toNat) := by
                  refine ⟨hexI a, rfl, ?_, ?_⟩
                  · unfold hexI; split
                    · rename_i n e; have := hex_lt e; omega
                    · omega
                  · show _ = _
                    unfold hexI; split
                    · rename_i n e; rw [if_neg (by omega), e]; simp
                    · rename_i e; rw [if_pos (by omega), e]
                obtain ⟨B, hB, hB1, HBB⟩ : ∃ A : Int, Hid (hexI b = A) ∧ (-1 ≤ A ∧ A < 16) ∧ Hid (hexD b = if A < 0 then none else some A.toNat) := by
                  refine ⟨hexI b, rfl, ?_, ?_⟩
                  · unfold hexI; split
                    · rename_i n e; have := hex_lt e; omega
                    · omega
                  · show _ = _
                    unfold hexI; split
                    · rename_i n e; rw [if_neg (by omega), e]; simp
                    · rename_i e; rw [if_pos (by omega), e]
                have hD : ∀ (q : UInt8) (X : World), Calls Tryz.prog 166 #[.int .u8 (q.toNat : Int)] X fun e w' => e = .returned (.int .i64 (hexI q)) ∧ w' = X := fun q X => digit_any q X
                have hD1 := hD s[k + 4] w
                have hD2 := hD s[k + 5] w
                rw [show hexI s[k + 4] = A by rw [ha]; exact hA.out] at hD1
                rw [show hexI s[k + 5] = B by rw [hb]; exact hB.out] at hD2
                clear ha hb hD
                obtain ⟨hA2, hA3⟩ := hA1
                obtain ⟨hB2, hB3⟩ := hB1
                by_cases hgood : 0 ≤ A ∧ 0 ≤ B ∧ 32 ≤ 16 * A + B ∧ 16 * A + B ≤ 126
                · obtain ⟨g1, g2, g3, g4⟩ := hgood
                  have HF : Hid (letterL (92 :: 117 :: 48 :: 48 :: a :: b :: r3) = some (UInt8.ofNat (16 * A + B).toNat, r3)) := by
                    show _ = _
                    rw [HL1.out, HAA.out, HBB.out, if_neg (by omega), if_neg (by omega)]
                    have e : 16 * A.toNat + B.toNat = (16 * A + B).toNat := by omega
                    simp only [e, plainL]
                    rw [if_pos]
                    simp only [byteOk, Bool.and_eq_true, decide_eq_true_eq, UInt8.toNat_ofNat']
                    omega
                  go_enter Tryz.func149, Tryz.ntmps149
                  go_wp2_with fail
                  refine hD1.mono ?_
                  rintro e w1 ⟨rfl, hw1⟩
                  have hw2 := hw1.symm
                  subst hw2
                  go_wp2_with fail
                  refine hD2.mono ?_
                  rintro e w2 ⟨rfl, hw3⟩
                  have hw4 := hw3.symm
                  subst hw4
                  clear hD1 hD2 hw1 hw3
                  go_wp2
                  go_ret2
                  refine ⟨ret_two ?_ ?_, rfl⟩
                  · rw [HF.out]; show _ = ((UInt8.ofNat (16 * A + B).toNat).toNat : Int); simp; omega
                  · rw [HF.out]; exact HP6.out.symm
                · have HF : Hid (letterL (92 :: 117 :: 48 :: 48 :: a :: b :: r3) = none) := by
                    show _ = _
                    rw [HL1.out, HAA.out, HBB.out]
                    by_cases g1 : A < 0
                    · rw [if_pos g1]; rfl
                    · by_cases g2 : B < 0
                      · rw [if_neg g1, if_pos g2]; rfl
                      · rw [if_neg g1, if_neg g2]
                        have e : 16 * A.toNat + B.toNat = (16 * A + B).toNat := by omega
                        simp only [e, plainL]
                        rw [if_neg]
                        simp only [byteOk, Bool.and_eq_true, decide_eq_true_eq, UInt8.toNat_ofNat']
                        omega
                  have HG := hide0 hgood
                  clear hgood
                  go_enter Tryz.func149, Tryz.ntmps149
                  go_wp2_with fail
                  refine hD1.mono ?_
                  rintro e w1 ⟨rfl, hw1⟩
                  have hw2 := hw1.symm
                  subst hw2
                  go_wp2_with fail
                  refine hD2.mono ?_
                  rintro e w2 ⟨rfl, hw3⟩
                  have hw4 := hw3.symm
                  subst hw4
                  clear hD1 hD2 hw1 hw3
                  go_wp2
                  all_goals
                    first
                      | (exfalso; have := HG.out; omega)
                      | (go_ret2; exact ⟨ret_two (by rw [HF.out]; rfl) (by rw [HF.out]; rfl), rfl⟩)
              · have hne : (P == [48, 48]) = false := by rw [HPP.out, beq_eq_false_iff_ne]; simp only [ne_eq, List.cons.injEq, and_true]; exact hzy
                have HF : Hid (letterL (92 :: 117 :: z :: y :: a :: b :: r3) = none) := by rw [HL0.out]; simp [Hid, codedL, hzy, plainL]
                clear ha hb hzy
                go_enter Tryz.func149, Tryz.ntmps149
                go_wp2
                go_ret2
                exact ⟨ret_two (by rw [HF.out]; rfl) (by rw [HF.out]; rfl), rfl⟩
        · have HF : Hid (letterL (92 :: c :: r2) = none) := by simp [Hid, letterL, hc3, hcu]
          have hu : ((s[k + 1].toNat : Int) != 117) = true := by
            rw [hc]
            simp only [bne_iff_ne, ne_eq]
            intro h
            exact hcu (UInt8.toNat_inj.1 (by show c.toNat = 117; omega))
          clear hc hc3 hcu
          go_enter Tryz.func149, Tryz.ntmps149
          go_wp2
          go_ret2
          exact ⟨ret_two (by rw [HF.out]; rfl) (by rw [HF.out]; rfl), rfl⟩
  · have hs92 : ((s[k].toNat : Int) != 92) = true := by
      rw [hx]
      simp only [bne_iff_ne, ne_eq]
      intro h
      exact hx92 (UInt8.toNat_inj.1 (by show x.toNat = 92; omega))
    have HS := hide0 h
    cases hok : byteOk x
    · have HF : Hid (letterL (x :: r) = none) := by simp [Hid, letterL, hx92, plainL, hok]
      have hno : (s[k].toNat : Int) < 32 ∨ 126 < (s[k].toNat : Int) := by
        rw [hx]
        simp only [byteOk, Bool.and_eq_false_iff, decide_eq_false_iff_not] at hok
        omega
      clear hx hx92 hok hp h hk hle
      go_enter Tryz.func149, Tryz.ntmps149
      rcases hno with hno | hno
      all_goals
        go_wp2
        go_ret2
        exact ⟨ret_two (by rw [HF.out]; rfl) (by rw [HF.out]; rfl), rfl⟩
    · have HF : Hid (letterL (x :: r) = some (x, r)) := by simp [Hid, letterL, hx92, plainL, hok]
      have hyes : 32 ≤ (s[k].toNat : Int) ∧ (s[k].toNat : Int) ≤ 126 := by
        rw [hx]
        simpa only [byteOk, Bool.and_eq_true, decide_eq_true_eq] using hok
      obtain ⟨hy1, hy2⟩ := hyes
      have y1 : ¬ (s[k].toNat : Int) < 32 := by omega
      have y2 : ¬ 126 < (s[k].toNat : Int) := by omega
      clear hx hx92 hok hp h hk hle
      go_enter Tryz.func149, Tryz.ntmps149
      go_wp2
      go_ret2
      exact ⟨ret_two (by rw [HF.out]; show _ = (x.toNat : Int); rw [← HX.out]) (by rw [HF.out]; exact (pos_at (n := 1) HS.out.tail HK.out).symm), rfl⟩
end Go.Proofs.YtdjllnhahhjgmaaGreatDoor
namespace Go.Proofs.YtdjllnhahhjgmaaGreatDoor
open Go.RowKit Chron
def qS : Option (List UInt8 × List UInt8) → ByteArray
  | some (b, _) => ba b
  | none => ⟨#[]⟩
def qP : Option (List UInt8 × List UInt8) → Option (List UInt8)
  | some (_, r) => some r
  | none => none
theorem ret_sp {a b : ByteArray} {c d : Int} {l : IntKind} (h1 : a = b) (h2 : c = d) : Ending.returned (.tuple #[.string a, .int l c]) = .returned (.tuple #[.string b, .int l d]) := by rw [h1, h2]
theorem letC_byte (o : Option (UInt8 × List UInt8)) : ∃ c : UInt8, letC o = (c.toNat : Int) := by
  match o with
  | some (c, _) => exact ⟨c, rfl⟩
  | none => exact ⟨0, rfl⟩
theorem conv_nil (w : World) : (convert 63 9 (.slice none 0 0)).run Tryz.prog w = .ok (.string ⟨#[]⟩) w := by
  kernel_rfl
def left (n : Nat) (i : Int) : Nat := if i < 0 then 0 else n + 1 - i.toNat
/- where the reading within quotes stands -/
def InAt (s : ByteArray) (r : List UInt8) (acc : List UInt8) : Option (List UInt8) → Prop
  | some t => Suf s t ∧ acc.length + t.length ≤ s.size ∧ inL r = (inL t).map fun p => (acc ++ p.1, p.2)
  | none => inL r = none
set_option maxRecDepth 100000 in
set_option maxHeartbeats 2000000 in
theorem quoteRef_any (s : ByteArray) (o : Option (List UInt8)) (w : World) (h : ∀ r, o = some r → Suf s r) (hs : s.size ≤ 1048576) :
    Calls Tryz.prog 108 #[.string s, .int .i64 (pos s o)] w fun e w' => e = .returned (.tuple #[.string (qS (o.bind quoteL)), .int .i64 (pos s (qP (o.bind quoteL)))]) ∧ Below w.heap.size w w' := by
  obtain ⟨i0, hi, hz0, hz1, hz2⟩ := info_parts infoByte
  have hS := sign_pos s o 34 34 rfl w h hs
  cases hq : o.bind (signL 34) with
  | none =>
    rw [hq] at hS
    have HF : Hid (o.bind quoteL = none) := by
      cases o with
      | none => rfl
      | some r => simp only [Option.bind_some] at hq ⊢; rw [Hid, quoteL, hq]
    go_enter Tryz.func108, Tryz.ntmps108
    go_wp2_with fail
    refine hS.mono ?_
    rintro e w1 ⟨rfl, hw1⟩
    have hw2 := hw1.symm
    subst hw2
    clear hw1 hS
    have hm1 : pos s none = -1 := rfl
    rw [hm1]
    go_wp2_with fail
    go_loopw [1, 6] (fun i v wx => i = .int .i64 (-1) ∧ v = .slice none 0 0 ∧ wx = w) (fun _ _ _ => 0)
    case atStart => exact ⟨rfl, rfl, rfl⟩
    case round =>
      obtain ⟨rfl, rfl, hwx⟩ := hrel
      have hwy := hwx.symm
      subst hwy
      go_wp2
      go_ret2
      exact ⟨ret_sp (by rw [HF.out]; rfl) (by rw [HF.out]; rfl), Below.refl _ _⟩
  | some r =>
    have hr : Suf s r := by
      cases o with
      | none => cases hq
      | some r0 => exact (h r0 rfl).trans (sign_suf hq).1
    have HQ : Hid (o.bind quoteL = inL r) := by
      cases o with
      | none => cases hq
      | some r0 => simp only [Option.bind_some] at hq ⊢; rw [Hid, quoteL, hq]
    rw [hq] at hS
    clear hq h
    go_enter Tryz.func108, Tryz.ntmps108
    go_wp2_with fail
    refine hS.mono ?_
    rintro e w1 ⟨rfl, hw1⟩
    have hw2 := hw1.symm
    subst hw2
    clear hw1 hS
    go_wp2_with fail
    go_loopw [1, 6] (fun i v wx => ∃ (p : Option (List UInt8)) (acc : List UInt8), i = .int .i64 (pos s p) ∧ acc.length ≤ 1048577 ∧ Hid (InAt s r acc p) ∧ Hid (acc = [] → v = .slice none 0 0) ∧ wx.ownsRow w.heap.size 5 1 v acc.length (Lib.byteCells acc) ∧ Below w.heap.size w wx) (fun i _ _ => left s.size (intOf i))
    case atStart => exact ⟨some r, [], rfl, by decide, ⟨hr, by have := hr.le; simpa using this, by simp⟩, fun _ => rfl, World.ownsRow_nil _ _ _ _, Below.refl _ _⟩
    case round =>
      obtain ⟨p, acc, rfl, hacc, HI, HV, hown, hbl⟩ := hrel
      have HB := hide0 hbl
      have hsz := hbl.size
      clear hbl
      match p, HI with
      | none, HI =>
        have HF : Hid (o.bind quoteL = none) := by rw [HQ.out]; exact HI.out
        have hm1 : pos s none = -1 := rfl
        rw [hm1]
        go_wp2
        go_ret2
        exact ⟨ret_sp (by rw [HF.out]; rfl) (by rw [HF.out]; rfl), HB.out⟩
      | some [], HI =>
        have HF : Hid (o.bind quoteL = none) := by
          rw [HQ.out]
          have := HI.out.2.2
          rw [in_nil] at this
          exact this
        have hm1 : pos s (some []) = (s.size : Int) := by simp [pos]
        rw [hm1]
        go_wp2
        go_ret2
        exact ⟨ret_sp (by rw [HF.out]; rfl) (by rw [HF.out]; rfl), HB.out⟩
      | some (x :: t), HI =>
        have hsuf := HI.out.1
        obtain ⟨k, hk⟩ : ∃ k : Nat, k = s.size - (x :: t).length := ⟨_, rfl⟩
        have hle := hsuf.le
        obtain ⟨hlt, hx⟩ := hsuf.byte hk
        have hp : pos s (some (x :: t)) = (k : Int) := by have := pos_at (k := k) (n := 0) hsuf (by omega); simpa using this
        have hL := letter_any s x t
        by_cases hx34 : x = 34
        · have HF : Hid (o.bind quoteL = some (acc, t)) := by
            rw [HQ.out]
            have := HI.out.2.2
            rw [hx34, in_end] at this
            exact hide0 (by simpa using this)
          have hs34 : (s[k].toNat : Int) = 34 := by rw [hx, hx34]; rfl
          have HP1 := hide0 (pos_at (k := k) (n := 1) hsuf.tail (by simp only [List.length_cons] at hk hle; omega))
          rw [hp]
          clear hk hle hp hx hL
          by_cases hne : acc = []
          · have hv := HV.out hne
            subst hv
            have hconv : (convert 63 9 (.slice none 0 0)).run Tryz.prog wr = .ok (.string ⟨#[]⟩) wr := conv_nil wr
            clear hown
            go_wp2
            go_ret2
            exact ⟨ret_sp (by rw [HF.out, hne]; rfl) (by rw [HF.out]; exact HP1.out.symm), HB.out⟩
          · have hconv := conv_owned hown hne
            clear hown
            go_wp2
            go_ret2
            exact ⟨ret_sp (by rw [HF.out]; rfl) (by rw [HF.out]; exact HP1.out.symm), HB.out⟩
        · have hs34 : ((s[k].toNat : Int) == 34) = false := by
            rw [hx, beq_eq_false_iff_ne]
            intro h
            exact hx34 (UInt8.toNat_inj.1 (by show x.toNat = 34; omega))
          have hL2 := hL wr hsuf hs
          obtain ⟨c, hc⟩ := letC_byte (letterL (x :: t))
          rw [hc, hp] at hL2
          have hN : Hid (InAt s r (acc ++ [c]) ((letterL (x :: t)).map (·.2))) := by
            have h3 := HI.out.2.2
            cases hl : letterL (x :: t) with
            | none => rw [in_bad hx34 hl] at h3; exact h3
            | some q =>
              obtain ⟨c', t'⟩ := q
              rw [hl] at hc
              have hcc : c' = c := UInt8.toNat_inj.1 (by simp only [letC] at hc; omega)
              subst hcc
              have hsf := letter_suf hl
              have hlt2 := hsf.2
              refine ⟨hsuf.trans hsf.1, ?_, ?_⟩
              · have := HI.out.2.1
                simp only [List.length_append, List.length_cons, List.length_nil] at this hlt2 ⊢
                omega
              · rw [h3, in_step hx34 hl]
                simp [Option.map_map, Function.comp_def]
          have HPL : Hid (letP s (letterL (x :: t)) = pos s ((letterL (x :: t)).map (·.2))) := by
            cases letterL (x :: t) with
            | none => rfl
            | some q => rfl
          have HLT : Hid (left s.size (pos s ((letterL (x :: t)).map (·.2))) < left s.size (k : Int)) := by
            cases hl : letterL (x :: t) with
            | none =>
              show left s.size (-1) < left s.size k
              simp only [left]
              rw [if_pos (by omega), if_neg (by omega)]
              omega
            | some q =>
              obtain ⟨c', t'⟩ := q
              have hsf := letter_suf hl
              have hlt2 := hsf.2
              have hle2 := (hsuf.trans hsf.1).le
              show left s.size ((s.size : Int) - (t'.length : Int)) < left s.size k
              simp only [left]
              rw [if_neg (by omega), if_neg (by omega)]
              simp only [List.length_cons] at hlt2 hk hle
              omega
          have hal : acc.length + 1 ≤ 1048577 := by
            have := HI.out.2.1
            simp only [List.length_cons] at this
            omega
          rw [hp]
          have HK := hide0 hk
          clear hk hle hp hx hL hc hx34
          go_wp2_with fail
          refine hL2.mono ?_
          rintro e w2 ⟨rfl, hw3⟩
          have hw4 := hw3.symm
          subst hw4
          clear hL2 hw3
          go_wp2_with (first | (at_builtin; refine wpList_append_own _ rfl _ _ 63 rfl w.heap.size 5 i0 (.int .u8 0) 1 1 Tryz.underlying63 hi hz0 hz1 hz2 rfl (by decide) _ _ _ rfl (hown.alloc _) ⟨wr.heap.size, 0, none⟩ 1 1 [_] rfl rfl (cell_one_new _ _ _) ?c2 ?c3 ?c4 ?c5 ?_))
          case c2 => first | (intro u hu; simp at hu; subst hu; rfl) | rfl
          case c3 => unfold maxLen; omega
          case c4 => omega
          case c5 => first | omega | (simp; omega)
          intro v' w1 hown' hgrow _
          rw [byteCells_snoc _ _ _ rfl] at hown'
          have HB1 := hide0 (Below.grown (HB.out.alloc (by omega) _) hgrow (by simp; omega) (fun j hj => by have := (hown.lt _ hj).1; omega))
          go_wp2
          go_roundw
          case rel => exact ⟨(letterL (x :: t)).map (·.2), acc ++ [c], by rw [HPL.out], by simp; omega, hN, fun h => by simp at h, by simpa using hown', HB1.out⟩
          case measure => rw [HPL.out]; exact HLT.out
end Go.Proofs.YtdjllnhahhjgmaaGreatDoor
namespace Go.Proofs.YtdjllnhahhjgmaaGreatDoor
open Go.RowKit Chron
def refN (ds : List UInt8) : Nat := ds.foldl (fun n d => if n ≤ 1125899906842624 then 10 * n + (d.toNat - 48) else n) 0
theorem refN_snoc (ds : List UInt8) (d : UInt8) : refN (ds ++ [d]) = if refN ds ≤ 1125899906842624 then 10 * refN ds + (d.toNat - 48) else refN ds := by unfold refN; rw [List.foldl_append]; rfl
theorem refN_from (ds : List UInt8) : ∀ a b : Nat, min a 1125899906842625 = b → min (ds.foldl (fun n d => if n ≤ 1125899906842624 then 10 * n + (d.toNat - 48) else n) a) 1125899906842625 = ds.foldl (fun n d => capN n d.toNat) b := by
  induction ds with
  | nil => intro a b h; exact h
  | cons d ds ih =>
    intro a b h
    simp only [List.foldl_cons]
    apply ih
    unfold capN
    split <;> omega
theorem refN_num (ds : List UInt8) : min (refN ds) 1125899906842625 = numL ds := refN_from ds 0 0 rfl
theorem refN_top (ds : List UInt8) : ∀ a : Nat, a ≤ 11258999068426249 → (∀ d ∈ ds, isDig d = true) → ds.foldl (fun n d => if n ≤ 1125899906842624 then 10 * n + (d.toNat - 48) else n) a ≤ 11258999068426249 := by
  induction ds with
  | nil => intro a h _; exact h
  | cons d ds ih =>
    intro a h hd
    have h0 := hd d (by simp)
    simp only [isDig, Bool.and_eq_true, decide_eq_true_eq] at h0
    simp only [List.foldl_cons]
    apply ih _ _ (fun x hx => hd x (by simp [hx]))
    split <;> omega
theorem refN_le {ds : List UInt8} (h : ∀ d ∈ ds, isDig d = true) : refN ds ≤ 11258999068426249 := refN_top ds 0 (by decide) h
def cN (l : List UInt8) : Int := if badNum ((skipL l).takeWhile isDig) then 0 else (refN ((skipL l).takeWhile isDig) : Int)
def cP (l : List UInt8) : Option (List UInt8) := if badNum ((skipL l).takeWhile isDig) then none else some ((skipL l).dropWhile isDig)
theorem dig_iff (d : UInt8) : isDig d = true ↔ (48 ≤ (d.toNat : Int) ∧ (d.toNat : Int) ≤ 57) := by simp only [isDig, Bool.and_eq_true, decide_eq_true_eq]; omega
theorem take_dig {dd t : List UInt8} (h1 : ∀ d ∈ dd, isDig d = true) (h2 : t = [] ∨ ∃ x r, t = x :: r ∧ isDig x = false) : (dd ++ t).takeWhile isDig = dd ∧ (dd ++ t).dropWhile isDig = t := by
  induction dd with
  | nil =>
    rcases h2 with rfl | ⟨x, r, rfl, hx⟩
    · exact ⟨rfl, rfl⟩
    · simp [hx]
  | cons d dd ih =>
    have := ih (fun x hx => h1 x (by simp [hx]))
    have hd := h1 d (by simp)
    simp [hd, this]
set_option maxRecDepth 100000 in
set_option maxHeartbeats 2000000 in
theorem countRef_any (s : ByteArray) (l : List UInt8) (w : World) (h : Suf s l) (hs : s.size ≤ 1048576) :
    Calls Tryz.prog 111 #[.string s, .int .i64 (pos s (some l))] w fun e w' => e = .returned (.tuple #[.int .i64 (cN l), .int .i64 (pos s (cP l))]) ∧ w' = w := by
  have hB := behind_any s l w h hs
  have hsk : Suf s (skipL l) := h.trans (skip_suf l)
  obtain ⟨k0, hk0⟩ : ∃ k0 : Nat, pos s (some (skipL l)) = k0 := ⟨s.size - (skipL l).length, by have := hsk.le; simp only [pos]; omega⟩
  rw [hk0] at hB
  have HK0 : Hid (k0 = s.size - (skipL l).length) := by have := hsk.le; simp only [pos] at hk0; show _ = _; omega
  have hks : k0 ≤ s.size := by have := HK0.out; omega
  have HSK := hide0 hsk
  clear hk0 hsk
  go_enter Tryz.func111, Tryz.ntmps111
  go_wp2_with fail
  refine hB.mono ?_
  rintro e w1 ⟨rfl, hw1⟩
  have hw2 := hw1.symm
  subst hw2
  clear hw1 hB
  go_wp2_with fail
  go_loop [6, 7] (fun nv iv => ∃ (k n : Nat), iv = .int .i64 k ∧ nv = .int .i64 n ∧ k0 ≤ k ∧ k ≤ s.size ∧ n ≤ 11258999068426249 ∧ Hid (∃ dd t, Suf s t ∧ skipL l = dd ++ t ∧ k = s.size - t.length ∧ k = k0 + dd.length ∧ n = refN dd ∧ ∀ d ∈ dd, isDig d = true)) (fun _ iv => s.size - (intOf iv).toNat)
  case atStart => exact ⟨k0, 0, rfl, rfl, Nat.le_refl _, hks, by decide, [], skipL l, HSK.out, rfl, HK0.out, by simp, rfl, by simp⟩
  case round =>
    obtain ⟨k, n, rfl, rfl, hk0k, hk, hn, HD⟩ := hrel
    by_cases hmore : ∃ hlt : k < s.size, isDig s[k] = true
    · obtain ⟨hlt, hdg⟩ := hmore
      obtain ⟨hd1, hd2⟩ := (dig_iff _).1 hdg
      have hN : Hid (∃ dd t, Suf s t ∧ skipL l = dd ++ t ∧ k + 1 = s.size - t.length ∧ k + 1 = k0 + dd.length ∧ (if n ≤ 1125899906842624 then 10 * n + (s[k].toNat - 48) else n) = refN dd ∧ ∀ d ∈ dd, isDig d = true) := by
        obtain ⟨dd, t, h1, h2, h3, h4, h5, h6⟩ := HD.out
        have hle := h1.le
        match t, h1, h2, h3, hle with
        | [], h1, h2, h3, hle => simp at h3; omega
        | x :: t', h1, h2, h3, hle =>
          obtain ⟨_, hx⟩ := h1.byte h3
          refine ⟨dd ++ [s[k]], t', h1.tail, by rw [h2, hx]; simp, ?_, by simp; omega, by rw [refN_snoc, ← h5], ?_⟩
          · simp only [List.length_cons] at h3 hle; omega
          · intro d hd
            rcases List.mem_append.1 hd with hd | hd
            · exact h6 d hd
            · simp only [List.mem_singleton] at hd
              rw [hd]; exact hdg
      have hle2 : (if n ≤ 1125899906842624 then 10 * n + (s[k].toNat - 48) else n) ≤ 11258999068426249 := by
        obtain ⟨dd, t, _, _, _, _, h5, h6⟩ := hN.out
        rw [h5]; exact refN_le h6
      by_cases hsm : n ≤ 1125899906842624
      · rw [if_pos hsm] at hN hle2
        have hsmI : (n : Int) ≤ 1125899906842624 := by omega
        have hval : 10 * (n : Int) + (s[k].toNat : Int) - 48 = ((10 * n + (s[k].toNat - 48) : Nat) : Int) := by omega
        have HV := hide0 hval
        clear hdg hval
        go_wp2
        go_round
        case rel => exact ⟨k + 1, 10 * n + (s[k].toNat - 48), by go_num, by rw [← HV.out], by omega, by omega, hle2, hN⟩
        case measure => simp [intOf]; omega
      · rw [if_neg hsm] at hN hle2
        have hsmI : ¬ (n : Int) ≤ 1125899906842624 := by omega
        clear hdg
        go_wp2
        go_round
        case rel => exact ⟨k + 1, n, by go_num, rfl, by omega, by omega, hle2, hN⟩
        case measure => simp [intOf]; omega
    · have HTD : Hid (∃ dd t, Suf s t ∧ (skipL l).takeWhile isDig = dd ∧ (skipL l).dropWhile isDig = t ∧ skipL l = dd ++ t ∧ k = s.size - t.length ∧ k = k0 + dd.length ∧ n = refN dd) := by
        obtain ⟨dd, t, h1, h2, h3, h4, h5, h6⟩ := HD.out
        have hle := h1.le
        have := take_dig (dd := dd) (t := t) h6 (by
          match t, h1, h3, hle with
          | [], h1, h3, hle => exact .inl rfl
          | x :: t', h1, h3, hle =>
            obtain ⟨hlt, hx⟩ := h1.byte h3
            refine .inr ⟨x, t', rfl, ?_⟩
            cases hd : isDig x with
            | false => rfl
            | true => exact absurd ⟨hlt, by rw [hx]; exact hd⟩ hmore)
        exact ⟨dd, t, h1, by rw [h2]; exact this.1, by rw [h2]; exact this.2, h2, h3, h4, h5⟩
      have hstop : (k = s.size ∨ ∃ hlt : k < s.size, (s[k].toNat : Int) < 48 ∨ 57 < (s[k].toNat : Int)) := by
        by_cases hlt : k < s.size
        · refine .inr ⟨hlt, ?_⟩
          have : ¬ (48 ≤ (s[k].toNat : Int) ∧ (s[k].toNat : Int) ≤ 57) := fun h => hmore ⟨hlt, (dig_iff _).2 h⟩
          omega
        · exact .inl (by omega)
      have hcases : (k = k0 ∧ cN l = 0 ∧ cP l = none) ∨ (k = k0 + 1 ∧ cN l = n ∧ pos s (cP l) = k) ∨ (∃ hlt : k0 < s.size, k0 + 1 < k ∧ (s[k0].toNat : Int) = 48 ∧ cN l = 0 ∧ cP l = none) ∨ (∃ hlt : k0 < s.size, k0 + 1 < k ∧ ¬ (s[k0].toNat : Int) = 48 ∧ cN l = n ∧ pos s (cP l) = k) := by
        obtain ⟨dd, t, h1, h2, h3, h4, h5, h6, h7⟩ := HTD.out
        have hpt : pos s (some t) = (k : Int) := by have := pos_at (k := k) (n := 0) h1 (by omega); simpa using this
        match dd, h2, h4, h6, h7 with
        | [], h2, h4, h6, h7 => exact .inl ⟨by simpa using h6, by rw [cN, h2]; rfl, by rw [cP, h2]; rfl⟩
        | [d], h2, h4, h6, h7 =>
          have hb : badNum [d] = false := by
            simp only [badNum, List.isEmpty_cons, List.head?_cons, Bool.false_or]
            by_cases hd : d = 48
            · subst hd; rfl
            · simp [hd]
          refine .inr (.inl ⟨by simpa using h6, ?_, ?_⟩)
          · rw [cN, h2, hb, h7]; rfl
          · rw [cP, h2, hb, h3]; exact hpt
        | d :: d2 :: ds, h2, h4, h6, h7 =>
          have hsuf : Suf s (d :: (d2 :: ds ++ t)) := by have := HSK.out; rw [h4] at this; exact this
          obtain ⟨hlt, hd⟩ := hsuf.byte (k := k0) (by have := HK0.out; rw [h4] at this; exact this)
          have hkk : k0 + 1 < k := by simp only [List.length_cons] at h6; omega
          by_cases h48 : d = 48
          · subst h48
            have hb : badNum (48 :: d2 :: ds) = true := by simp [badNum]
            exact .inr (.inr (.inl ⟨hlt, hkk, by rw [hd]; rfl, by rw [cN, h2, hb]; rfl, by rw [cP, h2, hb]; rfl⟩))
          · have hb : badNum (d :: d2 :: ds) = false := by simp [badNum, h48]
            refine .inr (.inr (.inr ⟨hlt, hkk, ?_, ?_, ?_⟩))
            · rw [hd]; intro h; exact h48 (UInt8.toNat_inj.1 (by show d.toNat = 48; omega))
            · rw [cN, h2, hb, h7]; rfl
            · rw [cP, h2, hb, h3]; exact hpt
      clear hmore
      rcases hstop with hst | ⟨hlt, hst | hst⟩
      · have hst2 : ¬ k < s.size := by omega
        rcases hcases with ⟨q1, q2, q3⟩ | ⟨q1, q2, q3⟩ | ⟨qlt, q1, q4, q2, q3⟩ | ⟨qlt, q1, q4, q2, q3⟩
        · have HF := hide0 (And.intro q2 q3)
          clear q2 q3
          have hqb : ((k : Int) == (k0 : Int)) = true := by simp; omega
          clear hst HTD HD HSK HK0 q1
          go_wp2
          go_ret2
          exact ⟨ret_two (by rw [HF.out.1]) (by rw [HF.out.2]; rfl), rfl⟩
        · have HF := hide0 (And.intro q2 q3)
          clear q2 q3
          have hqb : ((k : Int) == (k0 : Int)) = false := by simp; omega
          have hqc : ¬ (k0 : Int) + 1 < (k : Int) := by omega
          clear hst HTD HD HSK HK0 q1
          go_wp2
          go_ret2
          exact ⟨ret_two (by rw [HF.out.1]) (by rw [HF.out.2]), rfl⟩
        · have HF := hide0 (And.intro q2 q3)
          clear q2 q3
          have hqb : ((k : Int) == (k0 : Int)) = false := by simp; omega
          have hqc : (k0 : Int) + 1 < (k : Int) := by omega
          clear hst HTD HD HSK HK0 q1
          go_wp2
          go_ret2
          exact ⟨ret_two (by rw [HF.out.1]) (by rw [HF.out.2]; rfl), rfl⟩
        · have HF := hide0 (And.intro q2 q3)
          clear q2 q3
          have hqb : ((k : Int) == (k0 : Int)) = false := by simp; omega
          have hqc : (k0 : Int) + 1 < (k : Int) := by omega
          have hqd : ((s[k0].toNat : Int) == 48) = false := by simp [q4]
          clear hst HTD HD HSK HK0 q1
          go_wp2
          go_ret2
          exact ⟨ret_two (by rw [HF.out.1]) (by rw [HF.out.2]), rfl⟩
      · rcases hcases with ⟨q1, q2, q3⟩ | ⟨q1, q2, q3⟩ | ⟨qlt, q1, q4, q2, q3⟩ | ⟨qlt, q1, q4, q2, q3⟩
        · have HF := hide0 (And.intro q2 q3)
          clear q2 q3
          have hqb : ((k : Int) == (k0 : Int)) = true := by simp; omega
          clear HTD HD HSK HK0 q1
          go_wp2
          go_ret2
          exact ⟨ret_two (by rw [HF.out.1]) (by rw [HF.out.2]; rfl), rfl⟩
        · have HF := hide0 (And.intro q2 q3)
          clear q2 q3
          have hqb : ((k : Int) == (k0 : Int)) = false := by simp; omega
          have hqc : ¬ (k0 : Int) + 1 < (k : Int) := by omega
          clear HTD HD HSK HK0 q1
          go_wp2
          go_ret2
          exact ⟨ret_two (by rw [HF.out.1]) (by rw [HF.out.2]), rfl⟩
        · have HF := hide0 (And.intro q2 q3)
          clear q2 q3
          have hqb : ((k : Int) == (k0 : Int)) = false := by simp; omega
          have hqc : (k0 : Int) + 1 < (k : Int) := by omega
          clear HTD HD HSK HK0 q1
          go_wp2
          go_ret2
          exact ⟨ret_two (by rw [HF.out.1]) (by rw [HF.out.2]; rfl), rfl⟩
        · have HF := hide0 (And.intro q2 q3)
          clear q2 q3
          have hqb : ((k : Int) == (k0 : Int)) = false := by simp; omega
          have hqc : (k0 : Int) + 1 < (k : Int) := by omega
          have hqd : ((s[k0].toNat : Int) == 48) = false := by simp [q4]
          clear HTD HD HSK HK0 q1
          go_wp2
          go_ret2
          exact ⟨ret_two (by rw [HF.out.1]) (by rw [HF.out.2]), rfl⟩
      · have hst2 : 48 ≤ (s[k].toNat : Int) := by omega
        rcases hcases with ⟨q1, q2, q3⟩ | ⟨q1, q2, q3⟩ | ⟨qlt, q1, q4, q2, q3⟩ | ⟨qlt, q1, q4, q2, q3⟩
        · have HF := hide0 (And.intro q2 q3)
          clear q2 q3
          have hqb : ((k : Int) == (k0 : Int)) = true := by simp; omega
          clear HTD HD HSK HK0 q1
          go_wp2
          go_ret2
          exact ⟨ret_two (by rw [HF.out.1]) (by rw [HF.out.2]; rfl), rfl⟩
        · have HF := hide0 (And.intro q2 q3)
          clear q2 q3
          have hqb : ((k : Int) == (k0 : Int)) = false := by simp; omega
          have hqc : ¬ (k0 : Int) + 1 < (k : Int) := by omega
          clear HTD HD HSK HK0 q1
          go_wp2
          go_ret2
          exact ⟨ret_two (by rw [HF.out.1]) (by rw [HF.out.2]), rfl⟩
        · have HF := hide0 (And.intro q2 q3)
          clear q2 q3
          have hqb : ((k : Int) == (k0 : Int)) = false := by simp; omega
          have hqc : (k0 : Int) + 1 < (k : Int) := by omega
          clear HTD HD HSK HK0 q1
          go_wp2
          go_ret2
          exact ⟨ret_two (by rw [HF.out.1]) (by rw [HF.out.2]; rfl), rfl⟩
        · have HF := hide0 (And.intro q2 q3)
          clear q2 q3
          have hqb : ((k : Int) == (k0 : Int)) = false := by simp; omega
          have hqc : (k0 : Int) + 1 < (k : Int) := by omega
          have hqd : ((s[k0].toNat : Int) == 48) = false := by simp [q4]
          clear HTD HD HSK HK0 q1
          go_wp2
          go_ret2
          exact ⟨ret_two (by rw [HF.out.1]) (by rw [HF.out.2]), rfl⟩
end Go.Proofs.YtdjllnhahhjgmaaGreatDoor
namespace Go.Proofs.YtdjllnhahhjgmaaGreatDoor
open Go.RowKit Chron
def strV (l : List (List UInt8)) : List Value := l.map fun s => .string (ba s)
def tT : Option (List (List UInt8) × List UInt8) → List (List UInt8)
  | some (l, _) => l
  | none => []
def tP : Option (List (List UInt8) × List UInt8) → Option (List UInt8)
  | some (_, r) => some r
  | none => none
theorem qP_some {o : Option (List UInt8 × List UInt8)} {r : List UInt8} (h : qP o = some r) : ∃ b, o = some (b, r) := by
  match o, h with
  | some (b, r'), h => simp only [qP, Option.some.injEq] at h; subst h; exact ⟨b, rfl⟩
theorem pos_neg {s : ByteArray} {o : Option (List UInt8)} (h : ∀ r, o = some r → Suf s r) : (pos s o < 0 ∧ o = none) ∨ (0 ≤ pos s o ∧ ∃ r, o = some r) := by
  cases o with
  | none => exact .inl ⟨by simp [pos], rfl⟩
  | some r => exact .inr ⟨by have := (h r rfl).le; simp only [pos]; omega, r, rfl⟩
set_option maxRecDepth 100000 in
set_option maxHeartbeats 2000000 in
theorem tagsRef_any (s : ByteArray) (o : Option (List UInt8)) (w : World) (h : ∀ r, o = some r → Suf s r) (hs : s.size ≤ 1048576) :
    Calls Tryz.prog 110 #[.string s, .int .i64 (pos s o)] w fun e w' => ∃ v, e = .returned (.tuple #[v, .int .i64 (pos s (tP (o.bind tagsL)))]) ∧ w'.ownsRow w.heap.size 9 1 v (tT (o.bind tagsL)).length (strV (tT (o.bind tagsL))) ∧ Below w.heap.size w w' := by
  obtain ⟨i0, hi, hz0, hz1, hz2⟩ := info_parts infoText
  have hS1 := sign_pos s o 91 91 rfl w h hs
  cases hq : o.bind (signL 91) with
  | none =>
    have HF : Hid (o.bind tagsL = none) := by
      cases o with
      | none => rfl
      | some r => simp only [Option.bind_some] at hq ⊢; rw [Hid, tagsL, listL, hq]
    rw [hq] at hS1
    have hS2 := sign_no s 93 w
    have hm : pos s none = -1 := rfl
    rw [hm] at hS1
    go_enter Tryz.func110, Tryz.ntmps110
    go_wp2_with fail
    refine hS1.mono ?_
    rintro e w1 ⟨rfl, hw1⟩
    have hw2 := hw1.symm
    subst hw2
    clear hw1 hS1
    go_wp2_with fail
    refine hS2.mono ?_
    rintro e w2 ⟨rfl, hw3⟩
    have hw4 := hw3.symm
    subst hw4
    clear hw3 hS2
    go_wp2
    go_ret2
    exact ⟨_, by rw [HF.out]; rfl, by rw [HF.out]; exact World.ownsRow_nil _ _ _ _, Below.refl _ _⟩
  | some r =>
    have hr : Suf s r := by
      cases o with
      | none => cases hq
      | some r0 => exact (h r0 rfl).trans (sign_suf hq).1
    rw [hq] at hS1
    have hS2 := sign_any s r 93 93 rfl w hr hs
    have hpr : 0 ≤ pos s (some r) := by have := hr.le; simp only [pos]; omega
    cases hq2 : signL 93 r with
    | some r2 =>
      have HF : Hid (o.bind tagsL = some ([], r2)) := by
        cases o with
        | none => cases hq
        | some r0 => simp only [Option.bind_some] at hq ⊢; rw [Hid, tagsL, listL, hq]; simp only [hq2]
      have hp2 : 0 ≤ pos s (some r2) := by have := (hr.trans (sign_suf hq2).1).le; simp only [pos]; omega
      rw [hq2] at hS2
      generalize pos s (some r) = p1 at hS1 hS2 hpr
      obtain ⟨p2, hp2e, HP2⟩ : ∃ p2, pos s (some r2) = p2 ∧ Hid (pos s (some r2) = p2) := ⟨_, rfl, rfl⟩
      rw [hp2e] at hS2 hp2
      clear hp2e
      go_enter Tryz.func110, Tryz.ntmps110
      go_wp2_with fail
      refine hS1.mono ?_
      rintro e w1 ⟨rfl, hw1⟩
      have hw2 := hw1.symm
      subst hw2
      clear hw1 hS1
      go_wp2_with fail
      refine hS2.mono ?_
      rintro e w2 ⟨rfl, hw3⟩
      have hw4 := hw3.symm
      subst hw4
      clear hw3 hS2
      go_wp2
      go_ret2
      exact ⟨_, by rw [HF.out]; show _ = Ending.returned (.tuple #[_, .int .i64 (pos s (some r2))]); rw [HP2.out]; rfl, by rw [HF.out]; exact World.ownsRow_nil _ _ _ _, Below.refl _ _⟩
    | none =>
      have HF : Hid (o.bind tagsL = itemsL quoteL quote_one r) := by
        cases o with
        | none => cases hq
        | some r0 => simp only [Option.bind_some] at hq ⊢; rw [Hid, tagsL, listL, hq]; simp only [hq2]
      rw [hq2] at hS2
      have hm : pos s none = -1 := rfl
      rw [hm] at hS2
      obtain ⟨p1, hp1e, HP1⟩ : ∃ p1, pos s (some r) = p1 ∧ Hid (pos s (some r) = p1) := ⟨_, rfl, rfl⟩
      rw [hp1e] at hS1 hS2 hpr
      clear hp1e
      go_enter Tryz.func110, Tryz.ntmps110
      go_wp2_with fail
      refine hS1.mono ?_
      rintro e w1 ⟨rfl, hw1⟩
      have hw2 := hw1.symm
      subst hw2
      clear hw1 hS1
      go_wp2_with fail
      refine hS2.mono ?_
      rintro e w2 ⟨rfl, hw3⟩
      have hw4 := hw3.symm
      subst hw4
      clear hw3 hS2
      go_wp2_with fail
      go_loopw [1, 7] (fun i v wx => ∃ (t : List UInt8) (acc : List (List UInt8)) (p : Int), i = .int .i64 p ∧ Hid (p = pos s (some t)) ∧ acc.length ≤ 1048576 ∧ Hid (Suf s t ∧ acc.length + t.length ≤ s.size ∧ itemsL quoteL quote_one r = (itemsL quoteL quote_one t).map fun q => (acc ++ q.1, q.2)) ∧ wx.ownsRow w.heap.size 9 1 v acc.length (strV acc) ∧ Below w.heap.size w wx) (fun i _ _ => left s.size (intOf i))
      case atStart => exact ⟨r, [], p1, rfl, HP1.out.symm, by decide, ⟨hr, by have := hr.le; simpa using this, by simp⟩, World.ownsRow_nil _ _ _ _, Below.refl _ _⟩
      case round =>
        obtain ⟨t, acc, p, rfl, HP, hacc, HI, hown, hbl⟩ := hrel
        have hsz := hbl.size
        have HB := hide0 hbl
        have hst := HI.out.1
        have hQ := quoteRef_any s (some t) wr (fun x hx => by rw [← Option.some.inj hx]; exact hst) hs
        rw [Option.bind_some, ← HP.out] at hQ
        clear hbl
        cases hqt : quoteL t with
        | none =>
          have HR : Hid (o.bind tagsL = none) := by rw [HF.out, HI.out.2.2, items_none hqt]; exact rfl
          rw [hqt] at hQ
          have hm1 : pos s (qP none) = -1 := rfl
          rw [hm1] at hQ
          clear hown
          go_wp2_with fail
          refine hQ.mono ?_
          rintro e w3 ⟨rfl, hb3⟩
          go_wp2
          go_ret2
          exact ⟨_, by rw [HR.out]; rfl, by rw [HR.out]; exact World.ownsRow_nil _ _ _ _, HB.out.trans (hb3.mono hsz)⟩
        | some q =>
          obtain ⟨b, t1⟩ := q
          have hsq := quote_suf hqt
          have hst1 : Suf s t1 := hst.trans hsq.1
          have hlt1 := hsq.2.1
          rw [hqt] at hQ
          obtain ⟨p3, hp3, HP3⟩ : ∃ p3, pos s (some t1) = p3 ∧ Hid (pos s (some t1) = p3) := ⟨_, rfl, rfl⟩
          have hp3n : 0 ≤ p3 := by rw [← hp3]; have := hst1.le; simp only [pos]; omega
          have hm1 : pos s (qP (some (b, t1))) = p3 := hp3
          have hm2 : qS (some (b, t1)) = ba b := rfl
          rw [hm1, hm2] at hQ
          have hSE := fun X => sign_any s t1 93 93 rfl X hst1 hs
          have hSC := fun X => sign_any s t1 44 44 rfl X hst1 hs
          rw [hp3] at hSE hSC
          have hacc1 : acc.length + 1 ≤ 1048576 := by have := HI.out.2.1; omega
          clear hp3 hm1 hm2
          have HIT : Hid (∀ z, itemsL quoteL quote_one t = z → o.bind tagsL = z.map fun q => (acc ++ q.1, q.2)) := fun z hz => by rw [HF.out, HI.out.2.2, hz]
          cases hqe : signL 93 t1 with
          | some r3 =>
            have h44 := sign_other (d := 44) hqe (by decide)
            have HR : Hid (o.bind tagsL = some (acc ++ [b], r3)) := HIT.out (some ([b], r3)) (by rw [items_last hqt h44, hqe]; rfl)
            have hp4n : 0 ≤ pos s (some r3) := by have := (hst1.trans (sign_suf hqe).1).le; simp only [pos]; omega
            rw [hqe] at hSE
            obtain ⟨p4, hp4, HP4⟩ : ∃ p4, pos s (some r3) = p4 ∧ Hid (pos s (some r3) = p4) := ⟨_, rfl, rfl⟩
            rw [hp4] at hSE hp4n
            clear hp4 hSC h44
            go_wp2_with fail
            refine hQ.mono ?_
            rintro e w3 ⟨rfl, hb3⟩
            have hs3 := hb3.size
            have hown3 := own_below hown hb3
            clear hQ
            go_wp2_with (first
              | (at_builtin; refine wpList_append_own _ rfl _ _ 22 rfl w.heap.size 9 i0 (.string ⟨#[]⟩) 1 16 Tryz.underlying22 hi hz0 hz1 hz2 rfl (by decide) _ _ _ rfl (hown3.alloc _) ⟨w3.heap.size, 0, none⟩ 1 1 [_] rfl rfl (cell_one_new _ _ _) (one_string _) ?c3 ?c4 ?c5 ?_)
              | (go_at_call 45; refine (hSE _).mono ?_; rintro e w5 ⟨rfl, hw5⟩; have hw6 := hw5.symm; subst hw6; clear hw5))
            case c3 => unfold maxLen; omega
            case c4 => omega
            case c5 => first | omega | (simp; omega)
            intro v' w4 hown' hgrow _
            have HB4 := hide0 (Below.grown ((HB.out.trans (hb3.mono hsz)).alloc (by omega) _) hgrow (by simp; omega) (fun j hj => by have := (hown3.lt _ hj).1; omega))
            go_wp2_with fail
            refine (hSE _).mono ?_
            rintro e w5 ⟨rfl, hw5⟩
            have hw6 := hw5.symm
            subst hw6
            clear hw5 hSE
            go_wp2
            go_ret2
            exact ⟨_, by rw [HR.out]; show _ = Ending.returned (.tuple #[_, .int .i64 (pos s (some r3))]); rw [HP4.out]; rfl, by rw [HR.out]; simpa [tT, strV] using hown', HB4.out⟩
          | none =>
            rw [hqe] at hSE
            have hm3 : pos s none = -1 := rfl
            rw [hm3] at hSE
            cases hqc : signL 44 t1 with
            | none =>
              have HR : Hid (o.bind tagsL = none) := HIT.out none (by rw [items_last hqt hqc, hqe]; rfl)
              rw [hqc, hm3] at hSC
              go_wp2_with fail
              refine hQ.mono ?_
              rintro e w3 ⟨rfl, hb3⟩
              have hs3 := hb3.size
              have hown3 := own_below hown hb3
              clear hQ
              go_wp2_with (first
                | (at_builtin; refine wpList_append_own _ rfl _ _ 22 rfl w.heap.size 9 i0 (.string ⟨#[]⟩) 1 16 Tryz.underlying22 hi hz0 hz1 hz2 rfl (by decide) _ _ _ rfl (hown3.alloc _) ⟨w3.heap.size, 0, none⟩ 1 1 [_] rfl rfl (cell_one_new _ _ _) (one_string _) ?c3 ?c4 ?c5 ?_))
              case c3 => unfold maxLen; omega
              case c4 => omega
              case c5 => first | omega | (simp; omega)
              intro v' w4 hown' hgrow _
              have HB4 := hide0 (Below.grown ((HB.out.trans (hb3.mono hsz)).alloc (by omega) _) hgrow (by simp; omega) (fun j hj => by have := (hown3.lt _ hj).1; omega))
              go_wp2_with fail
              refine (hSE _).mono ?_
              rintro e w5 ⟨rfl, hw5⟩
              have hw6 := hw5.symm
              subst hw6
              clear hw5
              go_wp2_with fail
              refine (hSC _).mono ?_
              rintro e w7 ⟨rfl, hw7⟩
              have hw8 := hw7.symm
              subst hw8
              clear hw7 hSE hSC
              go_wp2
              go_ret2
              exact ⟨_, by rw [HR.out]; rfl, by rw [HR.out]; exact World.ownsRow_nil _ _ _ _, HB4.out⟩
            | some t2 =>
              have hst2 := hst1.trans (sign_suf hqc).1
              have hlt2 := (sign_suf hqc).2
              have HN : Hid (Suf s t2 ∧ (acc ++ [b]).length + t2.length ≤ s.size ∧ itemsL quoteL quote_one r = (itemsL quoteL quote_one t2).map fun q => ((acc ++ [b]) ++ q.1, q.2)) := by
                refine ⟨hst2, by have := HI.out.2.1; simp; omega, ?_⟩
                rw [HI.out.2.2, items_more hqt hqc, Option.map_map]
                congr 1
                funext q
                simp
              rw [hqc] at hSC
              obtain ⟨p5, hp5, HP5⟩ : ∃ p5, pos s (some t2) = p5 ∧ Hid (pos s (some t2) = p5) := ⟨_, rfl, rfl⟩
              have hp5n : 0 ≤ p5 := by rw [← hp5]; have := hst2.le; simp only [pos]; omega
              have HM : Hid (left s.size p5 < left s.size p) := by
                have h1 := HP5.out
                have h2 := HP.out
                have h3 := hst2.le
                have h4 := hst.le
                simp only [pos] at h1 h2
                show left s.size p5 < left s.size p
                simp only [left]
                rw [if_neg (by omega), if_neg (by omega)]
                omega
              rw [hp5] at hSC
              clear hp5
              go_wp2_with fail
              refine hQ.mono ?_
              rintro e w3 ⟨rfl, hb3⟩
              have hs3 := hb3.size
              have hown3 := own_below hown hb3
              clear hQ
              go_wp2_with (first
                | (at_builtin; refine wpList_append_own _ rfl _ _ 22 rfl w.heap.size 9 i0 (.string ⟨#[]⟩) 1 16 Tryz.underlying22 hi hz0 hz1 hz2 rfl (by decide) _ _ _ rfl (hown3.alloc _) ⟨w3.heap.size, 0, none⟩ 1 1 [_] rfl rfl (cell_one_new _ _ _) (one_string _) ?c3 ?c4 ?c5 ?_))
              case c3 => unfold maxLen; omega
              case c4 => omega
              case c5 => first | omega | (simp; omega)
              intro v' w4 hown' hgrow _
              have HB4 := hide0 (Below.grown ((HB.out.trans (hb3.mono hsz)).alloc (by omega) _) hgrow (by simp; omega) (fun j hj => by have := (hown3.lt _ hj).1; omega))
              go_wp2_with fail
              refine (hSE _).mono ?_
              rintro e w5 ⟨rfl, hw5⟩
              have hw6 := hw5.symm
              subst hw6
              clear hw5
              go_wp2_with fail
              refine (hSC _).mono ?_
              rintro e w7 ⟨rfl, hw7⟩
              have hw8 := hw7.symm
              subst hw8
              clear hw7 hSE hSC
              go_wp2
              go_roundw
              case rel => exact ⟨t2, acc ++ [b], p5, rfl, HP5.out.symm, by simp; omega, HN, by simpa [strV] using hown', HB4.out⟩
              case measure => exact HM.out
end Go.Proofs.YtdjllnhahhjgmaaGreatDoor
namespace Go.Proofs.YtdjllnhahhjgmaaGreatDoor
open Go.RowKit Chron
theorem cut_one (s : ByteArray) (k : Nat) (h : k < s.size) : (s.data.toList.drop k).take 1 = [s[k]] := by
  have hl : k < s.data.toList.length := by simpa using h
  rw [List.drop_eq_getElem_cons hl]; rfl
def wordCells : Array Value := #[.string ⟨#[98, 101, 103, 117, 110]⟩, .string ⟨#[100, 111, 110, 101]⟩, .string ⟨#[102, 97, 105, 108, 101, 100]⟩, .string ⟨#[110, 111, 116, 101, 100]⟩]
set_option maxRecDepth 100000 in
theorem words_any (w : World) : Calls Tryz.prog 109 #[] w fun e w' => e = .returned (.slice (some ⟨w.heap.size, 0, none⟩) 4 4) ∧ w' = w.alloc (.cells #[.string ⟨#[98, 101, 103, 117, 110]⟩, .string ⟨#[100, 111, 110, 101]⟩, .string ⟨#[102, 97, 105, 108, 101, 100]⟩, .string ⟨#[110, 111, 116, 101, 100]⟩] 9) := by
  go_enter Tryz.func109, Tryz.ntmps109
  go_wp2
  go_ret
  exact ⟨rfl, rfl⟩
end Go.Proofs.YtdjllnhahhjgmaaGreatDoor
