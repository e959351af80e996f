/- Walks and plain facts, in the order in which they lean on one another. -/
import Derived.Test.YtdjllnhahhjgmaaGreatDoorW05
import Derived.Lib.ConvBytes
import Derived.Lib.AtoiErrMem
import Derived.Lib.IfaceEq
import Derived.Laws.Closers25
import Derived.Laws.Closers25b
import Derived.Shelf.Pu.SyntaxError
import Derived.Test.YtdjllnhahhjgmaaGreatDoorW01
import Derived.Deep.RegionWith
import Derived.Test.YtdjllnhahhjgmaaGreatDoorW04
import Derived.Lib.LaidTab
import Derived.Lib.AppendIntMem
import Derived.WalkSmall
namespace Go.Proofs.YtdjllnhahhjgmaaGreatDoor
open Go.RowKit Chron
def hexN : Nat → List UInt8 → Option Nat
  | acc, [] => some acc
  | acc, c :: r => match hexD c with
    | none => none
    | some d => hexN (16 * acc + d) r
def hexE (T : TypeId) : Option Nat → Value
  | some n => .tuple #[.int .u64 (n : Int), .nilIface]
  | none => .tuple #[.int .u64 0, .iface T (.int .i64 2)]
set_option maxRecDepth 100000 in
theorem low_all : ∀ n : Fin 256, bits .or .u8 ((n.val : Nat) : Int) 32 = ((n.val ||| 32 : Nat) : Int) := by decide
theorem low_eq (c : UInt8) : bits .or .u8 (c.toNat : Int) 32 = ((c.toNat ||| 32 : Nat) : Int) := low_all ⟨c.toNat, c.toNat_lt⟩
def hexF (n : Nat) : Option Nat := if 48 ≤ n ∧ n ≤ 57 then some (n - 48) else if 97 ≤ n ∧ n ≤ 102 then some (n - 87) else if 65 ≤ n ∧ n ≤ 70 then some (n - 55) else none
theorem hexD_F (c : UInt8) : hexD c = hexF c.toNat := rfl
set_option maxRecDepth 100000 in
theorem low_hex : ∀ n : Fin 256, ¬ (48 ≤ n.val ∧ n.val ≤ 57) → (n.val ||| 32 ≤ 255) ∧ (97 ≤ n.val ||| 32 → n.val ||| 32 ≤ 102 → hexF n.val = some ((n.val ||| 32) - 87) ∧ n.val ≠ 95) ∧ ((¬ 97 ≤ n.val ||| 32) ∨ 102 < n.val ||| 32 → hexF n.val = none) ∧ (97 ≤ n.val ||| 32 → n.val ||| 32 ≤ 122 → n.val ≠ 95) := by decide
theorem low_fact (c : UInt8) (h : ¬ (48 ≤ c.toNat ∧ c.toNat ≤ 57)) : ∃ z : Nat, bits .or .u8 (c.toNat : Int) 32 = (z : Int) ∧ z ≤ 255 ∧ (97 ≤ z → z ≤ 102 → hexD c = some (z - 87) ∧ c.toNat ≠ 95) ∧ ((¬ 97 ≤ z) ∨ 102 < z → hexD c = none) ∧ (97 ≤ z → z ≤ 122 → c.toNat ≠ 95) :=
  ⟨c.toNat ||| 32, low_eq c, (low_hex ⟨c.toNat, c.toNat_lt⟩ h)⟩
theorem lower_any (c : Int) (w : World) : Calls Tryz.prog 193 #[.int .u8 c] w fun e w' => e = .returned (.int .u8 (bits .or .u8 c 32)) ∧ w' = w := by
  go_enter Tryz.func193, Tryz.ntmps193
  go_wp2
  go_ret
  exact ⟨rfl, rfl⟩
set_option maxRecDepth 100000 in
set_option maxHeartbeats 8000000 in
theorem parseHex_any (t : ByteArray) (w : World) (hne : t.size ≠ 0) (hmax : t.size ≤ 2) :
    Calls Tryz.prog 187 #[.string t, .int .i64 16, .int .i64 8] w fun e w' => e = .returned (hexE 226 (hexN 0 t.data.toList)) ∧ Below w.heap.size w w' := by
  have hemp : t.toList.isEmpty = false := by
    rw [← decide_eq_emptyBytes]
    exact decide_eq_false (fun h => hne (by rw [h]; rfl))
  have hcv := Lib.run_convert_string_bytes (P := Tryz.prog) w 9 63 5 t (u := .string) Tryz.underlying9 Tryz.underlying63 Tryz.underlying5
  have hB : ∀ j, j < t.size → (Lib.bytesWorld w 5 t).cell? ⟨w.heap.size, j, none⟩ = some (.int .u8 (t.data.toList.getD j 0).toNat) := fun j hj => Lib.bytesWorld_cell w 5 t j hj
  have HBW := hide0 (Lib.bytesWorld_below w 5 t)
  generalize Lib.bytesWorld w 5 t = W1 at hcv hB HBW
  obtain ⟨bs, hL⟩ : ∃ bs, bs = t.data.toList := ⟨_, rfl⟩
  have hLn : bs.length = t.size := by rw [hL, Lib.size_eq]
  rw [← hL] at hB ⊢
  clear hL
  go_enter Tryz.func187, Tryz.ntmps187
  go_wp2
  go_loop [12, 13, 101] (fun vu vn vi => ∃ (k acc : Nat) (a : Int), vu = .bool false ∧ vn = .int .u64 a ∧ vi = .int .i64 k ∧ k ≤ t.size ∧ Hid (a = (acc : Int) ∧ acc < 16 ^ k ∧ hexN 0 bs = hexN acc (bs.drop k)))
    (fun _ _ vi => t.size - (intOf vi).toNat)
  case atStart => exact ⟨0, 0, 0, rfl, rfl, rfl, by omega, rfl, by decide, rfl⟩
  case round =>
    obtain ⟨k, acc, a, rfl, rfl, rfl, hk, hh⟩ := hrel
    obtain ⟨ha, hacc, hdec⟩ := hh.out
    clear hh
    by_cases hkn : k < t.size
    · have hc := hB k hkn
      have hdrop : bs.drop k = bs[k]'(by omega) :: bs.drop (k + 1) := List.drop_eq_getElem_cons (by omega)
      have hget : bs.getD k 0 = bs[k]'(by omega) := by simp [List.getD, List.getElem?_eq_getElem (show k < bs.length by omega)]
      rw [hdrop] at hdec
      rw [hget] at hc
      generalize bs[k]'(by omega) = c at hc hdec
      have hc256 : c.toNat < 256 := c.toNat_lt
      have hacc16 : acc < 16 := by
        have : 16 ^ k ≤ 16 ^ 1 := Nat.pow_le_pow_right (by decide) (by omega)
        omega
      have a0 : 0 ≤ a := by omega
      have a1 : a < 16 := by omega
      have HN0 : Hid (a = (acc : Int) ∧ acc < 16 ^ k ∧ hexN 0 bs = hexN acc (c :: bs.drop (k + 1))) := ⟨ha, hacc, hdec⟩
      clear hB hdrop hget ha hacc hdec hacc16
      have next : ∀ (d : Nat), hexD c = some d → Hid (a * 16 + (d : Int) = ((16 * acc + d : Nat) : Int) ∧ 16 * acc + d < 16 ^ (k + 1) ∧ hexN 0 bs = hexN (16 * acc + d) (bs.drop (k + 1))) := by
        intro d hd
        have h16 := hex_lt hd
        obtain ⟨h1, h2, h3⟩ := HN0.out
        refine ⟨by omega, by rw [Nat.pow_succ]; omega, ?_⟩
        rw [h3, hexN, hd]
      by_cases hdig : 48 ≤ c.toNat ∧ c.toNat ≤ 57
      · have HN := next (c.toNat - 48) (by rw [hexD, if_pos hdig])
        obtain ⟨hd0, hd1⟩ := hdig
        have HE : Hid ((c.toNat : Int) - 48 = ((c.toNat - 48 : Nat) : Int)) := by show _ = _; omega
        clear next
        go_wp2
        go_round
        case rel => exact ⟨k + 1, 16 * acc + (c.toNat - 48), a * 16 + ((c.toNat - 48 : Nat) : Int), rfl, by first | (rw [← HE.out]; done) | (rw [← HE.out]; go_num), by go_num, by omega, HN⟩
        case measure => simp [intOf]; omega
      · obtain ⟨z, hz, hz255, hy, hn, h95⟩ := low_fact c hdig
        have hLow := fun X => lower_any (c.toNat : Int) X
        rw [hz] at hLow
        have hz255' : (z : Int) ≤ 255 := by omega
        have HDG := hide0 hdig
        have HNX := hide0 next
        have bad : hexD c = none → Hid (hexN 0 bs = none) := by
          intro h
          rw [Hid, HN0.out.2.2, hexN, h]
        have HBAD := hide0 bad
        clear hz hdig next bad
        by_cases h97 : 97 ≤ z
        · by_cases h122 : z ≤ 122
          · have hc95 : ((c.toNat : Int) == 95) = false := by have := h95 h97 h122; simp; omega
            by_cases h102 : z ≤ 102
            · obtain ⟨hd, _⟩ := hy h97 h102
              have HN := HNX.out (z - 87) hd
              have i97 : (97 : Int) ≤ z := by omega
              have i122 : (z : Int) ≤ 122 := by omega
              have i102 : (z : Int) ≤ 102 := by omega
              have HE : Hid ((z : Int) - 97 + 10 = ((z - 87 : Nat) : Int)) := by show _ = _; omega
              clear hy hn h95 h97 h122 h102 hd HNX HBAD
              by_cases h48 : (48 : Int) ≤ (c.toNat : Int)
              · have h57 : ¬ (c.toNat : Int) ≤ 57 := by have := HDG.out; omega
                go_wp2_with (go_at_call 193; refine (hLow _).mono ?_; rintro e w' ⟨rfl, rfl⟩)
                go_round
                case rel => exact ⟨k + 1, 16 * acc + (z - 87), a * 16 + ((z - 87 : Nat) : Int), rfl, by first | (rw [← HE.out]; done) | (rw [← HE.out]; go_num), by go_num, by omega, HN⟩
                case measure => simp [intOf]; omega
              · go_wp2_with (go_at_call 193; refine (hLow _).mono ?_; rintro e w' ⟨rfl, rfl⟩)
                go_round
                case rel => exact ⟨k + 1, 16 * acc + (z - 87), a * 16 + ((z - 87 : Nat) : Int), rfl, by first | (rw [← HE.out]; done) | (rw [← HE.out]; go_num), by go_num, by omega, HN⟩
                case measure => simp [intOf]; omega
            · have HF := HBAD.out (hn (.inr (by omega)))
              have i97 : (97 : Int) ≤ z := by omega
              have i122 : (z : Int) ≤ 122 := by omega
              have i102 : (102 : Int) < z := by omega
              clear hy hn h95 h97 h122 h102 HNX HBAD
              by_cases h48 : (48 : Int) ≤ (c.toNat : Int)
              · have h57 : ¬ (c.toNat : Int) ≤ 57 := by have := HDG.out; omega
                go_wp2_with (go_at_call 193; refine (hLow _).mono ?_; rintro e w' ⟨rfl, rfl⟩)
                go_ret2
                exact ⟨by rw [HF.out]; rfl, HBW.out⟩
              · go_wp2_with (go_at_call 193; refine (hLow _).mono ?_; rintro e w' ⟨rfl, rfl⟩)
                go_ret2
                exact ⟨by rw [HF.out]; rfl, HBW.out⟩
          · have HF := HBAD.out (hn (.inr (by omega)))
            have i97 : (97 : Int) ≤ z := by omega
            have i122 : ¬ (z : Int) ≤ 122 := by omega
            clear hy hn h95 h97 h122 HNX HBAD
            by_cases h48 : (48 : Int) ≤ (c.toNat : Int)
            · have h57 : ¬ (c.toNat : Int) ≤ 57 := by have := HDG.out; omega
              cases h95 : ((c.toNat : Int) == 95)
              all_goals
                go_wp2_with (go_at_call 193; refine (hLow _).mono ?_; rintro e w' ⟨rfl, rfl⟩)
                go_ret2
                exact ⟨by rw [HF.out]; rfl, HBW.out⟩
            · have h95 : ((c.toNat : Int) == 95) = false := by simp; omega
              go_wp2_with (go_at_call 193; refine (hLow _).mono ?_; rintro e w' ⟨rfl, rfl⟩)
              go_ret2
              exact ⟨by rw [HF.out]; rfl, HBW.out⟩
        · have HF := HBAD.out (hn (.inl h97))
          have i97 : ¬ (97 : Int) ≤ z := by omega
          clear hy hn h95 h97 HNX HBAD
          by_cases h48 : (48 : Int) ≤ (c.toNat : Int)
          · have h57 : ¬ (c.toNat : Int) ≤ 57 := by have := HDG.out; omega
            cases h95 : ((c.toNat : Int) == 95)
            all_goals
              go_wp2_with (go_at_call 193; refine (hLow _).mono ?_; rintro e w' ⟨rfl, rfl⟩)
              go_ret2
              exact ⟨by rw [HF.out]; rfl, HBW.out⟩
          · have h95 : ((c.toNat : Int) == 95) = false := by simp; omega
            go_wp2_with (go_at_call 193; refine (hLow _).mono ?_; rintro e w' ⟨rfl, rfl⟩)
            go_ret2
            exact ⟨by rw [HF.out]; rfl, HBW.out⟩
    · have HF : Hid (hexN 0 bs = some acc) := by
        rw [Hid, hdec, List.drop_eq_nil_of_le (by omega)]; rfl
      have HA := hide0 ha
      clear hacc hdec ha
      go_wp2
      go_ret2
      exact ⟨by rw [HF.out, HA.out]; rfl, HBW.out⟩
end Go.Proofs.YtdjllnhahhjgmaaGreatDoor
namespace Go.Proofs.YtdjllnhahhjgmaaGreatDoor
open Go.RowKit Chron
def oC : Option (UInt8 × List UInt8) → UInt8
  | some (c, _) => c
  | none => 0
def oR : Option (UInt8 × List UInt8) → Option (List UInt8)
  | some (_, r) => some r
  | none => none
def nextL (l : List UInt8) : Option (UInt8 × List UInt8) :=
  match l with
  | [] => none
  | x :: r => some (x, r)
def escL (l : List UInt8) : Option (UInt8 × List UInt8) :=
  match l with
  | [] => none
  | c :: r2 => if c = 34 ∨ c = 92 ∨ c = 47 then some (c, r2) else if c = 117 then plainL (codedL r2) else none
theorem letter_esc (x : UInt8) (r : List UInt8) : letterL (x :: r) = if x = 92 then escL r else plainL (some (x, r)) := by
  unfold letterL escL
  rfl
def St (R : Nat) (w : World) (b : Bool) (o : Option (List UInt8)) : Prop := Rd R w (stL o) (stB b o)
theorem ret_u8 {a b : Int} (h : a = b) : Ending.returned (.int .u8 a) = .returned (.int .u8 b) := by rw [h]
set_option maxRecDepth 100000 in
theorem rnext_any (R : Nat) (l : List UInt8) (b : Bool) (w : World) (h : Hid (Rd R w l b)) (hl : l.length ≤ 1048576) :
    Calls Tryz.prog 132 #[.pointer (some ⟨R, 0, none⟩)] w fun e w' => e = .returned (.int .u8 ((oC (nextL l)).toNat : Int)) ∧ Hid (St R w' b (oR (nextL l))) ∧ Hid (Far w w' [some R]) := by
  cases l with
  | nil =>
    obtain ⟨c0, c1, cf⟩ := h.out.cells
    have he : (ba ([] : List UInt8)).toList = [] := ba_toList []
    go_enter Tryz.func132, Tryz.ntmps132
    go_wp2_with fail
    refine (fail_any R _ _ _ h).mono ?_
    rintro e w1 ⟨rfl, H1, HF1⟩
    go_wp2
    go_ret
    exact ⟨rfl, H1, HF1⟩
  | cons x r =>
    obtain ⟨S, HSE, hne, hle, hext, hlt, hb0⟩ : ∃ S, Hid (ba (x :: r) = S) ∧ (S.toList == []) = false ∧ S.size ≤ 1048576 ∧ S.extract 1 S.size = ba r ∧ ∃ hlt : 0 < S.size, S[0].toNat = x.toNat :=
      ⟨ba (x :: r), rfl, by rw [ba_toList]; rfl, by rw [ba_len]; omega, rest_bytes x r, by rw [ba_len]; simp, rfl⟩
    have HB0 := hide0 hb0
    clear hb0
    obtain ⟨c0, c1, cf⟩ := h.out.cells
    rw [HSE.out] at c0
    have H2 := hide0 (h.out.set (l' := r))
    go_enter Tryz.func132, Tryz.ntmps132
    go_wp2
    go_ret
    exact ⟨ret_u8 (by rw [HB0.out]; rfl), H2, (Far.refl w _).setCell (p := ⟨R, 0, none⟩) (.inl (by simp)) _⟩
set_option maxRecDepth 100000 in
theorem plain_any (R : Nat) (l : List UInt8) (b : Bool) (z : Int) (c : UInt8) (hz : z = (c.toNat : Int)) (w : World) (h : Hid (Rd R w l b)) :
    Calls Tryz.prog 134 #[.pointer (some ⟨R, 0, none⟩), .int .u8 z] w fun e w' => e = .returned (.int .u8 ((oC (plainL (some (c, l)))).toNat : Int)) ∧ Hid (St R w' b (oR (plainL (some (c, l))))) ∧ Hid (Far w w' [some R]) := by
  subst hz
  have hP := fun X => isPlain_any (c.toNat : Int) X
  have hd : decide (32 ≤ (c.toNat : Int) ∧ (c.toNat : Int) ≤ 126) = byteOk c := by
    rw [Bool.eq_iff_iff]; simp [byteOk]
  rw [hd] at hP
  cases hb : byteOk c with
  | true =>
    have HE : Hid (plainL (some (c, l)) = some (c, l)) := by rw [Hid, plainL]; simp [hb]
    rw [hb] at hP
    go_enter Tryz.func134, Tryz.ntmps134
    go_wp2_with fail
    refine (hP _).mono ?_
    rintro e w1 ⟨rfl, hw⟩
    have hw2 := hw.symm
    subst hw2
    clear hw
    go_wp2
    go_ret
    exact ⟨ret_u8 (by rw [HE.out]; rfl), by rw [HE.out]; exact h, Far.refl _ _⟩
  | false =>
    have HE : Hid (plainL (some (c, l)) = none) := by rw [Hid, plainL]; simp [hb]
    rw [hb] at hP
    go_enter Tryz.func134, Tryz.ntmps134
    go_wp2_with fail
    refine (hP _).mono ?_
    rintro e w1 ⟨rfl, hw⟩
    have hw2 := hw.symm
    subst hw2
    clear hw
    go_wp2_with fail
    refine (fail_any R _ _ _ h).mono ?_
    rintro e w1 ⟨rfl, H1, HF1⟩
    go_wp2
    go_ret
    exact ⟨ret_u8 (by rw [HE.out]; rfl), by rw [HE.out]; exact H1, HF1⟩
end Go.Proofs.YtdjllnhahhjgmaaGreatDoor
namespace Go.Proofs.YtdjllnhahhjgmaaGreatDoor
open Go.RowKit Chron
/- what the variable strconv.ErrSyntax holds: some error -/
def ErrV (w : World) : Prop := ∃ te pe, w.cell? ⟨8, 0, none⟩ = some (.iface te pe)
theorem ErrV.below {w w' : World} (h : ErrV w) (hb : Below w.heap.size w w') : ErrV w' := by
  obtain ⟨te, pe, h⟩ := h
  exact ⟨te, pe, (hb.cell (World.block_lt_of_cell? w _ h)).trans h⟩
set_option maxRecDepth 100000 in
set_option maxHeartbeats 4000000 in
theorem syntaxError_any (fn s : ByteArray) (w : World) (hs : s.size ≤ 2) (h : ErrV w) :
    Calls Tryz.prog 195 #[.string fn, .string s] w fun e w' => (∃ N, e = .returned (.pointer (some ⟨N, 0, none⟩))) ∧ Below w.heap.size w w' := by
  obtain ⟨te, pe, hv⟩ := h
  have hG := World.block_lt_of_cell? w _ hv
  have hvd : w.drew.cell? ⟨8, 0, none⟩ = some (.iface te pe) := hv
  go_enter Tryz.func195, Tryz.ntmps195
  go_wp2_with fail
  go_region_with (
    go_at_call 118
    refine (Tryz.stringslite_Clone s _ (by omega)).mono ?_
    rintro e w2 ⟨rfl, hbel⟩
    have hv2 : w2.cell? ⟨8, 0, none⟩ = some (.iface te pe) := (hbel.cell (show (⟨8, 0, none⟩ : Addr).block < w.drew.heap.size from hG)).trans hvd)
  all_goals
    go_wp2
    go_ret
    exact ⟨⟨_, rfl⟩, ((Below.drew (Below.refl _ w)).trans hbel).alloc hbel.size _⟩
set_option maxRecDepth 100000 in
set_option maxHeartbeats 4000000 in
theorem toError_any (fn s : ByteArray) (w : World) (hs : s.size ≤ 2) (h : ErrV w) :
    Calls Tryz.prog 188 #[.string fn, .string s, .int .i64 16, .int .i64 8, .iface 226 (.int .i64 2)] w fun e w' => (∃ te pe, e = .returned (.iface te pe)) ∧ Below w.heap.size w w' := by
  have heq : ∀ W, (binOp .eql 118 (.iface 226 (.int .i64 2)) (.iface 226 (.int .i64 2))).run Tryz.prog W = .ok (.bool true) W := fun W => Lib.run_eql_iface_int W 2 2 Tryz.underlying118 (by kernel_rfl) Tryz.underlying226
  go_enter Tryz.func188, Tryz.ntmps188
  go_wp2_with fail
  refine (syntaxError_any fn s _ hs h).mono ?_
  rintro e w2 ⟨⟨N, rfl⟩, hb⟩
  go_wp2
  go_ret
  exact ⟨⟨_, _, rfl⟩, hb⟩
set_option maxRecDepth 100000 in
set_option maxHeartbeats 4000000 in
theorem parseUint_any (t : ByteArray) (w : World) (hne : t.size ≠ 0) (hmax : t.size ≤ 2) (h : ErrV w) :
    Calls Tryz.prog 173 #[.string t, .int .i64 16, .int .i64 8] w fun e w' => (match hexN 0 t.data.toList with | some n => e = .returned (.tuple #[.int .u64 (n : Int), .nilIface]) | none => ∃ x te pe, e = .returned (.tuple #[.int .u64 x, .iface te pe])) ∧ Below w.heap.size w w' := by
  have hP := parseHex_any t w hne hmax
  cases hq : hexN 0 t.data.toList with
  | some n =>
    rw [hq] at hP
    have he : hexE 226 (some n) = .tuple #[.int .u64 (n : Int), .nilIface] := rfl
    rw [he] at hP
    clear he
    go_enter Tryz.func173, Tryz.ntmps173
    go_wp2_with fail
    refine hP.mono ?_
    rintro e w2 ⟨rfl, hb⟩
    go_wp2
    go_ret2
    exact ⟨rfl, hb⟩
  | none =>
    rw [hq] at hP
    have he : hexE 226 none = .tuple #[.int .u64 0, .iface 226 (.int .i64 2)] := rfl
    rw [he] at hP
    clear he
    go_enter Tryz.func173, Tryz.ntmps173
    go_wp2_with fail
    refine hP.mono ?_
    rintro e w2 ⟨rfl, hb⟩
    go_wp2_with fail
    refine (toError_any _ t _ hmax (h.below hb)).mono ?_
    rintro e w3 ⟨⟨te, pe, rfl⟩, hb3⟩
    go_wp2
    go_ret2
    exact ⟨⟨_, _, _, rfl⟩, hb.trans (hb3.mono hb.size)⟩
end Go.Proofs.YtdjllnhahhjgmaaGreatDoor
namespace Go.Proofs.YtdjllnhahhjgmaaGreatDoor
open Go.RowKit Chron
theorem byteCells_push (l : List UInt8) (c : UInt8) : Lib.byteCells l ++ [.int .u8 (c.toNat : Int)] = Lib.byteCells (l ++ [c]) := by simp [Lib.byteCells]
set_option maxRecDepth 100000 in
set_option maxHeartbeats 1000000 in
theorem quote_any (s : ByteArray) (w : World) (hs : s.size ≤ 65536) :
    Calls Tryz.prog 76 #[.string s] w fun e w' => e = .returned (.string ⟨(qB s.data.toList).toArray⟩) ∧ Below w.heap.size w w' := by
  have HBN := hide0 (builder_new 116 5 w)
  go_enter Tryz.func76, Tryz.ntmps76
  go_wp2_with fail
  refine (Tryz.Builder_WriteByte_k w.heap.size w.heap.size _ 34 _ HBN.out (by rw [Lib.byteCells_length]; decide) (by simp)).mono ?_
  rintro e w1 ⟨rfl, hB1, hb1, _⟩
  have HB1 : Hid (Lib.IsBuilderF 116 5 w.heap.size w.heap.size (Lib.byteCells [34]) w1) := .inr hB1
  have HW1 : Hid (Below w.heap.size w w1) := ((Below.refl _ _).alloc (Nat.le_refl _) _).trans hb1
  clear hB1 hb1 HBN
  go_wp2
  go_loopw [8] (fun i wx => ∃ k : Nat, k ≤ s.size ∧ i = .int .i64 k ∧ Hid (Lib.IsBuilderF 116 5 w.heap.size w.heap.size (Lib.byteCells (34 :: inQ (s.data.toList.take k))) wx) ∧ Hid (Below w.heap.size w wx)) (fun i _ => s.size - (intOf i).toNat)
  case atStart => exact ⟨0, Nat.zero_le _, rfl, HB1, HW1⟩
  case round =>
    obtain ⟨k, hk, rfl, HB, HW⟩ := hrel
    have hlen : (34 :: inQ (s.data.toList.take k) : List UInt8).length ≤ 140000 := by
      have := inQ_len (s.data.toList.take k)
      simp at this ⊢
      omega
    have hsz := HW.out.size
    by_cases hlt : k < s.size
    · have hone : ∀ (l : List UInt8) (X : World), Lib.IsBuilderF 116 5 w.heap.size w.heap.size (Lib.byteCells l) X → l.length ≤ 140001 → w.heap.size ≤ X.heap.size → ∀ (z : Int) (c : UInt8), z = (c.toNat : Int) → Calls Tryz.prog 73 #[.pointer (some ⟨w.heap.size, 0, none⟩), .int .u8 z] X fun e X' => e = .returned .nilIface ∧ Hid (Lib.IsBuilderF 116 5 w.heap.size w.heap.size (Lib.byteCells (l ++ [c])) X') ∧ Below w.heap.size X X' := by
        intro l X hX hl hs z c hz
        subst hz
        refine (Tryz.Builder_WriteByte_k w.heap.size w.heap.size _ _ _ hX (by rw [Lib.byteCells_length]; omega) hs).mono ?_
        rintro e w1 ⟨rfl, hB1, hb1, _⟩
        rw [byteCells_push] at hB1
        exact ⟨rfl, .inr hB1, hb1⟩
      have HO := hide0 hone
      clear hone
      by_cases h34 : (s[k].toNat : Int) = 34 ∨ (s[k].toNat : Int) = 92
      · have HE := hide0 ((inQ_take s k hlt).trans (by rw [esc_yes h34]))
        have hcd : ((s[k].toNat : Int) == 34 || (s[k].toNat : Int) == 92) = true := by simpa using h34
        clear h34
        go_wp2_with fail
        all_goals
          refine (HO.out _ _ HB.out (by omega) hsz 92 92 rfl).mono ?_
          rintro e w2 ⟨rfl, HB2, hb2⟩
          have hs2 := hb2.size
          go_wp2_with fail
          refine (HO.out _ _ HB2.out (by rw [List.length_append]; exact Nat.add_le_add hlen (Nat.le_refl 1)) (by omega) _ s[k] (by omega)).mono ?_
          rintro e w3 ⟨rfl, HB3, hb3⟩
          have HW3 := hide0 ((HW.out.trans hb2).trans hb3)
          clear hb2 hb3
          go_wp2
          go_roundw
          case rel => exact ⟨k + 1, by omega, by go_num, by rw [HE.out]; simpa using HB3, HW3⟩
          case measure => simp [intOf]; omega
      · have h1 : ¬ (s[k].toNat : Int) = 34 := fun h => h34 (.inl h)
        have h2 : ¬ (s[k].toNat : Int) = 92 := fun h => h34 (.inr h)
        have HE := hide0 ((inQ_take s k hlt).trans (by rw [esc_no h1 h2]))
        have hc1 : ((s[k].toNat : Int) == 34) = false := by simp [h1]
        have hc2 : ((s[k].toNat : Int) == 92) = false := by simp [h2]
        clear h34 h1 h2
        go_wp2_with fail
        refine (HO.out _ _ HB.out (by omega) hsz _ s[k] rfl).mono ?_
        rintro e w3 ⟨rfl, HB3, hb3⟩
        have HW3 := hide0 (HW.out.trans hb3)
        clear hb3
        go_wp2
        go_roundw
        case rel => exact ⟨k + 1, by omega, by go_num, by rw [HE.out]; simpa using HB3, HW3⟩
        case measure => simp [intOf]; omega
    · have HA : Hid (qB s.data.toList = 34 :: inQ (s.data.toList.take k) ++ [34]) := by
        rw [List.take_of_length_le (by simp; omega)]; rfl
      go_wp2_with fail
      refine (Tryz.Builder_WriteByte_k w.heap.size w.heap.size _ 34 _ HB.out (by rw [Lib.byteCells_length]; omega) hsz).mono ?_
      rintro e w2 ⟨rfl, hB2, hb2, _⟩
      have hs2 := hb2.size
      have HB2 : Hid (Lib.IsBuilderF 116 5 w.heap.size w.heap.size (Lib.byteCells (qB s.data.toList)) w2) := by
        rw [HA.out]
        have := byteCells_push (34 :: inQ (s.data.toList.take k)) 34
        rw [← this]
        exact .inr hB2
      clear hB2
      go_wp2_with fail
      refine (Tryz.Builder_String_any_k w.heap.size w.heap.size _ _ HB2.out (by omega)).mono ?_
      rintro e w3 ⟨rfl, hB3, hb3, _⟩
      go_wp2
      go_ret
      exact ⟨rfl, (HW.out.trans hb2).trans hb3⟩
end Go.Proofs.YtdjllnhahhjgmaaGreatDoor
namespace Go.Proofs.YtdjllnhahhjgmaaGreatDoor
open Go.RowKit Chron
/- one byte and one text into a builder at a block that is the call's own -/
theorem put_byte (b : Nat) (l : List UInt8) (X : World) (hX : Lib.IsBuilderF 116 5 b b (Lib.byteCells l) X) (hl : l.length ≤ 1000000) (z : Int) (c : UInt8) (hz : z = (c.toNat : Int)) :
    Calls Tryz.prog 73 #[.pointer (some ⟨b, 0, none⟩), .int .u8 z] X fun e X' => e = .returned .nilIface ∧ Hid (Lib.IsBuilderF 116 5 b b (Lib.byteCells (l ++ [c])) X') ∧ Below b X X' := by
  subst hz
  refine (Tryz.Builder_WriteByte_k b b _ _ _ hX (by rw [Lib.byteCells_length]; omega) (Nat.le_of_lt (builder_lt hX))).mono ?_
  rintro e w1 ⟨rfl, hB1, hb1, _⟩
  rw [byteCells_push] at hB1
  exact ⟨rfl, .inr hB1, hb1⟩
theorem put_text (b : Nat) (l : List UInt8) (s : List UInt8) (X : World) (hX : Lib.IsBuilderF 116 5 b b (Lib.byteCells l) X) (hl : l.length + s.length ≤ 1000000) :
    Calls Tryz.prog 74 #[.pointer (some ⟨b, 0, none⟩), .string ⟨s.toArray⟩] X fun e X' => (∃ v, e = .returned v) ∧ Hid (Lib.IsBuilderF 116 5 b b (Lib.byteCells (l ++ s)) X') ∧ Below b X X' := by
  refine (Tryz.Builder_WriteString_k b b _ _ _ hX (by rw [Lib.byteCells_length]; show l.length + s.length ≤ _; omega) (Nat.le_of_lt (builder_lt hX))).mono ?_
  rintro e w1 ⟨rfl, hB1, hb1, _⟩
  rw [strCells_bytes] at hB1
  exact ⟨⟨_, rfl⟩, .inr hB1, hb1⟩
set_option maxRecDepth 100000 in
set_option maxHeartbeats 1000000 in
theorem tellTags_any (a : Option Addr) (cap : Nat) (ts : List ByteArray) (w : World) (ht : Hid (TagsAt w a ts)) (hs : Hid (Lines ts)) (hl : ts.length ≤ 4) :
    Calls Tryz.prog 77 #[.slice a ts.length cap, .func (.func 76) #[] #[]] w fun e w' => e = .returned (.string ⟨(listB (tagsT ts)).toArray⟩) ∧ Below w.heap.size w w' := by
  have HBN := hide0 (builder_new 116 5 w)
  go_enter Tryz.func77, Tryz.ntmps77
  go_wp2_with fail
  refine (put_byte w.heap.size [] _ HBN.out (by decide) 91 91 rfl).mono ?_
  rintro e w1 ⟨rfl, HB1, hb1⟩
  have HW1 : Hid (Below w.heap.size w w1) := ((Below.refl _ _).alloc (Nat.le_refl _) _).trans hb1
  clear hb1 HBN
  go_wp2
  go_loopw [11] (fun i wx => ∃ k : Nat, k ≤ ts.length ∧ i = .int .i64 k ∧ Hid (Lib.IsBuilderF 116 5 w.heap.size w.heap.size (Lib.byteCells (91 :: jn ((tagsT ts).take k))) wx) ∧ Hid (Below w.heap.size w wx)) (fun i _ => ts.length - (intOf i).toNat)
  case atStart => exact ⟨0, Nat.zero_le _, rfl, HB1, HW1⟩
  case round =>
    obtain ⟨k, hk, rfl, HB, HW⟩ := hrel
    by_cases hlt : k < ts.length
    · obtain ⟨b1, o1, rfl, hc1⟩ := ht.out.below HW.out (Nat.le_refl _) (by omega)
      have e1 := hc1 k hlt
      obtain ⟨x, hx⟩ : ∃ x, ts[k]?.getD ByteArray.empty = x := ⟨_, rfl⟩
      rw [hx] at e1
      have HX := hide0 hx
      have hx60 : x.size ≤ 60 := by
        rw [← hx, List.getElem?_eq_getElem hlt]
        exact hs.out _ (List.getElem_mem hlt)
      have hAT := tagsT_at hlt
      rw [hx] at hAT
      have HAT := hide0 hAT
      have hq := qB_len x.data.toList
      have hq2 : (qB x.data.toList).length ≤ 122 := by simp at hq; omega
      clear hc1 hx hAT hq
      have hlen : (91 :: jn ((tagsT ts).take k) : List UInt8).length ≤ 1000 := by
        have h1 := jn_len (l := (tagsT ts).take k) (m := 122) (fun y hy => tagsT_short hs.out y (List.mem_of_mem_take hy))
        rw [List.length_take, tagsT_len] at h1
        have h2 : min k ts.length * 123 ≤ 4 * 123 := Nat.mul_le_mul_right _ (by omega)
        simp only [List.length_cons]
        omega
      by_cases h0 : 0 < k
      · have HE := hide0 (jn_take HAT.out h0)
        go_wp2_with fail
        refine (put_byte w.heap.size _ _ HB.out (by omega) 44 44 rfl).mono ?_
        rintro e w2 ⟨rfl, HB2, hb2⟩
        go_wp2_with fail
        refine (quote_any x _ (by omega)).mono ?_
        rintro e w3 ⟨rfl, hb3⟩
        have HB3 := hide0 (builder_below HB2.out hb3)
        have hlt2 := builder_lt HB2.out
        go_wp2_with fail
        refine (put_text w.heap.size _ _ _ HB3.out (by rw [List.length_append]; simp only [List.length_singleton]; omega)).mono ?_
        rintro e w4 ⟨⟨v, rfl⟩, HB4, hb4⟩
        have HW4 := hide0 (((HW.out.trans hb2).trans (hb3.mono (by omega))).trans hb4)
        clear hb2 hb3 hb4 HB2 HB3
        go_wp2
        go_roundw
        case rel => exact ⟨k + 1, by omega, by go_num, by rw [HE.out]; simpa using HB4, HW4⟩
        case measure => simp [intOf]; omega
      · have hk0 : k = 0 := by omega
        have HE : Hid (jn ((tagsT ts).take (k + 1)) = jn ((tagsT ts).take k) ++ qB x.data.toList) := by
          have := HAT.out
          subst hk0
          rw [Hid, jn_take_zero this]; rfl
        clear hk0
        go_wp2_with fail
        refine (quote_any x _ (by omega)).mono ?_
        rintro e w3 ⟨rfl, hb3⟩
        have HB3 := hide0 (builder_below HB.out hb3)
        have hlt2 := builder_lt HB.out
        go_wp2_with fail
        refine (put_text w.heap.size _ _ _ HB3.out (by omega)).mono ?_
        rintro e w4 ⟨⟨v, rfl⟩, HB4, hb4⟩
        have HW4 := hide0 ((HW.out.trans (hb3.mono (by omega))).trans hb4)
        clear hb3 hb4 HB3
        go_wp2
        go_roundw
        case rel => exact ⟨k + 1, by omega, by go_num, by rw [HE.out]; simpa using HB4, HW4⟩
        case measure => simp [intOf]; omega
    · have HA : Hid (listB (tagsT ts) = 91 :: jn ((tagsT ts).take k) ++ [93]) := by
        rw [List.take_of_length_le (by rw [tagsT_len]; omega)]; rfl
      have hlen : (91 :: jn ((tagsT ts).take k) : List UInt8).length ≤ 1000 := by
        have h1 := jn_len (l := (tagsT ts).take k) (m := 122) (fun y hy => tagsT_short hs.out y (List.mem_of_mem_take hy))
        rw [List.length_take, tagsT_len] at h1
        have h2 : min k ts.length * 123 ≤ 4 * 123 := Nat.mul_le_mul_right _ (by omega)
        simp only [List.length_cons]
        omega
      go_wp2_with fail
      refine (put_byte w.heap.size _ _ HB.out (by omega) 93 93 rfl).mono ?_
      rintro e w2 ⟨rfl, HB2, hb2⟩
      have hlt2 := builder_lt HB2.out
      go_wp2_with fail
      refine (Tryz.Builder_String_any_k w.heap.size w.heap.size _ _ HB2.out (by omega)).mono ?_
      rintro e w3 ⟨rfl, hB3, hb3, _⟩
      go_wp2
      go_ret
      exact ⟨ret_str (by rw [HA.out]; rfl), (HW.out.trans hb2).trans hb3⟩
end Go.Proofs.YtdjllnhahhjgmaaGreatDoor
namespace Go.Proofs.YtdjllnhahhjgmaaGreatDoor
open Go.RowKit Chron
def Kinds (w : World) : Prop := ∀ i : Nat, i < 4 → w.cell? ⟨1, i, none⟩ = some (.string ⟨(wordB ((i : Int) + 1)).toArray⟩)
def Pows (w : World) : Prop := Lib.TabIs Tryz.prog w "internal/strconv.uint64pow10" .u64 Lib.pow10Tab
theorem gPows : Tryz.prog.globalNamed "internal/strconv.uint64pow10" = some 4 := by kernel_rfl
theorem Kinds.below {w w' : World} {B : Nat} (h : Kinds w) (hb : Below B w w') (hB : w.heap.size ≤ B) : Kinds w' := fun i hi => by
  have hi' := h i hi
  have hlt := World.block_lt_of_cell? w _ hi'
  exact (hb.cell (p := ⟨1, i, none⟩) (Nat.lt_of_lt_of_le hlt hB)).trans hi'
theorem Pows.below {w w' : World} {B : Nat} (h : Pows w) (hb : Below B w w') (hB : w.heap.size ≤ B) : Pows w' := by
  have hlt : 4 < w.heap.size := by
    have h0 := Lib.TabIs.cell h gPows 0 (by decide)
    exact World.block_lt_of_cell? w _ h0
  exact var?_below hb gPows (Nat.lt_of_lt_of_le hlt hB) h
structure LaidAt (w : World) : Prop where
  kinds : Kinds w
  pows : Pows w
theorem LaidAt.below {w w' : World} {B : Nat} (h : LaidAt w) (hb : Below B w w') (hB : w.heap.size ≤ B) : LaidAt w' := ⟨h.kinds.below hb hB, h.pows.below hb hB⟩
structure EvBox (N : Nat) (w wx : World) (k : Int) (t : ByteArray) (m : Int) (b : ByteArray) (x : Value) : Prop where
  bel : Below N w wx
  box : wx.heap[N]? = some (.cells #[.int .i64 k, .string t, .int .i64 m, .string b, x] 29)
theorem EvBox.more {N : Nat} {w wx wy : World} {k : Int} {t : ByteArray} {m : Int} {b : ByteArray} {x : Value} (h : EvBox N w wx k t m b x) (hb : Below wx.heap.size wx wy) : EvBox N w wy k t m b x := by
  have hlt := (Array.getElem?_eq_some_iff.1 h.box).1
  exact ⟨h.bel.trans (hb.mono (by omega)), (hb.block N hlt).trans h.box⟩
theorem catted (a b : ByteArray) (l r : List UInt8) (ha : Hid (a.data.toList = l)) (hb : b.data.toList = r) (h : l.length + r.length ≤ 1000000) : ∃ S : ByteArray, (∀ W : World, (Op.stringOp .add a b).run Tryz.prog W = .ok (.string S) W) ∧ Hid (S.data.toList = l ++ r) := by
  refine ⟨a ++ b, fun W => run_string_add_sum W a b ?_, ?_⟩
  · have h1 : a.size = l.length := by rw [← ha.out]; simp
    have h2 : b.size = r.length := by rw [← hb]; simp
    omega
  · show (a ++ b).data.toList = l ++ r
    rw [← ha.out, ← hb]; simp
theorem bytes_mk (l : List UInt8) : (⟨l.toArray⟩ : ByteArray).data.toList = l := by simp
set_option maxRecDepth 100000 in
set_option maxHeartbeats 2000000 in
theorem tellEvent_any (k : Int) (t : ByteArray) (m : Int) (b : ByteArray) (a : Option Addr) (cap : Nat) (ts : List ByteArray) (w : World) (ht : Hid (TagsAt w a ts)) (hE : Hid (isB ⟨k, t, m, b, ts⟩ = true)) (hL : Hid (LaidAt w)) :
    Calls Tryz.prog 51 #[.agg #[.int .i64 k, .string t, .int .i64 m, .string b, .slice a ts.length cap]] w fun e w' => e = .returned (.string ⟨(tellB ⟨k, t, m, b, ts⟩).toArray⟩) ∧ Below w.heap.size w w' := by
  obtain ⟨h1, h4, htk, _, ht0, ht1, hbd, hfew, hlines⟩ := is_known hE.out
  simp only at h1 h4 htk ht0 ht1 hbd hfew hlines
  have HLN := hide0 hlines
  clear hlines
  obtain ⟨j, hj, hj4, HJ⟩ : ∃ j : Nat, IntKind.i64.wrap (k - 1) = j ∧ j < 4 ∧ Hid ((j : Int) + 1 = k) := ⟨(k - 1).toNat, by rw [wrapI_small (by omega) (by omega)]; omega, by omega, by show _ = _; omega⟩
  obtain ⟨wd, HWD, hwd⟩ : ∃ wd : ByteArray, Hid (wd = ⟨(wordB k).toArray⟩) ∧ wd.size ≤ 60 := ⟨_, rfl, by have := word_len k; show (wordB k).length ≤ 60; omega⟩
  have HT0 : Hid (EvBox w.heap.size w (w.alloc (.cells #[.int .i64 k, .string t, .int .i64 m, .string b, .slice a ts.length cap] 29)).drew k t m b (.slice a ts.length cap)) := ⟨((Below.refl _ _).alloc (Nat.le_refl _) _).drew, heap_alloc_new w _⟩
  have hcells : ∀ X, EvBox w.heap.size w X k t m b (.slice a ts.length cap) → X.cell? ⟨w.heap.size, 0, none⟩ = some (.int .i64 k) ∧ X.cell? ⟨w.heap.size, 1, none⟩ = some (.string t) ∧ X.cell? ⟨w.heap.size, 2, none⟩ = some (.int .i64 m) ∧ X.cell? ⟨w.heap.size, 3, none⟩ = some (.string b) ∧ X.cell? ⟨w.heap.size, 4, none⟩ = some (.slice a ts.length cap) ∧ X.cell? ⟨1, j, none⟩ = some (.string wd) := by
    intro X hX
    obtain ⟨d0, d1, d2, d3, d4, _⟩ := res_cells hX.box
    have hk := hL.out.kinds j hj4
    have hlt := World.block_lt_of_cell? w _ hk
    rw [HJ.out, ← HWD.out] at hk
    exact ⟨d0, d1, d2, d3, d4, (hX.bel.cell (p := ⟨1, j, none⟩) hlt).trans hk⟩
  have hQ : ∀ (s : ByteArray) (X : World), s.size ≤ 60 → Hid (EvBox w.heap.size w X k t m b (.slice a ts.length cap)) → Calls Tryz.prog 76 #[.string s] X fun e X' => e = .returned (.string ⟨(qB s.data.toList).toArray⟩) ∧ Hid (EvBox w.heap.size w X' k t m b (.slice a ts.length cap)) ∧ X'.cell? ⟨w.heap.size, 0, none⟩ = some (.int .i64 k) ∧ X'.cell? ⟨w.heap.size, 1, none⟩ = some (.string t) ∧ X'.cell? ⟨w.heap.size, 2, none⟩ = some (.int .i64 m) ∧ X'.cell? ⟨w.heap.size, 3, none⟩ = some (.string b) ∧ X'.cell? ⟨w.heap.size, 4, none⟩ = some (.slice a ts.length cap) ∧ X'.cell? ⟨1, j, none⟩ = some (.string wd) := by
    intro s X hs HX
    refine (quote_any s X (by omega)).mono ?_
    rintro e X' ⟨rfl, hb⟩
    exact ⟨rfl, HX.out.more hb, hcells _ (HX.out.more hb)⟩
  have hT : ∀ (X : World), Hid (EvBox w.heap.size w X k t m b (.slice a ts.length cap)) → Calls Tryz.prog 77 #[.slice a ts.length cap, .func (.func 76) #[] #[]] X fun e X' => e = .returned (.string ⟨(listB (tagsT ts)).toArray⟩) ∧ Hid (EvBox w.heap.size w X' k t m b (.slice a ts.length cap)) ∧ X'.cell? ⟨w.heap.size, 0, none⟩ = some (.int .i64 k) ∧ X'.cell? ⟨w.heap.size, 1, none⟩ = some (.string t) ∧ X'.cell? ⟨w.heap.size, 2, none⟩ = some (.int .i64 m) ∧ X'.cell? ⟨w.heap.size, 3, none⟩ = some (.string b) ∧ X'.cell? ⟨w.heap.size, 4, none⟩ = some (.slice a ts.length cap) ∧ X'.cell? ⟨1, j, none⟩ = some (.string wd) := by
    intro X HX
    refine (tellTags_any a cap ts X (ht.out.below HX.out.bel (Nat.le_refl _)) HLN hfew).mono ?_
    rintro e X' ⟨rfl, hb⟩
    exact ⟨rfl, HX.out.more hb, hcells _ (HX.out.more hb)⟩
  have hI : ∀ (X : World), Hid (EvBox w.heap.size w X k t m b (.slice a ts.length cap)) → Calls Tryz.prog 78 #[.int .i64 m] X fun e X' => e = .returned (.string ⟨(Lib.itoa m).toArray⟩) ∧ Hid (EvBox w.heap.size w X' k t m b (.slice a ts.length cap)) ∧ X'.cell? ⟨w.heap.size, 0, none⟩ = some (.int .i64 k) ∧ X'.cell? ⟨w.heap.size, 1, none⟩ = some (.string t) ∧ X'.cell? ⟨w.heap.size, 2, none⟩ = some (.int .i64 m) ∧ X'.cell? ⟨w.heap.size, 3, none⟩ = some (.string b) ∧ X'.cell? ⟨w.heap.size, 4, none⟩ = some (.slice a ts.length cap) ∧ X'.cell? ⟨1, j, none⟩ = some (.string wd) := by
    intro X HX
    refine (Tryz.strconv_Itoa m (by omega) (by omega) X (hL.out.pows.below HX.out.bel (Nat.le_refl _))).mono ?_
    rintro e X' ⟨rfl, q, os, rfl⟩
    have hb := Lib.below_grow X.heap.size X (Nat.le_refl _) q os
    exact ⟨rfl, HX.out.more hb, hcells _ (HX.out.more hb)⟩
  obtain ⟨c0, c1, c2, c3, c4, c5⟩ := hcells _ HT0.out
  have hq0 : ∀ s : ByteArray, s.size ≤ 60 → (qB s.data.toList).length ≤ 122 := fun s hs => by have := qB_len s.data.toList; simp at this; omega
  have hq1 := hq0 b hbd
  have hq2 := hq0 wd hwd
  have hq3 := hq0 t htk
  have hq4 : (listB (tagsT ts)).length ≤ 600 := by
    have h1 := jn_len (tagsT_short HLN.out)
    rw [tagsT_len] at h1
    have h2 : ts.length * 123 ≤ 4 * 123 := Nat.mul_le_mul_right _ hfew
    simp only [listB, List.length_cons, List.length_append, List.length_nil]
    omega
  have hq5 := itoa_len ht0 ht1
  clear hq0
  clear hcells
  obtain ⟨S1, hS1, HS1⟩ := catted ⟨#[123, 34, 98, 111, 100, 121, 34, 58]⟩ ⟨(qB b.data.toList).toArray⟩ lit1 _ rfl rfl (by simp only [lit1, List.length_cons, List.length_nil]; omega)
  obtain ⟨S2, hS2, HS2⟩ := catted S1 ⟨#[44, 34, 107, 105, 110, 100, 34, 58]⟩ _ lit2 HS1 rfl (by simp only [lit1, lit2, List.length_append, List.length_cons, List.length_nil]; omega)
  obtain ⟨S3, hS3, HS3⟩ := catted S2 ⟨(qB wd.data.toList).toArray⟩ _ _ HS2 rfl (by simp only [lit1, lit2, List.length_append, List.length_cons, List.length_nil]; omega)
  obtain ⟨S4, hS4, HS4⟩ := catted S3 ⟨#[44, 34, 116, 97, 103, 115, 34, 58]⟩ _ lit3 HS3 rfl (by simp only [lit1, lit2, lit3, List.length_append, List.length_cons, List.length_nil]; omega)
  obtain ⟨S5, hS5, HS5⟩ := catted S4 ⟨(listB (tagsT ts)).toArray⟩ _ _ HS4 rfl (by simp only [lit1, lit2, lit3, List.length_append, List.length_cons, List.length_nil]; omega)
  obtain ⟨S6, hS6, HS6⟩ := catted S5 ⟨#[44, 34, 116, 97, 115, 107, 34, 58]⟩ _ lit4 HS5 rfl (by simp only [lit1, lit2, lit3, lit4, List.length_append, List.length_cons, List.length_nil]; omega)
  obtain ⟨S7, hS7, HS7⟩ := catted S6 ⟨(qB t.data.toList).toArray⟩ _ _ HS6 rfl (by simp only [lit1, lit2, lit3, lit4, List.length_append, List.length_cons, List.length_nil]; omega)
  obtain ⟨S8, hS8, HS8⟩ := catted S7 ⟨#[44, 34, 116, 105, 109, 101, 34, 58]⟩ _ lit5 HS7 rfl (by simp only [lit1, lit2, lit3, lit4, lit5, List.length_append, List.length_cons, List.length_nil]; omega)
  obtain ⟨S9, hS9, HS9⟩ := catted S8 ⟨(Lib.itoa m).toArray⟩ _ _ HS8 rfl (by simp only [lit1, lit2, lit3, lit4, lit5, List.length_append, List.length_cons, List.length_nil]; omega)
  obtain ⟨S10, hS10, HS10⟩ := catted S9 ⟨#[125]⟩ _ [125] HS9 rfl (by simp only [lit1, lit2, lit3, lit4, lit5, List.length_append, List.length_cons, List.length_nil]; omega)
  have HF : Hid (S10 = ⟨(tellB ⟨k, t, m, b, ts⟩).toArray⟩) := bytes_inj (HS10.out.trans (by rw [HWD.out]; simp [tellB]))
  clear HS1 HS2 HS3 HS4 HS5 HS6 HS7 HS8 HS9 HS10 hq1 hq2 hq3 hq4 hq5
  go_enter Tryz.func51, Tryz.ntmps51
  go_wp2_with fail
  go_region_held (fun w' => w'.cell? ⟨w.heap.size, 0, none⟩ = some (.int .i64 k) ∧ w'.cell? ⟨w.heap.size, 1, none⟩ = some (.string t) ∧ w'.cell? ⟨w.heap.size, 2, none⟩ = some (.int .i64 m) ∧ w'.cell? ⟨w.heap.size, 3, none⟩ = some (.string b) ∧ w'.cell? ⟨w.heap.size, 4, none⟩ = some (.slice a ts.length cap) ∧ w'.cell? ⟨1, j, none⟩ = some (.string wd)) (go_keep)
    (first
      | (go_at_call 76; refine (hQ _ _ (by assumption) (by first | assumption | exact HT0)).mono ?_; rintro e w3 ⟨rfl, HT3, q0, q1, q2, q3, q4, q5⟩)
      | (go_at_call 77; refine (hT _ (by first | assumption | exact HT0)).mono ?_; rintro e w3 ⟨rfl, HT3, q0, q1, q2, q3, q4, q5⟩)
      | (go_at_call 78; refine (hI _ (by first | assumption | exact HT0)).mono ?_; rintro e w3 ⟨rfl, HT3, q0, q1, q2, q3, q4, q5⟩))
  all_goals
    go_wp2
    go_ret
    exact ⟨ret_str HF.out, HT3.out.bel⟩
end Go.Proofs.YtdjllnhahhjgmaaGreatDoor
namespace Go.Proofs.YtdjllnhahhjgmaaGreatDoor
open Go.RowKit Chron
/- a place in a text by what is left of the text from there on; -1: none -/
def pos (s : ByteArray) : Option (List UInt8) → Int
  | some r => (s.size : Int) - (r.length : Int)
  | none => -1
def Suf (s : ByteArray) (r : List UInt8) : Prop := r <:+ s.data.toList
theorem Suf.le {s : ByteArray} {r : List UInt8} (h : Suf s r) : r.length ≤ s.size := by have := h.length_le; simpa using this
theorem Suf.at {s : ByteArray} {r : List UInt8} (h : Suf s r) : s.data.toList.drop (s.size - r.length) = r := by
  have := (List.suffix_iff_eq_drop.1 h).symm
  simpa using this
theorem Suf.byte {s : ByteArray} {x : UInt8} {r : List UInt8} (h : Suf s (x :: r)) {k : Nat} (hk : k = s.size - (x :: r).length) : ∃ hlt : k < s.size, s[k] = x := by
  have h1 := h.le
  simp only [List.length_cons] at h1 hk
  have hlt : k < s.size := by omega
  refine ⟨hlt, ?_⟩
  have h2 := h.at
  simp only [List.length_cons] at h2
  rw [← hk, List.drop_eq_getElem_cons (by simpa using hlt)] at h2
  exact (List.cons.inj h2).1
theorem Suf.tail {s : ByteArray} {x : UInt8} {r : List UInt8} (h : Suf s (x :: r)) : Suf s r := (List.suffix_cons x r).trans h
theorem Suf.trans {s : ByteArray} {r t : List UInt8} (h : Suf s r) (ht : t <:+ r) : Suf s t := ht.trans h
theorem skip_blank {x : UInt8} {r : List UInt8} (h : isBlank x = true) : skipL (x :: r) = skipL r := List.dropWhile_cons_of_pos h
theorem skip_stop {x : UInt8} {r : List UInt8} (h : isBlank x = false) : skipL (x :: r) = x :: r := List.dropWhile_cons_of_neg (by simp [h])
theorem blank_iff (x : UInt8) : isBlank x = true ↔ ((x.toNat : Int) = 32 ∨ (x.toNat : Int) = 10 ∨ (x.toNat : Int) = 13 ∨ (x.toNat : Int) = 9) := by
  have key : ∀ n : Nat, n < 256 → ((x == UInt8.ofNat n) = true ↔ (x.toNat : Int) = n) := fun n hn => by
    rw [beq_iff_eq]
    constructor
    · rintro rfl; simp; omega
    · intro h; apply UInt8.toNat_inj.1; simp; omega
  simp only [isBlank, Bool.or_eq_true]
  have h1 := key 32 (by omega)
  have h2 := key 10 (by omega)
  have h3 := key 13 (by omega)
  have h4 := key 9 (by omega)
  simp only [show UInt8.ofNat 32 = 32 from rfl, show UInt8.ofNat 10 = 10 from rfl, show UInt8.ofNat 13 = 13 from rfl, show UInt8.ofNat 9 = 9 from rfl] at h1 h2 h3 h4
  rw [h1, h2, h3, h4]
  simp only [or_assoc]
  exact Iff.rfl
set_option maxRecDepth 100000 in
set_option maxHeartbeats 1000000 in
theorem behind_any (s : ByteArray) (r : List UInt8) (w : World) (h : Suf s r) (hs : s.size ≤ 1048576) :
    Calls Tryz.prog 47 #[.string s, .int .i64 (pos s (some r))] w fun e w' => e = .returned (.int .i64 (pos s (some (skipL r)))) ∧ w' = w := by
  obtain ⟨k0, hk0⟩ : ∃ k0 : Nat, pos s (some r) = k0 := ⟨s.size - r.length, by have := h.le; simp only [pos]; omega⟩
  rw [hk0]
  go_enter Tryz.func47, Tryz.ntmps47
  go_wp2
  go_loop [1] (fun i => ∃ k : Nat, k ≤ s.size ∧ i = .int .i64 k ∧ Hid (∃ t, Suf s t ∧ skipL t = skipL r ∧ k = s.size - t.length)) (fun i => s.size - (intOf i).toNat)
  case atStart => exact ⟨k0, by have := h.le; simp only [pos] at hk0; omega, rfl, r, h, rfl, by have := h.le; simp only [pos] at hk0; omega⟩
  case round =>
    obtain ⟨k, hks, rfl, HT⟩ := hrel
    clear hk0
    by_cases hlt : k < s.size
    · cases hbl : isBlank s[k]
      · have hno : ¬ ((s[k].toNat : Int) = 32 ∨ (s[k].toNat : Int) = 10 ∨ (s[k].toNat : Int) = 13 ∨ (s[k].toNat : Int) = 9) := by
          rw [← blank_iff, hbl]; simp
        have n1 : ((s[k].toNat : Int) == 32) = false := by simp; omega
        have n2 : ((s[k].toNat : Int) == 10) = false := by simp; omega
        have n3 : ((s[k].toNat : Int) == 13) = false := by simp; omega
        have n4 : ((s[k].toNat : Int) == 9) = false := by simp; omega
        have HF : Hid (pos s (some (skipL r)) = k) := by
          obtain ⟨t, h1, h2, h3⟩ := HT.out
          have hle := h1.le
          match t, h1, h2, h3, hle with
          | [], h1, h2, h3, hle => simp at h3; omega
          | x :: t', h1, h2, h3, hle =>
            obtain ⟨_, hx⟩ := h1.byte h3
            rw [← h2, skip_stop (by rw [← hx]; exact hbl)]
            show (s.size : Int) - ((x :: t').length : Int) = k
            omega
        clear hno
        go_wp2
        go_ret
        exact ⟨ret_int HF.out.symm, rfl⟩
      · have hyes := (blank_iff s[k]).1 hbl
        have HN : Hid (∃ t, Suf s t ∧ skipL t = skipL r ∧ k + 1 = s.size - t.length) := by
          obtain ⟨t, h1, h2, h3⟩ := HT.out
          have hle := h1.le
          match t, h1, h2, h3, hle with
          | [], h1, h2, h3, hle => simp at h3; omega
          | x :: t', h1, h2, h3, hle =>
            obtain ⟨_, hx⟩ := h1.byte h3
            refine ⟨t', h1.tail, by rw [← h2, skip_blank (by rw [← hx]; exact hbl)], ?_⟩
            simp only [List.length_cons] at h3 hle
            omega
        rcases hyes with h | h | h | h
        all_goals
          go_wp2
          go_round
          case rel => exact ⟨k + 1, by omega, by go_num, HN⟩
          case measure => simp [intOf]; omega
    · have HF : Hid (pos s (some (skipL r)) = k) := by
        obtain ⟨t, h1, h2, h3⟩ := HT.out
        have hle := h1.le
        have : t = [] := List.eq_nil_of_length_eq_zero (by omega)
        subst this
        rw [← h2]
        show (s.size : Int) - 0 = k
        omega
      go_wp2
      go_ret
      exact ⟨ret_int HF.out.symm, rfl⟩
set_option maxRecDepth 100000 in
set_option maxHeartbeats 1000000 in
theorem behind_no (s : ByteArray) (w : World) : Calls Tryz.prog 47 #[.string s, .int .i64 (-1)] w fun e w' => e = .returned (.int .i64 (-1)) ∧ w' = w := by
  go_enter Tryz.func47, Tryz.ntmps47
  go_wp2
  go_loop [1] (fun i => i = .int .i64 (-1)) (fun _ => 0)
  case atStart => rfl
  case round =>
    subst hrel
    go_wp2
    go_ret
    exact ⟨rfl, rfl⟩
set_option maxRecDepth 100000 in
set_option maxHeartbeats 1000000 in
theorem sign_any (s : ByteArray) (r : List UInt8) (c : UInt8) (z : Int) (hz : z = (c.toNat : Int)) (w : World) (h : Suf s r) (hs : s.size ≤ 1048576) :
    Calls Tryz.prog 45 #[.string s, .int .i64 (pos s (some r)), .int .u8 z] w fun e w' => e = .returned (.int .i64 (pos s (signL c r))) ∧ w' = w := by
  have hB := behind_any s r w h hs
  cases hc : skipL r with
  | nil =>
    rw [hc] at hB
    have hp : pos s (some []) = (s.size : Int) := by simp [pos]
    rw [hp] at hB
    have HF : Hid (pos s (signL c r) = -1) := by unfold signL; rw [hc]; rfl
    go_enter Tryz.func45, Tryz.ntmps45
    go_wp2_with (first | (go_at_call 47; refine hB.mono ?_; rintro e w' ⟨rfl, rfl⟩))
    go_ret
    exact ⟨ret_int HF.out.symm, rfl⟩
  | cons x t =>
    have hsuf : Suf s (x :: t) := h.trans (by rw [← hc]; exact skip_suf r)
    have hle := hsuf.le
    obtain ⟨k, hk⟩ : ∃ k : Nat, k = s.size - (x :: t).length := ⟨_, rfl⟩
    obtain ⟨hlt, hx⟩ := hsuf.byte hk
    have hp : pos s (some (x :: t)) = (k : Int) := by simp only [pos]; omega
    rw [hc, hp] at hB
    by_cases hxc : x = c
    · have HF : Hid (pos s (signL c r) = (k : Int) + 1) := by
        unfold signL
        rw [hc]
        simp only [hxc, if_true, pos]
        simp only [List.length_cons] at hk hle
        show _ = _
        omega
      have hsc : (s[k].toNat : Int) = z := by rw [hx, hxc, hz]
      have hcb : ((s[k].toNat : Int) != z) = false := by simp [hsc]
      clear hk hp hle hx hz hsc
      go_enter Tryz.func45, Tryz.ntmps45
      go_wp2_with (first | (go_at_call 47; refine hB.mono ?_; rintro e w' ⟨rfl, rfl⟩))
      go_ret
      exact ⟨ret_int HF.out.symm, rfl⟩
    · have HF : Hid (pos s (signL c r) = -1) := by
        unfold signL
        rw [hc]
        simp only [hxc, if_false, pos]
        exact trivial
      have hsc : ¬ (s[k].toNat : Int) = z := by
        rw [hx, hz]
        intro h
        exact hxc (UInt8.toNat_inj.1 (by omega))
      have hcb : ((s[k].toNat : Int) != z) = true := by simp [hsc]
      clear hk hp hle hx hz hsc
      go_enter Tryz.func45, Tryz.ntmps45
      go_wp2_with (first | (go_at_call 47; refine hB.mono ?_; rintro e w' ⟨rfl, rfl⟩))
      go_ret
      exact ⟨ret_int HF.out.symm, rfl⟩
set_option maxRecDepth 100000 in
theorem sign_no (s : ByteArray) (z : Int) (w : World) : Calls Tryz.prog 45 #[.string s, .int .i64 (-1), .int .u8 z] w fun e w' => e = .returned (.int .i64 (-1)) ∧ w' = w := by
  go_enter Tryz.func45, Tryz.ntmps45
  go_wp2_with (first | (go_at_call 47; refine (behind_no s _).mono ?_; rintro e w' ⟨rfl, rfl⟩))
  go_ret
  exact ⟨rfl, rfl⟩
/- both together -/
theorem sign_pos (s : ByteArray) (o : Option (List UInt8)) (c : UInt8) (z : Int) (hz : z = (c.toNat : Int)) (w : World) (h : ∀ r, o = some r → Suf s r) (hs : s.size ≤ 1048576) :
    Calls Tryz.prog 45 #[.string s, .int .i64 (pos s o), .int .u8 z] w fun e w' => e = .returned (.int .i64 (pos s (o.bind (signL c)))) ∧ w' = w := by
  cases o with
  | none => exact sign_no s z w
  | some r => exact sign_any s r c z hz w (h r rfl) hs
theorem hex_iff (b : UInt8) : hexD b = if 48 ≤ (b.toNat : Int) ∧ (b.toNat : Int) ≤ 57 then some (b.toNat - 48) else if 97 ≤ (b.toNat : Int) ∧ (b.toNat : Int) ≤ 102 then some (b.toNat - 87) else if 65 ≤ (b.toNat : Int) ∧ (b.toNat : Int) ≤ 70 then some (b.toNat - 55) else none := by
  unfold hexD
  simp only [Int.ofNat_le, show (48 : Int) = ((48 : Nat) : Int) from rfl, show (57 : Int) = ((57 : Nat) : Int) from rfl, show (97 : Int) = ((97 : Nat) : Int) from rfl, show (102 : Int) = ((102 : Nat) : Int) from rfl, show (65 : Int) = ((65 : Nat) : Int) from rfl, show (70 : Int) = ((70 : Nat) : Int) from rfl]
def hexI (b : UInt8) : Int := match hexD b with | some n => (n : Int) | none => -1
set_option maxRecDepth 100000 in
set_option maxHeartbeats 1000000 in
theorem digit_any (b : UInt8) (w : World) : Calls Tryz.prog 166 #[.int .u8 (b.toNat : Int)] w fun e w' => e = .returned (.int .i64 (hexI b)) ∧ w' = w := by
  have hb := b.toNat_lt
  by_cases h1 : 48 ≤ (b.toNat : Int) ∧ (b.toNat : Int) ≤ 57
  · have HF : Hid (hexI b = (b.toNat : Int) - 48) := by unfold hexI; rw [hex_iff, if_pos h1]; show ((b.toNat - 48 : Nat) : Int) = _; omega
    obtain ⟨a1, a2⟩ := h1
    go_enter Tryz.func166, Tryz.ntmps166
    go_wp2
    go_ret
    exact ⟨ret_int HF.out.symm, rfl⟩
  · by_cases h2 : 97 ≤ (b.toNat : Int) ∧ (b.toNat : Int) ≤ 102
    · have HF : Hid (hexI b = (b.toNat : Int) - 87) := by unfold hexI; rw [hex_iff, if_neg h1, if_pos h2]; show ((b.toNat - 87 : Nat) : Int) = _; omega
      obtain ⟨a1, a2⟩ := h2
      have a3 : ¬ (b.toNat : Int) ≤ 57 := by omega
      clear h1
      go_enter Tryz.func166, Tryz.ntmps166
      go_wp2
      go_ret
      exact ⟨ret_int HF.out.symm, rfl⟩
    · by_cases h3 : 65 ≤ (b.toNat : Int) ∧ (b.toNat : Int) ≤ 70
      · have HF : Hid (hexI b = (b.toNat : Int) - 55) := by unfold hexI; rw [hex_iff, if_neg h1, if_neg h2, if_pos h3]; show ((b.toNat - 55 : Nat) : Int) = _; omega
        obtain ⟨a1, a2⟩ := h3
        have a3 : ¬ (b.toNat : Int) ≤ 57 := by omega
        have a4 : ¬ 97 ≤ (b.toNat : Int) := by omega
        clear h1 h2
        go_enter Tryz.func166, Tryz.ntmps166
        go_wp2
        go_ret
        exact ⟨ret_int HF.out.symm, rfl⟩
      · have HF : Hid (hexI b = -1) := by unfold hexI; rw [hex_iff, if_neg h1, if_neg h2, if_neg h3]; exact rfl
        have HH := hide0 (And.intro h1 (And.intro h2 h3))
        clear h1 h2 h3
        go_enter Tryz.func166, Tryz.ntmps166
        go_wp2
        all_goals
          first
            | (exfalso; have := HH.out; omega)
            | (go_ret; exact ⟨ret_int HF.out.symm, rfl⟩)
end Go.Proofs.YtdjllnhahhjgmaaGreatDoor
