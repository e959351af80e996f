/- Walks and plain facts, in the order in which they lean on one another. -/
import Derived.Test.YtodlcnbknjldnaaGreatDoorW13
import Derived.Test.YtodlcnbknjldnaaGreatDoorW02
import Derived.Deep.QuietTactic
import Derived.BigQuiet
import Derived.Deep.RegionWith
import Derived.Test.YtodlcnbknjldnaaGreatDoorW10
namespace Go.Proofs.YtodlcnbknjldnaaGreatDoor
open Go.RowKit Chron
set_option maxRecDepth 100000 in
set_option maxHeartbeats 400000 in
theorem raw2_any (a : Option Addr) (n cap i : Nat) (w : World) (h : Hid (IntsAt w a n)) (_hn : n ≤ maxLen) (_hi : i ≤ 1000000) :
    Calls Tryz.prog 25 #[.slice a n cap, .int .i64 i] w fun e w' => (∃ z, e = .returned (.int .i64 z) ∧ Hid (-9223372036854775808 ≤ z)) ∧ w' = w := by
  unfold maxLen at _hn
  by_cases hlt : i < n
  · obtain ⟨b, off, z, rfl, hc, hz⟩ := h.out i hlt
    have HZ := hide0 hz
    clear hz
    go_enter Tryz.func25, Tryz.ntmps25
    go_wp2
    go_ret
    exact ⟨⟨z, rfl, HZ⟩, rfl⟩
  · go_enter Tryz.func25, Tryz.ntmps25
    go_wp2
    go_ret
    exact ⟨⟨0, rfl, by show (-9223372036854775808 : Int) ≤ 0; decide⟩, rfl⟩
theorem app_list (a b : ByteArray) : (a ++ b).data.toList = a.data.toList ++ b.data.toList := by obtain ⟨⟨a⟩⟩ := a; obtain ⟨⟨b⟩⟩ := b; simp
theorem app_size (a b : ByteArray) : (a ++ b).size = a.size + b.size := by
  have h := congrArg List.length (app_list a b)
  rw [List.length_append] at h
  exact h
def blk (i : Nat) : ByteArray := if i = 0 then ⟨#[]⟩ else if i = 1 then ⟨#[32]⟩ else if i = 2 then ⟨#[10]⟩ else ⟨#[9, 32, 13, 10]⟩
theorem blk_blank (i : Nat) : blanksL (blk i).data.toList ∧ (blk i).size ≤ 4 := by
  unfold blk blanksL
  split; · exact ⟨by decide, by decide⟩
  split; · exact ⟨by decide, by decide⟩
  split <;> exact ⟨by decide, by decide⟩
/- where spaced stands -/
def SpR (s : List UInt8) (q : Bool) (suf : List UInt8) (out : ByteArray) : Prop := wf q suf = true ∧ ∀ o, Sp q suf o → Sp false s (out.data.toList ++ o)
theorem SpR.step {s suf suf' : List UInt8} {q q' : Bool} {out x : ByteArray} (h : SpR s q suf out) (hw : wf q' suf' = true) (hx : ∀ o, Sp q' suf' o → Sp q suf (x.data.toList ++ o)) : SpR s q' suf' (out ++ x) := by
  refine ⟨hw, fun o ho => ?_⟩
  rw [app_list, List.append_assoc]
  exact h.2 _ (hx o ho)
theorem blk_cells {w wr : World} (h : Below (w.alloc (.cells #[.string (blk 0), .string (blk 1), .string (blk 2), .string (blk 3)] 9)).heap.size (w.alloc (.cells #[.string (blk 0), .string (blk 1), .string (blk 2), .string (blk 3)] 9)) wr) {i : Nat} (hi : i < 4) : wr.cell? ⟨w.heap.size, i, none⟩ = some (.string (blk i)) := by
  have hh := (h.block w.heap.size (by simp)).trans (heap_alloc_new w (.cells #[.string (blk 0), .string (blk 1), .string (blk 2), .string (blk 3)] 9))
  have h4 : i = 0 ∨ i = 1 ∨ i = 2 ∨ i = 3 := by omega
  rcases h4 with rfl | rfl | rfl | rfl <;> (simp only [World.cell?, hh]; rfl)
theorem ext_dt (s : ByteArray) (f n : Nat) : (s.extract f (f + n)).data.toList = (s.data.toList.drop f).take n := by
  simp [ByteArray.data_extract, Array.toList_extract, List.extract]
theorem ext_pre {S : ByteArray} {k j : Nat} {pre rest : List UInt8} (h : S.data.toList.drop k = pre ++ rest) (hj : pre.length = j) : ∃ X, S.extract k (k + j) = X ∧ Hid (X.data.toList = pre ∧ X.size = j) := by
  have e := ext_dt S k j
  rw [h, ← hj, List.take_left] at e
  refine ⟨_, rfl, ⟨by rw [← hj]; exact e, ?_⟩⟩
  have := congrArg List.length e
  rw [← hj]; exact this
def hexLo : ByteArray := ⟨#[48, 49, 50, 51, 52, 53, 54, 55, 56, 57, 97, 98, 99, 100, 101, 102]⟩
def hexHi : ByteArray := ⟨#[48, 49, 50, 51, 52, 53, 54, 55, 56, 57, 65, 66, 67, 68, 69, 70]⟩
theorem hex_lo : ∀ n : Fin 16, hexD (hexLo[n.val]'(n.isLt)) = some n.val := by decide
theorem hex_hi : ∀ n : Fin 16, hexD (hexHi[n.val]'(n.isLt)) = some n.val := by decide
theorem conv_two (x y : UInt8) (w X : World) (hX : X.heap[w.heap.size]? = some (.cells #[.int .u8 (x.toNat : Int), .int .u8 (y.toNat : Int)] 5)) :
    (convert 56 9 (.slice (some ⟨w.heap.size, 0, none⟩) 2 2)).run Tryz.prog X = .ok (.string ⟨#[x, y]⟩) X := by
  refine run_convert_bytes_back X _ _ 5 ⟨w.heap.size, 0, none⟩ 2 [x, y] Tryz.underlying56 Tryz.underlying5 Tryz.underlying9 ?_
  intro j hj
  have hj2 : j = 0 ∨ j = 1 := by simp at hj; omega
  rw [Go.WideShapes.add_plain]
  rcases hj2 with rfl | rfl <;> (simp only [World.cell?, hX]; rfl)
set_option maxRecDepth 100000 in
set_option maxHeartbeats 4000000 in
theorem spaced_any (S : ByteArray) (a : Option Addr) (n cap : Nat) (w : World) (h : Hid (IntsAt w a n)) (hn : n ≤ maxLen) (hs : S.size ≤ 30000) (hw : Hid (wf false S.data.toList = true)) :
    Calls Tryz.prog 12 #[.string S, .slice a n cap] w fun e w' => ∃ O : ByteArray, e = .returned (.string O) ∧ Hid (Sp false S.data.toList O.data.toList) ∧ O.size ≤ 270000 ∧ Below w.heap.size w w' := by
  have hR0 : SpR S.data.toList false S.data.toList ⟨#[]⟩ := ⟨hw.out, fun o ho => by simpa using ho⟩
  have HR0 := hide0 hR0
  clear hR0
  go_enter Tryz.func12, Tryz.ntmps12
  go_wp2_with fail
  obtain ⟨w1, HW1⟩ : ∃ w1, Hid (w1 = w.alloc (.cells #[.string (blk 0), .string (blk 1), .string (blk 2), .string (blk 3)] 9)) := ⟨_, rfl⟩
  go_loopw [6, 7, 8, 9] (fun ov qv nv iv wx => ∃ (k m : Nat) (q : Bool) (O : ByteArray), k ≤ S.size ∧ m ≤ k ∧ iv = .int .i64 k ∧ nv = .int .i64 m ∧ qv = .bool q ∧ ov = .string O ∧ O.size ≤ 9 * k ∧ Hid (SpR S.data.toList q (S.data.toList.drop k) O) ∧ Hid (Below w1.heap.size w1 wx)) (fun _ _ _ iv _ => S.size - (intOf iv).toNat)
  case atStart => exact ⟨0, 0, false, ⟨#[]⟩, Nat.zero_le _, Nat.le_refl _, rfl, rfl, rfl, rfl, by decide, HR0, by rw [HW1.out]; exact Below.refl _ _⟩
  case round =>
    obtain ⟨k, m, q, O, hk, hm, rfl, rfl, rfl, rfl, hO, HR, HW⟩ := hrel
    by_cases hlt : k < S.size
    · have hlen : k < S.data.toList.length := by simpa using hlt
      obtain ⟨c, suf, hsuf, hc⟩ : ∃ c suf, Hid (S.data.toList.drop k = c :: suf ∧ S.data.toList.drop (k + 1) = suf) ∧ S[k] = c := ⟨S.data.toList[k], S.data.toList.drop (k + 1), ⟨List.drop_eq_getElem_cons hlen, rfl⟩, rfl⟩
      rw [hsuf.out.1] at HR
      have HWw : Hid (Below w.heap.size w wr) := by
        have := HW.out
        rw [HW1.out] at this
        exact ((Below.refl _ _).alloc (Nat.le_refl _) _).trans (this.mono (by simp))
      have HI : Hid (IntsAt wr a n) := h.out.below HWw.out (Nat.le_refl _)
      have hRaw := raw2_any a n cap m wr HI hn (by omega)
      go_wp2_with fail
      refine hRaw.mono ?_
      rintro e w2 ⟨⟨z, rfl, HZ⟩, hw2⟩
      have hw3 := hw2.symm
      subst hw3
      clear hw2 hRaw
      go_wp2_with fail
      refine (pick_any z 8 _ HZ.out (by decide)).mono ?_
      rintro e w4 ⟨⟨p, rfl, hp0, hp8⟩, hw4⟩
      have hw5 := hw4.symm
      subst hw5
      clear hw4
      have HK := hk
      have hpb : p ≤ 8 := by omega
      obtain ⟨X1, hX1, HX1⟩ := ext_pre (j := 1) (pre := [c]) (rest := suf) hsuf.out.1 rfl
      have hcat1 : ¬ 9223372036854775807 < O.size + X1.size := by rw [HX1.out.2]; omega
      have hne : ∀ d : UInt8, c ≠ d → ((c.toNat : Int) == (d.toNat : Int)) = false := fun d hd => by
        rw [beq_eq_false_iff_ne]
        intro h
        exact hd (UInt8.toNat_inj.1 (by omega))
      cases q with
      | true =>
        by_cases h92 : c = 92
        · have HW92 := HR.out.1
          rw [h92] at HW92
          obtain ⟨d, suf2, rfl⟩ : ∃ d suf2, suf = d :: suf2 := by
            cases suf with
            | nil => simp [wf] at HW92
            | cons d s => exact ⟨d, s, rfl⟩
          have HD2 : Hid (S.data.toList.drop (k + 2) = suf2 ∧ k + 2 ≤ S.size) := by
            have h1 := hsuf.out.2
            have h2 := congrArg List.length h1
            simp at h2
            refine ⟨?_, by omega⟩
            have h3 := congrArg (List.drop 1) h1
            rw [List.drop_drop] at h3
            simpa using h3
          have hk2 : (k : Int) + 2 ≤ (S.size : Int) := by have := HD2.out.2; omega
          obtain ⟨X2, hX2, HX2⟩ := ext_pre (j := 2) (pre := [c, d]) (rest := suf2) hsuf.out.1 rfl
          have HN := hide0 (HR.out.step (q' := true) (suf' := suf2) (x := X2) (by rw [wf_esc] at HW92; exact HW92) (fun o ho => by rw [HX2.out.1, h92]; exact .esc d suf2 o ho))
          have hc92 : ((c.toNat : Int) == 92) = true := by rw [h92]; rfl
          have hcat2 : ¬ 9223372036854775807 < O.size + X2.size := by rw [HX2.out.2]; omega
          have HSZ : Hid ((O ++ X2).size ≤ 9 * (k + 2)) := by show _ ≤ _; rw [app_size, HX2.out.2]; omega
          rw [← HD2.out.1] at HN
          clear h92 HW92 hne
          go_wp2
          go_roundw
          case rel => exact ⟨k + 2, m + 1, true, O ++ X2, by omega, by omega, by go_num, by go_num, rfl, rfl, HSZ.out, HN, HW⟩
          case measure => simp [intOf]; omega
        · have hc92 : ((c.toNat : Int) == 92) = false := hne 92 h92
          by_cases h34 : c = 34
          · have hc34 : ((c.toNat : Int) == 34) = true := by rw [h34]; rfl
            have HN := hide0 (HR.out.step (q' := false) (suf' := suf) (x := X1) (by have := HR.out.1; rw [h34, wf_shut] at this; exact this) (fun o ho => by rw [HX1.out.1, h34]; exact .shuts suf o ho))
            have HSZ : Hid ((O ++ X1).size ≤ 9 * (k + 1)) := by show _ ≤ _; rw [app_size, HX1.out.2]; omega
            rw [← hsuf.out.2] at HN
            clear h34 h92 hne
            go_wp2
            go_roundw
            case rel => exact ⟨k + 1, m + 1, false, O ++ X1, by omega, by omega, by go_num, by go_num, rfl, rfl, HSZ.out, HN, HW⟩
            case measure => simp [intOf]; omega
          · have hc34 : ((c.toNat : Int) == 34) = false := hne 34 h34
            have hwf : wf true suf = true := by have := HR.out.1; rw [wf_in h34 h92] at this; exact this
            by_cases hhex : p = 0 ∧ 20 < k
            · obtain ⟨hp, h20⟩ := hhex
              have hg : (p == 0) = true := by simp [hp]
              have hg2 : (20 : Int) < (k : Int) := by omega
              have hc256 : c.toNat < 256 := c.toNat_lt
              obtain ⟨n1, e1, hn1⟩ : ∃ n1 : Nat, (c.toNat : Int) / 16 = (n1 : Int) ∧ Hid (n1 = c.toNat / 16 ∧ n1 < 16) := ⟨c.toNat / 16, by omega, rfl, by omega⟩
              obtain ⟨n2, e2, hn2⟩ : ∃ n2 : Nat, (c.toNat : Int) % 16 = (n2 : Int) ∧ Hid (n2 = c.toNat % 16 ∧ n2 < 16) := ⟨c.toNat % 16, by omega, rfl, by omega⟩
              obtain ⟨A, HA, hA⟩ : ∃ A : UInt8, Hid (hexD A = some n1) ∧ ∀ W, (Instr.index 9 (.string ⟨#[48, 49, 50, 51, 52, 53, 54, 55, 56, 57, 97, 98, 99, 100, 101, 102]⟩) (.int .u8 (n1 : Int))).run Tryz.prog W = .ok (.int .u8 (A.toNat : Int)) W := by
                refine ⟨hexLo[n1]'(hn1.out.2), hex_lo ⟨n1, hn1.out.2⟩, fun W => ?_⟩
                rw [run_index_string _ _ _ _ _ Tryz.underlying9, dif_pos ⟨by omega, by have := hn1.out.2; show (n1 : Int) < 16; omega⟩]
                rfl
              obtain ⟨Bb, HBb, hB⟩ : ∃ Bb : UInt8, Hid (hexD Bb = some n2) ∧ ∀ W, (Instr.index 9 (.string ⟨#[48, 49, 50, 51, 52, 53, 54, 55, 56, 57, 65, 66, 67, 68, 69, 70]⟩) (.int .u8 (n2 : Int))).run Tryz.prog W = .ok (.int .u8 (Bb.toNat : Int)) W := by
                refine ⟨hexHi[n2]'(hn2.out.2), hex_hi ⟨n2, hn2.out.2⟩, fun W => ?_⟩
                rw [run_index_string _ _ _ _ _ Tryz.underlying9, dif_pos ⟨by omega, by have := hn2.out.2; show (n2 : Int) < 16; omega⟩]
                rfl
              have hcv := conv_two A Bb wr (wr.alloc (.cells #[.int .u8 (A.toNat : Int), .int .u8 (Bb.toNat : Int)] 5)).drew (heap_alloc_new _ _)
              have HN := hide0 (HR.out.step (q' := true) (suf' := suf) (x := ⟨#[92, 117, 48, 48]⟩ ++ ⟨#[A, Bb]⟩) hwf (fun o ho => by rw [app_list]; exact .hex c A Bb suf o h34 h92 ⟨n1, n2, HA.out, HBb.out, by have := hn1.out.1; have := hn2.out.1; omega⟩ ho))
              rw [← hsuf.out.2] at HN
              have HEQ : Hid (O ++ (⟨#[92, 117, 48, 48]⟩ ++ ⟨#[A, Bb]⟩ : ByteArray) = O ++ ⟨#[92, 117, 48, 48]⟩ ++ ⟨#[A, Bb]⟩) := by
                show _ = _
                apply bytes_inj
                simp only [app_list, List.append_assoc]
              rw [HEQ.out] at HN
              have HSZ : Hid ((O ++ ⟨#[92, 117, 48, 48]⟩ ++ ⟨#[A, Bb]⟩ : ByteArray).size ≤ 9 * (k + 1)) := by show _ ≤ _; simp only [app_size]; show O.size + 4 + 2 ≤ _; omega
              have k1 : ¬ 9223372036854775807 < O.size + 4 := by omega
              have k2 : ¬ 9223372036854775807 < (O ++ ⟨#[92, 117, 48, 48]⟩ : ByteArray).size + 2 := by simp only [app_size]; show ¬ _ < O.size + 4 + 2; omega
              have hb1 : (n1 : Int) < 16 := by have := hn1.out.2; omega
              have hb2 : (n2 : Int) < 16 := by have := hn2.out.2; omega
              clear h34 h92 hne hwf hp h20 HEQ HA HBb hn1 hn2
              go_wp2_with fail
              go_region
              have HW' : Hid (Below w1.heap.size w1 (wr.alloc (.cells #[.int .u8 (A.toNat : Int), .int .u8 (Bb.toNat : Int)] 5)).drew) := (HW.out.alloc HW.out.size _).drew
              clear hcv hA hB e1 e2
              go_wp2
              go_roundw
              case rel => exact ⟨k + 1, m + 1, true, O ++ ⟨#[92, 117, 48, 48]⟩ ++ ⟨#[A, Bb]⟩, by omega, by omega, by go_num, by go_num, rfl, rfl, HSZ.out, HN, HW'⟩
              case measure => simp [intOf]; omega
            · have hgd : (p == 0) = false ∨ ((p == 0) = true ∧ ¬ (20 : Int) < (k : Int)) := by
                by_cases hp : p = 0
                · exact .inr ⟨by simp [hp], fun h => hhex ⟨hp, by omega⟩⟩
                · exact .inl (by simp [hp])
              by_cases h47 : c = 47
              · have hc47 : ((c.toNat : Int) == 47) = true := by rw [h47]; rfl
                have HN := hide0 (HR.out.step (q' := true) (suf' := suf) (x := ⟨#[92, 47]⟩) hwf (fun o ho => by rw [h47]; exact .slash suf o ho))
                have HSZ : Hid ((O ++ ⟨#[92, 47]⟩ : ByteArray).size ≤ 9 * (k + 1)) := by show _ ≤ _; rw [app_size]; show O.size + 2 ≤ _; omega
                rw [← hsuf.out.2] at HN
                clear h34 h92 hne h47 hhex hwf
                rcases hgd with hg | ⟨hg, hg2⟩
                all_goals
                  go_wp2
                  go_roundw
                  case rel => exact ⟨k + 1, m + 1, true, O ++ ⟨#[92, 47]⟩, by omega, by omega, by go_num, by go_num, rfl, rfl, HSZ.out, HN, HW⟩
                  case measure => simp [intOf]; omega
              · have hc47 : ((c.toNat : Int) == 47) = false := hne 47 h47
                have HN := hide0 (HR.out.step (q' := true) (suf' := suf) (x := X1) hwf (fun o ho => by rw [HX1.out.1]; exact .plain c suf o h34 h92 ho))
                have HSZ : Hid ((O ++ X1).size ≤ 9 * (k + 1)) := by show _ ≤ _; rw [app_size, HX1.out.2]; omega
                rw [← hsuf.out.2] at HN
                clear h34 h92 hne h47 hhex hwf
                rcases hgd with hg | ⟨hg, hg2⟩
                all_goals
                  go_wp2
                  go_roundw
                  case rel => exact ⟨k + 1, m + 1, true, O ++ X1, by omega, by omega, by go_num, by go_num, rfl, rfl, HSZ.out, HN, HW⟩
                  case measure => simp [intOf]; omega
      | false =>
        by_cases h34 : c = 34
        · have hc34 : ((c.toNat : Int) == 34) = true := by rw [h34]; rfl
          have HN := hide0 (HR.out.step (q' := true) (suf' := suf) (x := X1) (by have := HR.out.1; rw [h34, wf_open] at this; exact this) (fun o ho => by rw [HX1.out.1, h34]; exact .opens suf o ho))
          have HSZ : Hid ((O ++ X1).size ≤ 9 * (k + 1)) := by show _ ≤ _; rw [app_size, HX1.out.2]; omega
          rw [← hsuf.out.2] at HN
          clear h34 hne
          go_wp2
          go_roundw
          case rel => exact ⟨k + 1, m + 1, true, O ++ X1, by omega, by omega, by go_num, by go_num, rfl, rfl, HSZ.out, HN, HW⟩
          case measure => simp [intOf]; omega
        · have hc34 : ((c.toNat : Int) == 34) = false := hne 34 h34
          have hwf : wf false suf = true := by have := HR.out.1; rw [wf_out h34] at this; exact this
          cases hsg : isSign c with
          | true =>
            obtain ⟨j1, e1, hj1⟩ : ∃ j1 : Nat, p % 4 = (j1 : Int) ∧ j1 < 4 := ⟨(p % 4).toNat, by omega, by omega⟩
            obtain ⟨j2, e2, hj2⟩ : ∃ j2 : Nat, p / 2 = (j2 : Int) ∧ j2 < 4 := ⟨(p / 2).toNat, by omega, by omega⟩
            have hW2 := HW.out
            rw [HW1.out] at hW2
            have b1 := blk_cells hW2 hj1
            have b2 := blk_cells hW2 hj2
            clear hW2
            have HN := hide0 (HR.out.step (q' := false) (suf' := suf) (x := blk j1 ++ X1 ++ blk j2) hwf (fun o ho => by rw [app_list, app_list, HX1.out.1]; simpa using Sp.sign c (blk j1).data.toList (blk j2).data.toList suf o hsg (blk_blank j1).1 (blk_blank j2).1 ho))
            rw [← hsuf.out.2] at HN
            have hs1 := (blk_blank j1).2
            have hs2 := (blk_blank j2).2
            have HEQ : Hid (O ++ (blk j1 ++ X1 ++ blk j2) = O ++ blk j1 ++ X1 ++ blk j2) := by
              show _ = _
              apply bytes_inj
              simp only [app_list, List.append_assoc]
            rw [HEQ.out] at HN
            have HSZ : Hid ((O ++ blk j1 ++ X1 ++ blk j2).size ≤ 9 * (k + 1)) := by show _ ≤ _; simp only [app_size, HX1.out.2]; omega
            have k1 : ¬ 9223372036854775807 < O.size + (blk j1).size := by omega
            have k2 : ¬ 9223372036854775807 < (O ++ blk j1).size + X1.size := by simp only [app_size, HX1.out.2]; omega
            have k3 : ¬ 9223372036854775807 < (O ++ blk j1 ++ X1).size + (blk j2).size := by simp only [app_size, HX1.out.2]; omega
            have hcs : c = 44 ∨ c = 58 ∨ c = 91 ∨ c = 93 ∨ c = 123 ∨ c = 125 := by
              simp only [isSign, Bool.or_eq_true, beq_iff_eq] at hsg
              rcases hsg with ((((h | h) | h) | h) | h) | h <;> simp [h]
            generalize blk j1 = B1 at b1 HN HSZ k1 k2 k3
            generalize blk j2 = B2 at b2 HN HSZ k3
            clear h34 hne hwf hsg hs1 hs2 HEQ hc34 HR hsuf HX1
            rcases hcs with rfl | rfl | rfl | rfl | rfl | rfl
            all_goals
              go_wp2_with fail
              go_quiet (fail)
              have HW' := hide0 (show Below w1.heap.size w1 (wr.drewN nq) from ⟨HW.out.os, HW.out.tape, HW.out.output, HW.out.size, HW.out.block⟩)
              go_wp2
              go_roundw
              case rel => exact ⟨k + 1, m + 1, false, O ++ B1 ++ X1 ++ B2, by omega, by omega, by go_num, by go_num, rfl, rfl, HSZ.out, HN, HW'⟩
              case measure => simp [intOf]; omega
          | false =>
            have HN := hide0 (HR.out.step (q' := false) (suf' := suf) (x := X1) hwf (fun o ho => by rw [HX1.out.1]; exact .other c suf o hsg h34 ho))
            have HSZ : Hid ((O ++ X1).size ≤ 9 * (k + 1)) := by show _ ≤ _; rw [app_size, HX1.out.2]; omega
            rw [← hsuf.out.2] at HN
            simp only [isSign, Bool.or_eq_false_iff, beq_eq_false_iff_ne] at hsg
            obtain ⟨⟨⟨⟨⟨g1, g2⟩, g3⟩, g4⟩, g5⟩, g6⟩ := hsg
            have j1 : ((c.toNat : Int) == 44) = false := hne 44 g1
            have j2 : ((c.toNat : Int) == 58) = false := hne 58 g2
            have j3 : ((c.toNat : Int) == 91) = false := hne 91 g3
            have j4 : ((c.toNat : Int) == 93) = false := hne 93 g4
            have j5 : ((c.toNat : Int) == 123) = false := hne 123 g5
            have j6 : ((c.toNat : Int) == 125) = false := hne 125 g6
            clear h34 hne hwf g1 g2 g3 g4 g5 g6
            go_wp2
            go_roundw
            case rel => exact ⟨k + 1, m + 1, false, O ++ X1, by omega, by omega, by go_num, by go_num, rfl, rfl, HSZ.out, HN, HW⟩
            case measure => simp [intOf]; omega
    · have hkn : k = S.size := by omega
      have HF : Hid (Sp false S.data.toList O.data.toList) := by
        have h1 := HR.out
        rw [List.drop_eq_nil_of_le (by simp; omega)] at h1
        cases q with
        | true => have := h1.1; simp [wf] at this
        | false => have := h1.2 [] .nil; show Sp _ _ _; simpa using this
      have HB : Hid (Below w.heap.size w wr) := by
        have := HW.out
        rw [HW1.out] at this
        exact ((Below.refl _ _).alloc (Nat.le_refl _) _).trans (this.mono (by simp))
      go_wp2
      go_ret
      exact ⟨O, rfl, HF, by omega, HB.out⟩
end Go.Proofs.YtodlcnbknjldnaaGreatDoor
namespace Go.Proofs.YtodlcnbknjldnaaGreatDoor
open Go.RowKit Chron
theorem raw_int (a : Option Addr) (n cap : Nat) (i : Int) (w : World) (h : Hid (IntsAt w a n)) (hn : n ≤ maxLen) (h0 : 0 ≤ i) (hi : i ≤ 100) :
    Calls Tryz.prog 25 #[.slice a n cap, .int .i64 i] w fun e w' => (∃ z, e = .returned (.int .i64 z) ∧ Hid (-9223372036854775808 ≤ z)) ∧ w' = w := by
  obtain ⟨j, rfl⟩ := Int.eq_ofNat_of_zero_le h0
  exact raw_any a n cap j w h hn (by omega)
theorem line_40 (c : Int) (w : World) (h0 : Hid (-9223372036854775808 ≤ c)) : Calls Tryz.prog 36 #[.int .i64 c, .int .i64 40] w fun e w' => (∃ s, e = .returned (.string s) ∧ Hid (lineN s 40)) ∧ Below w.heap.size w w' := line_any c 40 w h0 (by omega)
theorem line_60 (c : Int) (w : World) (h0 : Hid (-9223372036854775808 ≤ c)) : Calls Tryz.prog 36 #[.int .i64 c, .int .i64 60] w fun e w' => (∃ s, e = .returned (.string s) ∧ Hid (lineN s 60)) ∧ Below w.heap.size w w' := line_any c 60 w h0 (by omega)
theorem line_20 (c : Int) (w : World) (h0 : Hid (-9223372036854775808 ≤ c)) : Calls Tryz.prog 36 #[.int .i64 c, .int .i64 20] w fun e w' => (∃ s, e = .returned (.string s) ∧ Hid (lineN s 20)) ∧ Below w.heap.size w w' := line_any c 20 w h0 (by omega)
set_option maxRecDepth 100000 in
set_option maxHeartbeats 400000 in
theorem raw_fix (a : Option Addr) (n cap i : Nat) (w : World) (h : IntsAt w a n) (_hn : n ≤ maxLen) (_hi : i ≤ 4) :
    ∃ z, Hid (-9223372036854775808 ≤ z) ∧ ∀ X, Below w.heap.size w X → Calls Tryz.prog 25 #[.slice a n cap, .int .i64 (5 + (i : Int))] X fun e w' => e = .returned (.int .i64 z) ∧ w' = X := by
  unfold maxLen at _hn
  by_cases hlt : 5 + i < n
  · obtain ⟨b, off, z, rfl, hc, hz⟩ := h (5 + i) hlt
    refine ⟨z, hz, fun X hb => ?_⟩
    have hlb := World.block_lt_of_cell? w _ hc
    have hc' : X.cell? ⟨b, off + (5 + i), none⟩ = some (.int .i64 z) := (hb.cell (p := ⟨b, off + (5 + i), none⟩) hlb).trans hc
    have hi5 : (5 + (i : Int)) < (n : Int) := by omega
    have ht5 : (5 + (i : Int)).toNat = 5 + i := by omega
    clear hc hlb hb
    go_enter Tryz.func25, Tryz.ntmps25
    go_wp2
    go_ret
    exact ⟨rfl, rfl⟩
  · refine ⟨0, by show (-9223372036854775808 : Int) ≤ 0; decide, fun X _ => ?_⟩
    go_enter Tryz.func25, Tryz.ntmps25
    go_wp2
    go_ret
    exact ⟨rfl, rfl⟩
theorem conv_at (x : Int) (h0 : 0 ≤ x) (h1 : x < 256) (X : World) (b : Nat) (hX : X.heap[b]? = some (.cells #[.int .u8 x] 5)) :
    (convert 56 9 (.slice (some ⟨b, 0, none⟩) 1 1)).run Tryz.prog X = .ok (.string ⟨#[UInt8.ofNat x.toNat]⟩) X := by
  refine run_convert_bytes_back X _ _ 5 ⟨b, 0, none⟩ 1 [UInt8.ofNat x.toNat] Tryz.underlying56 Tryz.underlying5 Tryz.underlying9 ?_
  intro j hj
  have hj0 : j = 0 := by simpa using hj
  subst hj0
  simp [World.cell?, Addr.add, hX]
  omega
theorem cell_one_new2 (w : World) (o : Obj) (v : Value) (t : TypeId) : ∀ j u, [v][j]? = some u → ((w.alloc o).alloc (.cells #[v] t)).cell? ((⟨w.heap.size + 1, 0, none⟩ : Addr).add j) = some u := by
  have := cell_one_new (w.alloc o) v t
  rw [World.size_alloc] at this
  exact this
theorem own_two {w : World} {base : Nat} {e : TypeId} {size : Nat} {v : Value} {n : Nat} {xs : List Value} (h : w.ownsRow base e size v n xs) (o o' : Obj) : ((w.alloc o).alloc o').ownsRow base e size v n xs := (h.alloc o).alloc o'
theorem tag_made {s : ByteArray} {L : Nat} (h : lineN s 20) (hL : L ≤ 4) : ∃ r : List UInt8, (⟨#[UInt8.ofNat (97 + (L : Int)).toNat]⟩ ++ s : ByteArray).data.toList = UInt8.ofNat (97 + L) :: r ∧ r.length ≤ 20 ∧ r.all byteOk = true := by
  refine ⟨s.data.toList, ?_, by have := h.1; simpa using this, h.2⟩
  have e : (97 + (L : Int)).toNat = 97 + L := by omega
  rw [e]
  obtain ⟨⟨s⟩⟩ := s; simp
structure EvAt (N P : Nat) (w wx : World) (k : Int) (t : ByteArray) (m : Int) (b : ByteArray) (v : Value) : Prop where
  box : wx.heap[P]? = some (.cells #[.int .i64 k, .string t, .int .i64 m, .string b, v] 29)
  res : wx.heap[N]? = some (.cells #[.int .i64 0, .string ⟨#[]⟩, .int .i64 0, .string ⟨#[]⟩, .slice none 0 0] 29)
  bel : Below N w wx
  lt : N < P
  big : P + 1 ≤ wx.heap.size
theorem EvAt.grown {N P : Nat} {w wx wy : World} {k : Int} {t : ByteArray} {m : Int} {b : ByteArray} {v : Value} {row : Option Nat} (h : EvAt N P w wx k t m b v) (hg : wx.grownBy wy row) (hr : ∀ q, row = some q → P + 1 ≤ q) : EvAt N P w wy k t m b v := by
  have hbig := h.big
  have hlt := h.lt
  have hblk : ∀ q, q ≤ P → wy.heap[q]? = wx.heap[q]? := fun q hq => hg.block q (by omega) (fun e => by have := hr q e.symm; omega)
  exact ⟨(hblk P (Nat.le_refl _)).trans h.box, (hblk N (by omega)).trans h.res, h.bel.trans ⟨hg.os, hg.tape, hg.output, hg.size, fun q hq => hblk q (by omega)⟩, hlt, Nat.le_trans hbig hg.size⟩
theorem EvAt.below {N P : Nat} {w wx wy : World} {k : Int} {t : ByteArray} {m : Int} {b : ByteArray} {v : Value} (h : EvAt N P w wx k t m b v) (hb : Below wx.heap.size wx wy) : EvAt N P w wy k t m b v :=
  h.grown (row := none) ⟨hb.os, hb.tape, hb.output, hb.size, fun k hk _ => hb.block k hk⟩ (fun q hq => by cases hq)
theorem EvAt.alloc {N P : Nat} {w wx : World} {k : Int} {t : ByteArray} {m : Int} {b : ByteArray} {v : Value} (h : EvAt N P w wx k t m b v) (o : Obj) : EvAt N P w (wx.alloc o) k t m b v :=
  h.below ((Below.refl _ _).alloc (Nat.le_refl _) _)
theorem EvAt.drew {N P : Nat} {w wx : World} {k : Int} {t : ByteArray} {m : Int} {b : ByteArray} {v : Value} (h : EvAt N P w wx k t m b v) : EvAt N P w wx.drew k t m b v :=
  ⟨h.box, h.res, h.bel.drew, h.lt, h.big⟩
theorem EvAt.put {N P : Nat} {w wx : World} {k : Int} {t : ByteArray} {m : Int} {b : ByteArray} {v : Value} (h : EvAt N P w wx k t m b v) :
    (∀ k', EvAt N P w (wx.setCell ⟨P, 0, none⟩ (.int .i64 k')) k' t m b v) ∧ (∀ m', EvAt N P w (wx.setCell ⟨P, 2, none⟩ (.int .i64 m')) k t m' b v) ∧ (∀ v', EvAt N P w (wx.setCell ⟨P, 4, none⟩ v') k t m b v') := by
  have hlt := h.lt
  refine ⟨fun x => ⟨?_, ?_, h.bel.setCell (by simp; omega) _, hlt, ?_⟩, fun x => ⟨?_, ?_, h.bel.setCell (by simp; omega) _, hlt, ?_⟩, fun x => ⟨?_, ?_, h.bel.setCell (by simp; omega) _, hlt, ?_⟩⟩
  all_goals first
    | (rw [Below.heap_setCell _ _ _ _ (by simp; omega)]; exact h.res)
    | (simp [World.setCell]; exact h.big)
    | (simp [World.setCell, Array.getElem?_modify, h.box])
set_option maxRecDepth 100000 in
set_option maxHeartbeats 8000000 in
theorem event_any (v : Int) (a : Option Addr) (n cap : Nat) (w : World) (hI : Hid (IntsAt w a n)) (hn : n ≤ maxLen) (hv1 : 1 ≤ v) (_hv3 : v ≤ 3) :
    Calls Tryz.prog 22 #[.slice a n cap, .int .i64 v] w fun e w' =>
      ∃ E x, e = .returned (evVal E x) ∧ Hid (∀ k, v ≤ k → k ≤ 3 → goesB k E = true) ∧ w'.ownsRow w.heap.size 9 1 x E.tags.length (E.tags.map Value.string) ∧ Below w.heap.size w w' := by
  have hI0 : Hid (IntsAt (w.alloc (.cells #[.int .i64 0, .string ⟨#[]⟩, .int .i64 0, .string ⟨#[]⟩, .slice none 0 0] 29)) a n) := hI.out.below ((Below.refl _ _).alloc (Nat.le_refl _) _) (Nat.le_refl _)
  go_enter Tryz.func22, Tryz.ntmps22
  go_wp2_with fail
  refine (raw_int a n cap 0 _ hI0 hn (by omega) (by omega)).mono ?_
  rintro e wq ⟨⟨z0, rfl, hz0⟩, hwq⟩
  have hwq' := hwq.symm; subst hwq'; clear hwq
  go_wp2_with fail
  refine (pick_any z0 4 _ hz0.out (by omega)).mono ?_
  rintro e wq ⟨⟨p0, rfl, hp0, hp1⟩, hwq⟩
  have hwq' := hwq.symm; subst hwq'; clear hwq
  go_wp2_with fail
  refine (raw_int a n cap 1 _ hI0 hn (by omega) (by omega)).mono ?_
  rintro e wq ⟨⟨z1, rfl, hz1⟩, hwq⟩
  have hwq' := hwq.symm; subst hwq'; clear hwq
  go_wp2_with fail
  refine (line_40 z1 _ hz1).mono ?_
  rintro e w1 ⟨⟨s1, rfl, hs1⟩, hb1⟩
  have hI1 : Hid (IntsAt w1 a n) := hI0.out.below hb1 (Nat.le_refl _)
  have hsz1 := hs1.out.1
  go_wp2_with fail
  refine (raw_int a n cap 2 _ hI1 hn (by omega) (by omega)).mono ?_
  rintro e wq ⟨⟨z2, rfl, hz2⟩, hwq⟩
  have hwq' := hwq.symm; subst hwq'; clear hwq
  go_wp2_with fail
  refine (line_60 z2 _ hz2).mono ?_
  rintro e w2 ⟨⟨s2, rfl, hs2⟩, hb2⟩
  have hI2 : Hid (IntsAt w2 a n) := hI1.out.below hb2 (Nat.le_refl _)
  have hsA := hb1.size
  rw [World.size_alloc] at hsA
  have hsB := hb2.size
  have hZ1 := (hb1.block w.heap.size (by rw [World.size_alloc]; omega)).trans (heap_alloc_new w _)
  have hZ2 := (hb2.block w.heap.size (by omega)).trans hZ1
  have HE0 : Hid (EvAt w.heap.size w2.heap.size w (w2.alloc (.cells #[.int .i64 (1 + p0), .string (⟨#[116]⟩ ++ s1), .int .i64 0, .string s2, .slice none 0 0] 29)) (1 + p0) (⟨#[116]⟩ ++ s1) 0 s2 (.slice none 0 0)) :=
    ⟨heap_alloc_new w2 _, (Below.heap_alloc _ _ _ (by omega)).trans hZ2, ((((Below.refl w.heap.size w).alloc (Nat.le_refl _) _).trans (hb1.mono (by rw [World.size_alloc]; omega))).trans (hb2.mono (by omega))).alloc (by omega) _, by omega, by rw [World.size_alloc]; omega⟩
  have hI3 : Hid (IntsAt (w2.alloc (.cells #[.int .i64 (1 + p0), .string (⟨#[116]⟩ ++ s1), .int .i64 0, .string s2, .slice none 0 0] 29)) a n) := hI2.out.below ((Below.refl _ _).alloc (Nat.le_refl _) _) (Nat.le_refl _)
  have hIold : Hid (∀ wx, Below w.heap.size w wx → IntsAt wx a n) := fun wx hb => hI.out.below hb (Nat.le_refl _)
  clear hb1 hb2 hZ1 hZ2 hI0 hI1 hI2 hsB hsA
  obtain ⟨P, hP⟩ : ∃ P, P = w2.heap.size := ⟨_, rfl⟩
  by_cases hv : v = 1
  · have hvb : (v == 1) = true := by simp [hv]
    have HV := hide0 hv
    clear hv
    go_wp2_with fail
    generalize w2.alloc (.cells #[.int .i64 (1 + p0), .string (⟨#[116]⟩ ++ s1), .int .i64 0, .string s2, .slice none 0 0] 29) = W3 at HE0 hI3 ⊢
    refine (raw_int a n cap 0 _ hI3 hn (by omega) (by omega)).mono ?_
    rintro e wq ⟨⟨z3, rfl, hz3⟩, hwq⟩
    have hwq' := hwq.symm; subst hwq'; clear hwq
    go_wp2_with fail
    refine (pick_any z3 3 _ hz3.out (by omega)).mono ?_
    rintro e wq ⟨⟨p3, rfl, hp2, hp3⟩, hwq⟩
    have hwq' := hwq.symm; subst hwq'; clear hwq
    obtain ⟨c0, c1, c2, c3, c4, cz⟩ := res_cells HE0.out.box
    obtain ⟨r0, r1, r2, r3, r4, rz⟩ := res_cells HE0.out.res
    have hne : ¬ w2.heap.size = w.heap.size := by have := HE0.out.lt; omega
    go_wp2
    refine bodyPost_ret (v := evVal ⟨1 + p3, ⟨#[116]⟩ ++ s1, 0, s2, []⟩ (.slice none 0 0)) (by simp [results, Tryz.results22, go_sem, evVal, r0, r1, r2, r3, r4]) rfl ⟨⟨1 + p3, ⟨#[116]⟩ ++ s1, 0, s2, []⟩, .slice none 0 0, rfl, ?_, World.ownsRow_nil _ _ _ _, ?_⟩
    · intro k hk1 hk3
      exact event_goes (v := v) hs1.out hs2.out rfl rfl (by simp; omega) (by simp; omega) (by simp) (by simp) (tagsI_ok (fun i hi => by simp at hi) (by simp)) hv1 hk1 hk3 (fun _ => ⟨by simp; omega, rfl⟩) (fun _ => rfl)
    · exact below_set5 (HE0.out.bel.setCell (Nat.le_of_lt HE0.out.lt) _) (Nat.le_refl _)
  · have hvb : (v == 1) = false := by simp [hv]
    have HV := hide0 hv
    clear hv
    go_wp2_with fail
    generalize w2.alloc (.cells #[.int .i64 (1 + p0), .string (⟨#[116]⟩ ++ s1), .int .i64 0, .string s2, .slice none 0 0] 29) = W3 at HE0 hI3 ⊢
    refine (raw_int a n cap 3 _ hI3 hn (by omega) (by omega)).mono ?_
    rintro e wq ⟨⟨z3, rfl, hz3⟩, hwq⟩
    have hwq' := hwq.symm; subst hwq'; clear hwq
    go_wp2_with fail
    refine (pick_any z3 1125899906842625 _ hz3.out (by omega)).mono ?_
    rintro e wq ⟨⟨p3, rfl, hp2, hp3⟩, hwq⟩
    have hwq' := hwq.symm; subst hwq'; clear hwq
    obtain ⟨c0, c1, c2, c3, c4, cz⟩ := res_cells HE0.out.box
    have HE1 : Hid _ := HE0.out.put.2.1 p3
    go_wp2_with fail
    have hlt0 := HE0.out.lt
    have HP : Hid (P = w2.heap.size) := hP
    clear c0 c1 c2 c3 c4 cz HE0 hI3 hP
    go_loopw [6] (fun i wx => ∃ (acc : List ByteArray) (a' : Option Addr) (cap' : Nat), acc.length ≤ 4 ∧ i = .int .i64 acc.length ∧ Hid (EvAt w.heap.size w2.heap.size w wx (1 + p0) (⟨#[116]⟩ ++ s1) p3 s2 (.slice a' acc.length cap')) ∧ Hid (wx.ownsRow (w2.heap.size + 1) 9 1 (.slice a' acc.length cap') acc.length (acc.map Value.string)) ∧ Hid (TagsI acc) ∧ Hid (v ≤ 2 → acc = [])) (fun i _ => 4 - (intOf i).toNat)
    case atStart => exact ⟨[], none, 0, by simp, rfl, HE1, World.ownsRow_nil _ _ _ _, fun i hi => by simp at hi, fun _ => rfl⟩
    case round =>
      obtain ⟨acc, a', cap', hacc, rfl, HE, HO, HT, H2⟩ := hrel
      clear HE1
      have hIr : Hid (IntsAt wr a n) := hIold.out wr HE.out.bel
      go_wp2_with fail
      refine (raw_int a n cap 4 _ hIr hn (by omega) (by omega)).mono ?_
      rintro e wq ⟨⟨z4, rfl, hz4⟩, hwq⟩
      have hwq' := hwq.symm; subst hwq'; clear hwq
      go_wp2_with fail
      refine (pick_any z4 5 _ hz4.out (by omega)).mono ?_
      rintro e wq ⟨⟨p5, rfl, hp5, hp6⟩, hwq⟩
      have hwq' := hwq.symm; subst hwq'; clear hwq
      obtain ⟨c0, c1, c2, c3, c4, cz⟩ := res_cells HE.out.box
      by_cases hgo : (acc.length : Int) < p5
      · by_cases hv3' : v = 3
        · have hv3b : (v == 3) = true := by simp [hv3']
          have HV3 : Hid (v = 3) := hv3'
          clear hv3'
          have w97 : IntKind.i64.wrap (97 + (acc.length : Int)) = 97 + (acc.length : Int) := wrapI_small (by omega) (by omega)
          have w5 : IntKind.i64.wrap (5 + (acc.length : Int)) = 5 + (acc.length : Int) := wrapI_small (by omega) (by omega)
          have w8 : IntKind.u8.wrap (97 + (acc.length : Int)) = 97 + (acc.length : Int) := by simp [IntKind.wrap, IntKind.bits, IntKind.signed]; omega
          have hL4 : acc.length ≤ 3 := by omega
          obtain ⟨i0, hi, hz0', hz1', hz2'⟩ := info_parts infoString
          obtain ⟨z5, hz5, hraw⟩ := raw_fix a n cap acc.length w hI.out hn (by omega)
          have hB0 : Below w.heap.size w wr.drew := HE.out.bel.drew
          have hB1 : ∀ o, Below w.heap.size w (wr.alloc o).drew := fun o => (HE.out.bel.alloc (by have := HE.out.big; omega) o).drew
          have e1 : acc.length + 1 ≤ maxLen := by unfold maxLen; omega
          have e2 : (acc.length + 1) * 16 ≤ 140737488355328 := by omega
          have d4 : ∀ o, (wr.alloc o).cell? ⟨w2.heap.size, 4, none⟩ = some (.slice a' acc.length cap') := fun o => (res_cells (HE.out.alloc o).box).2.2.2.2.1
          have hline : ∀ X, (X = wr.drew ∨ X = (wr.alloc (.cells #[.int .u8 (97 + (acc.length : Int))] 5)).drew) → Calls Tryz.prog 36 #[.int .i64 z5, .int .i64 20] X fun e wz => ∃ s, e = .returned (.string s) ∧ ¬ 9223372036854775807 < 1 + s.size ∧ Hid (lineN s 20) ∧ Hid (EvAt w.heap.size w2.heap.size w wz (1 + p0) (⟨#[116]⟩ ++ s1) p3 s2 (.slice a' acc.length cap')) ∧ Hid (wz.ownsRow (w2.heap.size + 1) 9 1 (.slice a' acc.length cap') acc.length (acc.map Value.string)) ∧
              wz.cell? ⟨w2.heap.size, 4, none⟩ = some (.slice a' acc.length cap') ∧ (∀ o, (wz.alloc o).cell? ⟨w2.heap.size, 4, none⟩ = some (.slice a' acc.length cap')) ∧ (∀ o o', ((wz.alloc o).alloc o').cell? ⟨w2.heap.size, 4, none⟩ = some (.slice a' acc.length cap')) ∧
              (X = (wr.alloc (.cells #[.int .u8 (97 + (acc.length : Int))] 5)).drew → (convert 56 9 (.slice (some ⟨wr.heap.size, 0, none⟩) 1 1)).run Tryz.prog wz = .ok (.string ⟨#[UInt8.ofNat (97 + (acc.length : Int)).toNat]⟩) wz) ∧ (∀ o, (convert 56 9 (.slice (some ⟨wz.heap.size, 0, none⟩) 1 1)).run Tryz.prog ((wz.alloc (.cells #[.int .u8 (97 + (acc.length : Int))] 5)).alloc o) = .ok (.string ⟨#[UInt8.ofNat (97 + (acc.length : Int)).toNat]⟩) ((wz.alloc (.cells #[.int .u8 (97 + (acc.length : Int))] 5)).alloc o)) := by
            intro X hX
            refine (line_20 z5 X hz5).mono ?_
            rintro e wz ⟨⟨s, rfl, hs⟩, hb⟩
            have HY : EvAt w.heap.size w2.heap.size w wz (1 + p0) (⟨#[116]⟩ ++ s1) p3 s2 (.slice a' acc.length cap') := by
              rcases hX with rfl | rfl
              · exact HE.out.drew.below hb
              · exact (HE.out.alloc _).drew.below hb
            refine ⟨s, rfl, by have := hs.out.1; omega, hs, HY, ?_, (res_cells HY.box).2.2.2.2.1, fun o => (res_cells (HY.alloc o).box).2.2.2.2.1, fun o o' => (res_cells ((HY.alloc o).alloc o').box).2.2.2.2.1, ?_, ?_⟩
            · rcases hX with rfl | rfl
              · exact own_below (World.ownsRow.drew HO.out) hb
              · exact own_below (World.ownsRow.drew (World.ownsRow.alloc HO.out _)) hb
            · intro hX2
              subst hX2
              exact conv_at _ (by omega) (by omega) wz _ ((hb.block wr.heap.size (by show wr.heap.size < (wr.alloc _).heap.size; rw [World.size_alloc]; omega)).trans (heap_alloc_new wr _))
            · intro o
              exact conv_at _ (by omega) (by omega) _ _ ((Below.heap_alloc _ _ _ (by rw [World.size_alloc]; omega)).trans (heap_alloc_new wz _))
          have hcvD : (convert 56 9 (.slice (some ⟨wr.heap.size, 0, none⟩) 1 1)).run Tryz.prog (wr.alloc (.cells #[.int .u8 (97 + (acc.length : Int))] 5)).drew = .ok (.string ⟨#[UInt8.ofNat (97 + (acc.length : Int)).toNat]⟩) (wr.alloc (.cells #[.int .u8 (97 + (acc.length : Int))] 5)).drew := conv_at _ (by omega) (by omega) _ _ (heap_alloc_new wr _)
          have hcv := conv_one (97 + (acc.length : Int)) (by omega) (by omega)
          have HKEEP : Hid (TagsI acc ∧ acc.length ≤ 4 ∧ (0 ≤ p5 ∧ p5 < 5 ∧ (acc.length : Int) < p5) ∧ (v ≤ 2 → acc = []) ∧ v = 3) := ⟨HT.out, hacc, ⟨hp5, hp6, hgo⟩, H2.out, HV3.out⟩
          go_upto_region 9 with fail
          clear c0 c1 c2 c3 HT H2 hIr hI hIold hz4 hz3 hz2 hz1 hz0 hs1 hs2 hp5 hp6 hacc hsz1 hp0 hp1 hp2 hp3 hn HP hv1 _hv3 hlt0 HV hvb hv3b hgo hL4
          go_region_law (first
            | (have hq9 := HQ.out
               have e3 : ∀ o, w2.heap.size + 1 ≤ (wz.alloc o).heap.size := fun o => by have := HY.out.big; simp; omega
               refine step_append_lies _ rfl _ _ 22 rfl (w2.heap.size + 1) 9 i0 (.string ⟨#[]⟩) 1 16 Tryz.underlying22 hi hz0' hz1' hz2' rfl Nat.one_pos _ _ _ rfl (World.ownsRow.alloc hq9 _) ⟨wz.heap.size, 0, none⟩ 1 1 [_] rfl rfl (cell_one_new _ _ _) (one_string _) Nat.one_pos e1 e2 (e3 _) _ rfl ?_
               clear hq9 e3
               intro g cap'' wa hown' hgrow hat hglt
               have HA : Hid (EvAt w.heap.size w2.heap.size w wa (1 + p0) (⟨#[116]⟩ ++ s1) p3 s2 (.slice a' acc.length cap')) := (HY.out.alloc _).grown hgrow (fun q hq => (World.ownsRow.lt HQ.out q hq).1)
               have HO' : Hid (wa.ownsRow (w2.heap.size + 1) 9 1 (.slice (some ⟨g, 0, none⟩) (acc.length + 1) cap'') (acc.length + 1) (acc.map Value.string ++ [.string (⟨#[UInt8.ofNat (97 + (acc.length : Int)).toNat]⟩ ++ s)])) := hown'
               have ca := (res_cells HA.out.box).2.2.2.2.1
               have za := (res_cells HA.out.box).2.2.2.2.2
               clear hgrow hown' hat)
            | (have hq9 := HQ.out
               have e3 : ∀ o o', w2.heap.size + 1 ≤ ((wz.alloc o).alloc o').heap.size := fun o o' => by have := HY.out.big; simp; omega
               refine step_append_lies _ rfl _ _ 22 rfl (w2.heap.size + 1) 9 i0 (.string ⟨#[]⟩) 1 16 Tryz.underlying22 hi hz0' hz1' hz2' rfl Nat.one_pos _ _ _ rfl (own_two hq9 _ _) ⟨wz.heap.size + 1, 0, none⟩ 1 1 [_] rfl rfl (cell_one_new2 _ _ _ _) (one_string _) Nat.one_pos e1 e2 (e3 _ _) _ rfl ?_
               clear hq9 e3
               intro g cap'' wa hown' hgrow hat hglt
               have HA : Hid (EvAt w.heap.size w2.heap.size w wa (1 + p0) (⟨#[116]⟩ ++ s1) p3 s2 (.slice a' acc.length cap')) := ((HY.out.alloc _).alloc _).grown hgrow (fun q hq => (World.ownsRow.lt HQ.out q hq).1)
               have HO' : Hid (wa.ownsRow (w2.heap.size + 1) 9 1 (.slice (some ⟨g, 0, none⟩) (acc.length + 1) cap'') (acc.length + 1) (acc.map Value.string ++ [.string (⟨#[UInt8.ofNat (97 + (acc.length : Int)).toNat]⟩ ++ s)])) := hown'
               have ca := (res_cells HA.out.box).2.2.2.2.1
               have za := (res_cells HA.out.box).2.2.2.2.2
               clear hgrow hown' hat)
            | (go_simp; go_at_call 25; refine (hraw _ ?_).mono ?_; first | exact hB0 | exact hB1 _
               rintro e wq ⟨rfl, hwq⟩; have hwq' := hwq.symm; subst hwq'; clear hwq)
            | (go_simp; go_at_call 36; refine (hline _ ?_).mono ?_; first | exact Or.inl rfl | exact Or.inr rfl
               rintro e wz ⟨s, rfl, hsz20, hsl, HY, HQ, cz0, cz1, cz2, cvz, cvy⟩))
          all_goals
            obtain ⟨k1, k2, ⟨k3, k4, k5⟩, k6, k7⟩ := HKEEP.out
            clear hline hraw hcv hcvD d4 cvz cvy cz0 cz1 cz2 hB0 hB1
            have HX1 : Hid ((acc ++ [(⟨#[UInt8.ofNat (97 + (acc.length : Int)).toNat]⟩ ++ s)]).length ≤ 4) := by show _ ≤ _; simp; omega
            have HX2 : Hid (Value.int .i64 ((acc.length : Int) + 1) = .int .i64 ((acc ++ [(⟨#[UInt8.ofNat (97 + (acc.length : Int)).toNat]⟩ ++ s)]).length : Nat)) := by show _ = _; simp
            have HX3 : Hid (EvAt w.heap.size w2.heap.size w (wa.setCell ⟨w2.heap.size, 4, none⟩ (.slice (some ⟨g, 0, none⟩) (acc.length + 1) cap'')) (1 + p0) (⟨#[116]⟩ ++ s1) p3 s2 (.slice (some ⟨g, 0, none⟩) (acc ++ [(⟨#[UInt8.ofNat (97 + (acc.length : Int)).toNat]⟩ ++ s)]).length cap'')) := by
              show EvAt _ _ _ _ _ _ _ _ _
              rw [List.length_append]; exact HA.out.put.2.2 _
            have HX4 : Hid ((wa.setCell ⟨w2.heap.size, 4, none⟩ (.slice (some ⟨g, 0, none⟩) (acc.length + 1) cap'')).ownsRow (w2.heap.size + 1) 9 1 (.slice (some ⟨g, 0, none⟩) (acc ++ [(⟨#[UInt8.ofNat (97 + (acc.length : Int)).toNat]⟩ ++ s)]).length cap'') (acc ++ [(⟨#[UInt8.ofNat (97 + (acc.length : Int)).toNat]⟩ ++ s)]).length ((acc ++ [(⟨#[UInt8.ofNat (97 + (acc.length : Int)).toNat]⟩ ++ s)]).map Value.string)) := by
              show World.ownsRow _ _ _ _ _ _ _
              rw [List.length_append, List.map_append]; exact ownsRow_setCell_below HO'.out (Nat.lt_succ_self _) _
            have HX5 : Hid (TagsI (acc ++ [(⟨#[UInt8.ofNat (97 + (acc.length : Int)).toNat]⟩ ++ s)])) := tagsI_push k1 (tag_made hsl.out k2)
            have HX6 : Hid (v ≤ 2 → acc ++ [(⟨#[UInt8.ofNat (97 + (acc.length : Int)).toNat]⟩ ++ s)] = []) := fun h => by omega
            clear k1 k2 k6 k7
            go_wp2
            go_roundw
            case rel =>
              first
                | exact ⟨acc ++ [(⟨#[UInt8.ofNat (97 + (acc.length : Int)).toNat]⟩ ++ s)], some ⟨g, 0, none⟩, cap'', HX1.out, HX2.out, HX3, HX4, HX5, HX6⟩
                | ((repeat apply Exists.intro); exact ⟨⟨acc ++ [(⟨#[UInt8.ofNat (97 + (acc.length : Int)).toNat]⟩ ++ s)], some ⟨g, 0, none⟩, cap'', HX1.out, HX2.out, HX3, HX4, HX5, HX6⟩, rfl⟩)
            case measure => simp [intOf]; omega
        · have hv3b : (v == 3) = false := by simp [hv3']
          have HV3 := hide0 hv3'
          clear hv3'
          obtain ⟨r0, r1, r2, r3, r4, rz⟩ := res_cells HE.out.res
          have hne : ¬ w2.heap.size = w.heap.size := by omega
          go_wp2
          refine bodyPost_ret (v := evVal ⟨1 + p0, ⟨#[116]⟩ ++ s1, p3, s2, acc⟩ (.slice a' acc.length cap')) (by simp [results, Tryz.results22, go_sem, evVal, r0, r1, r2, r3, r4]) rfl ⟨⟨1 + p0, ⟨#[116]⟩ ++ s1, p3, s2, acc⟩, .slice a' acc.length cap', rfl, ?_, own_set5 HO.out (by omega) (by omega), below_set5 HE.out.bel (Nat.le_refl _)⟩
          intro k hk1 hk3
          exact event_goes (v := v) hs1.out hs2.out rfl rfl (by simp; omega) (by simp; omega) hp2 hp3 (tagsI_ok HT.out hacc) hv1 hk1 hk3 (fun h => absurd h HV.out) H2.out
      · obtain ⟨r0, r1, r2, r3, r4, rz⟩ := res_cells HE.out.res
        have hne : ¬ w2.heap.size = w.heap.size := by omega
        go_wp2
        refine bodyPost_ret (v := evVal ⟨1 + p0, ⟨#[116]⟩ ++ s1, p3, s2, acc⟩ (.slice a' acc.length cap')) (by simp [results, Tryz.results22, go_sem, evVal, r0, r1, r2, r3, r4]) rfl ⟨⟨1 + p0, ⟨#[116]⟩ ++ s1, p3, s2, acc⟩, .slice a' acc.length cap', rfl, ?_, own_set5 HO.out (by omega) (by omega), below_set5 HE.out.bel (Nat.le_refl _)⟩
        intro k hk1 hk3
        exact event_goes (v := v) hs1.out hs2.out rfl rfl (by simp; omega) (by simp; omega) hp2 hp3 (tagsI_ok HT.out hacc) hv1 hk1 hk3 (fun h => absurd h HV.out) H2.out
end Go.Proofs.YtodlcnbknjldnaaGreatDoor
namespace Go.Proofs.YtodlcnbknjldnaaGreatDoor
open Go.RowKit Chron
theorem IntsAt.sub {w : World} {a : Option Addr} {n i : Nat} (h : IntsAt w a n) (hi : i < n) : ∃ b off, a = some ⟨b, off, none⟩ ∧ IntsAt w (some ⟨b, off + i, none⟩) (n - i) := by
  obtain ⟨b, off, _, rfl, _⟩ := h i hi
  refine ⟨b, off, rfl, fun j hj => ?_⟩
  obtain ⟨b', off', z, he, hc, hz⟩ := h (i + j) (by omega)
  cases he
  exact ⟨b, off + i, z, rfl, by rw [Nat.add_assoc]; exact hc, hz⟩
def slLen : Value → Nat
  | .slice _ n _ => n
  | _ => 0
set_option maxRecDepth 100000 in
set_option maxHeartbeats 4000000 in
theorem events_all (v : Int) (hv1 : 1 ≤ v) (hv3 : v ≤ 3) (a : Option Addr) (n cap : Nat) (w : World) (hI : Hid (IntsAt w a n)) (hn : n ≤ 1000000000000000) (hnc : n ≤ cap) :
    Calls Tryz.prog 10 #[.slice a n cap, .int .i64 v] w fun e w' => ∃ (lv : Value) (its : List Item), e = .returned lv ∧ its.length ≤ 20 ∧ Hid (MadeO w.heap.size w' lv its) ∧ Hid (∀ it ∈ its, isB it.ev = true) ∧ Below w.heap.size w w' := by
  obtain ⟨i0, hi, hz0, hz1, hz2⟩ := info_parts infoEvent5
  go_enter Tryz.func10, Tryz.ntmps10
  go_wp2_with fail
  go_loopw [5, 6] (fun lv iv wx => ∃ (i : Nat) (its : List Item) (la : Option Addr) (lc : Nat), i ≤ n + 6 ∧ its.length ≤ 20 ∧ iv = .int .i64 i ∧ lv = .slice la its.length lc ∧ Hid (MadeO w.heap.size wx (.slice la its.length lc) its) ∧ Hid (∀ it ∈ its, isB it.ev = true) ∧ Hid (Below w.heap.size w wx)) (fun lv _ _ => 20 - slLen lv)
  case atStart => exact ⟨0, [], none, 0, by omega, by decide, rfl, rfl, MadeO.nil _ _, (fun it h => by cases h), Below.refl _ _⟩
  case round =>
    obtain ⟨i, its, la, lc, hin, hl, rfl, rfl, HM, HB, HW⟩ := hrel
    by_cases hlt : i < n
    · by_cases h20 : its.length < 20
      · have hsz := HW.out.size
        have HIr := hide0 (hI.out.below HW.out (Nat.le_refl _))
        obtain ⟨ib, io, rfl, hsub⟩ := HIr.out.sub hlt
        have hE := event_any v (some ⟨ib, io + i, none⟩) (n - i) (cap - i) wr hsub (by unfold maxLen; omega) hv1 hv3
        have hlti : (i : Int) < (n : Int) := by omega
        have hli : (its.length : Int) < 20 := by omega
        clear hsub
        go_wp2_with fail
        refine hE.mono ?_
        rintro e w3 ⟨E, x, rfl, HG, hvo, hb3⟩
        obtain ⟨va, vc, hve, _⟩ := own_tags hvo
        subst hve
        have hisB := goes_is (HG.out 3 hv3 (by decide))
        obtain ⟨F0, F1, F2, F3, F4⟩ := E
        simp only [evVal]
        have HVO := hide0 hvo
        have hs3 := hb3.size
        have HM3 := hide0 (HM.out.keep (w' := w3) (fun q _ h2 => hb3.block q h2))
        have HM3b := hide0 (HM3.out.alloc (.cells #[.int .i64 F0, .string F1, .int .i64 F2, .string F3, .slice va F4.length vc] 29))
        have HB3 := hide0 (HW.out.trans (hb3.mono hsz))
        have HLV := hide0 HM.out.lts
        have hNew := five_new (w3.alloc (.cells #[.int .i64 F0, .string F1, .int .i64 F2, .string F3, .slice va F4.length vc] 29)) ⟨⟨F0, F1, F2, F3, F4⟩, va, vc⟩
        rw [World.size_alloc] at hNew
        have hbase : w.heap.size ≤ ((w3.alloc (.cells #[.int .i64 F0, .string F1, .int .i64 F2, .string F3, .slice va F4.length vc] 29)).alloc (.cells #[.int .i64 F0, .string F1, .int .i64 F2, .string F3, .slice va F4.length vc] 29)).heap.size := by simp only [World.size_alloc]; omega
        have hrow := HM3b.out.row
        have HALL : Hid (∀ it ∈ its ++ [⟨⟨F0, F1, F2, F3, F4⟩, va, vc⟩], isB it.ev = true) := by
          intro it hit
          rcases List.mem_append.1 hit with hit | hit
          · exact HB.out it hit
          · simp only [List.mem_singleton] at hit; rw [hit]; exact hisB
        clear hE hvo hb3 hisB HG HM3
        go_wp2_with (first
          | (at_builtin; go_must (refine wpList_append_lies _ rfl _ _ 23 rfl w.heap.size 29 i0 (.agg #[.int .i64 0, .string ⟨#[]⟩, .int .i64 0, .string ⟨#[]⟩, .slice none 0 0]) 5 72 Tryz.underlying23 hi hz0 hz1 hz2 rfl (by decide) _ its.length (fives its) rfl (hrow.alloc _) ⟨w3.heap.size + 1, 0, none⟩ 1 1 (Item.five ⟨⟨F0, F1, F2, F3, F4⟩, va, vc⟩) rfl rfl hNew (five_one _) Nat.one_pos (by unfold maxLen; omega) (by omega) hbase _ rfl ?_)
             intro g gcap wa hown hgr hat hlt2))
        have HO7 := hide0 (HM3b.out.push (i := ⟨⟨F0, F1, F2, F3, F4⟩, va, vc⟩) (HVO.out.alloc _) hsz HLV.out.1 HLV.out.2 hgr hown hat)
        have HF7 := hide0 (Below.grown ((HB3.out.alloc (by omega) _).alloc (by simp only [World.size_alloc]; omega) _) hgr hbase (fun q hq => (hrow.lt q hq).1))
        clear hown hgr hat hlt2 hrow hNew hbase
        go_wp2
        go_roundw
        case rel => exact ⟨i + 6, its ++ [⟨⟨F0, F1, F2, F3, F4⟩, va, vc⟩], some ⟨g, 0, none⟩, gcap, by omega, by simp; omega, by go_num, by simp, by simpa using HO7, HALL, HF7⟩
        case measure => simp [slLen]; omega
      · go_wp2
        go_ret
        exact ⟨_, its, rfl, hl, HM, HB, HW.out⟩
    · go_wp2
      go_ret
      exact ⟨_, its, rfl, hl, HM, HB, HW.out⟩
theorem events_any (a : Option Addr) (n cap : Nat) (w : World) (hI : Hid (IntsAt w a n)) (hn : n ≤ 1000000000000000) (hnc : n ≤ cap) :
    Calls Tryz.prog 10 #[.slice a n cap, .int .i64 3] w fun e w' => ∃ (lv : Value) (its : List Item), e = .returned lv ∧ its.length ≤ 20 ∧ Hid (MadeO w.heap.size w' lv its) ∧ Hid (∀ it ∈ its, isB it.ev = true) ∧ Below w.heap.size w w' :=
  events_all 3 (by decide) (by decide) a n cap w hI hn hnc
end Go.Proofs.YtodlcnbknjldnaaGreatDoor
