/- Walks of package schema's writers. -/
import Derived.Test.YtdjllnhahhjgmaaQ
import Derived.Test.YtdjllnhahhjgmaaE2
import Derived.Test.YtdjllnhahhjgmaaE4
import Derived.Test.YtdjllnhahhjgmaaShelf
import Derived.Deep.DeepCutAuto
namespace Go.Proofs.Ytdjllnhahhjgmaa
open Go.RowKit Chron
theorem builder_below {T e : TypeId} {B b : Nat} {bs : List Value} {w w' : World} (h : Lib.IsBuilderF T e B b bs w) (hb : Below w.heap.size w w') : Lib.IsBuilderF T e B b bs w' := by
  have one : ∀ p, Lib.BuilderAtF T e B b p bs w → Lib.BuilderAtF T e B b p bs w' := by
    intro p h
    have hlt := h.lt
    obtain ⟨hB, v, hv, hown, hne⟩ := h
    exact ⟨hB, v, (hb.block b hlt).trans hv, hown.kept (row := none) ⟨hb.os, hb.tape, hb.output, hb.size, fun k hk _ => hb.block k hk⟩ (Classical.em _), hne⟩
  exact h.elim (fun x => .inl (one _ x)) (fun x => .inr (one _ x))
theorem builder_drew {T e : TypeId} {B b : Nat} {bs : List Value} {w : World} (h : Lib.IsBuilderF T e B b bs w) : Lib.IsBuilderF T e B b bs w.drew := h
theorem builder_lt {T e : TypeId} {B b : Nat} {bs : List Value} {w : World} (h : Lib.IsBuilderF T e B b bs w) : b < w.heap.size := h.elim (fun x => x.lt) (fun x => x.lt)
theorem builder_new (T e : TypeId) (w : World) : Lib.IsBuilderF T e w.heap.size w.heap.size (Lib.byteCells []) (w.alloc (.cells #[.pointer none, .slice none 0 0] T)) :=
  .inl ⟨Nat.le_refl _, .slice none 0 0, heap_alloc_new _ _, World.ownsRowF_of (World.ownsRow_nil _ _ _ _), by simp [Value.ownBlock]⟩
theorem strCells_bytes (l : List UInt8) (s : ByteArray) : Lib.byteCells l ++ Lib.strCells s = Lib.byteCells (l ++ s.data.toList) := by simp [Lib.byteCells, Lib.strCells]

set_option maxRecDepth 100000 in
set_option maxHeartbeats 400000 in
theorem put_any (b : Nat) (l : List UInt8) (tag : Int) (has : ByteArray) (w : World) (h : Hid (Lib.IsBuilderF 80 5 b b (Lib.byteCells l) w)) (h0 : 0 ≤ tag) (h1 : tag ≤ 5) (hl : l.length + has.size ≤ 65536) :
    Calls Try.prog 53 #[.int .i64 tag, .string has, .pointer (some ⟨b, 0, none⟩)] w fun e w' => e = .returned (.tuple #[]) ∧ Hid (Lib.IsBuilderF 80 5 b b (Lib.byteCells (l ++ num tag.toNat ++ has.data.toList)) w') ∧ Below b w w' := by
  have hnl := num_len tag.toNat
  go_enter Try.func53, Try.ntmps53
  go_wp2_with fail
  refine (wireNumber_any tag _ h0 (by show tag.toNat < 128 ^ 9; omega)).mono ?_
  rintro e w1 ⟨rfl, hb1⟩
  have hB1 := builder_below h.out hb1
  have hlt := builder_lt h.out
  have hs1 := hb1.size
  go_wp2_with fail
  refine (Try.Builder_WriteString_k b b _ _ w1 hB1 (by rw [Lib.byteCells_length]; show l.length + (num tag.toNat).length ≤ _; omega) (by omega)).mono ?_
  rintro e w2 ⟨rfl, hB2, hb2, hk2⟩
  have hs2 := hb2.size
  rw [strCells_bytes] at hB2
  have HB2 : Hid _ := hB2
  clear hB2 hB1
  go_wp2_with fail
  refine (Try.Builder_WriteString_k b b _ _ w2 (.inr HB2.out) (by rw [Lib.byteCells_length, List.length_append]; show l.length + (num tag.toNat).length + _ ≤ _; omega) (by omega)).mono ?_
  rintro e w3 ⟨rfl, hB3, hb3, hk3⟩
  rw [strCells_bytes] at hB3
  have HB3 : Hid _ := hB3
  clear hB3 hk3 hk2
  go_wp2
  go_end0
  exact ⟨rfl, Or.inr HB3.out, ((hb1.mono (by omega)).trans hb2).trans hb3⟩

theorem bcellB {B : Nat} {W w1 : World} (hb : Below B W w1) : (∀ b o, b < B → w1.cell? ⟨b, o, none⟩ = W.cell? ⟨b, o, none⟩) ∧ (∀ b o, b < B → w1.frozen? ⟨b, o, none⟩ = W.frozen? ⟨b, o, none⟩) :=
  ⟨fun b o h => hb.cell (p := ⟨b, o, none⟩) h, fun b o h => hb.frozen (p := ⟨b, o, none⟩) h⟩
set_option maxRecDepth 100000 in
set_option maxHeartbeats 2000000 in
theorem writeFields_any (v k : Int) (t : ByteArray) (m : Int) (b : ByteArray) (a : Option Addr) (cap : Nat) (ts : List ByteArray) (w : World) (ht : Hid (TagsAt w a ts)) (hs : Hid (Lines ts)) (hl : ts.length ≤ 4)
    (htl : t.size ≤ 60) (hbl : b.size ≤ 60) (hk1 : 1 ≤ k) (hk4 : k ≤ 4) (hm0 : 0 ≤ m) (hm1 : Hid (m.toNat < 128 ^ 9)) :
    Calls Try.prog 28 #[.int .i64 v, .agg #[.int .i64 k, .string t, .int .i64 m, .string b, .slice a ts.length cap]] w fun e w' => e = .returned (.string ⟨(fieldsB v ⟨k, t, m, b, ts⟩).toArray⟩) ∧ Below w.heap.size w w' := by
  obtain ⟨j, hj, hj0, hj4, HJ⟩ : ∃ j, IntKind.i64.wrap (k - shift v) = j ∧ 0 ≤ j ∧ j ≤ 4 ∧ Hid (j = k - shift v) := by
    have := shift_bd v
    exact ⟨k - shift v, wrapI_small (by omega) (by omega), by omega, by omega, rfl⟩
  have hn1 := num_len 1
  have hnj := num_len j.toNat
  have hfl := front_len j.toNat t htl
  have htx : (text t.data.toList).length ≤ 70 := by have := text_len t.data.toList; simp at this; omega
  have hbn := builder_new 80 5 (w.alloc (.cells #[.int .i64 k, .string t, .int .i64 m, .string b, .slice a ts.length cap] 24))
  rw [World.size_alloc] at hbn
  have hlen1 : ([] : List UInt8).length + (⟨(num j.toNat).toArray⟩ : ByteArray).size ≤ 65536 := by show 0 + (num j.toNat).length ≤ _; omega
  have HBN : Hid _ := hbn
  clear hbn
  go_enter Try.func28, Try.ntmps28
  go_upto_region 3 with fail
  go_cut [17] (fun _ wx => Hid (Lib.IsBuilderF 80 5 (w.heap.size + 1) (w.heap.size + 1) (Lib.byteCells (num 1 ++ num j.toNat)) wx) ∧ Hid (Below (w.heap.size + 1) (w.alloc (.cells #[.int .i64 k, .string t, .int .i64 m, .string b, .slice a ts.length cap] 24)) wx))
  case first =>
    go_region_with (first
      | (go_at_call 55; refine (kindShift_any _ _).mono ?_; rintro e w' ⟨rfl, rfl⟩)
      | (go_at_call 46; refine (wireNumber_any _ _ hj0 (by show j.toNat < 128 ^ 9; omega)).mono ?_; rintro e w1 ⟨rfl, hb1⟩)
      | (go_at_call 53; go_must (refine (put_any (w.heap.size + 1) [] 1 ⟨(num j.toNat).toArray⟩ w1 (builder_below (builder_drew HBN.out) hb1) (by omega) (by omega) hlen1).mono ?_); rintro e w2 ⟨rfl, hB2, hb2⟩))
    all_goals
      go_wp2_with fail
      go_meet
      case rel => exact ⟨hB2, ((((Below.refl _ _).alloc (by simp) _).drew).trans (hb1.mono (by simp))).trans hb2⟩
  case rest =>
    obtain ⟨HB, HW⟩ := hcut
    have hsz := HW.out.size
    rw [World.size_alloc] at hsz
    obtain ⟨hc, hf⟩ := bcellB HW.out
    have HJ2 : Hid ((⟨k, t, m, b, ts⟩ : Ev) = ⟨k, t, m, b, ts⟩ ∧ (k - shift v).toNat = j.toNat) := ⟨rfl, by rw [HJ.out]⟩
    clear hj HJ hlen1 HBN
    go_wp2_with fail
    refine (wireText_any t _ (by omega)).mono ?_
    rintro e w3 ⟨rfl, hb3⟩
    go_wp2_with fail
    refine (put_any (w.heap.size + 1) (num 1 ++ num j.toNat) 2 ⟨(text t.data.toList).toArray⟩ w3 (builder_below HB.out hb3) (by omega) (by omega) (by rw [List.length_append]; show _ + (text t.data.toList).length ≤ _; omega)).mono ?_
    rintro e w4 ⟨rfl, hB4, hb4⟩
    have HB4 : Hid (Lib.IsBuilderF 80 5 (w.heap.size + 1) (w.heap.size + 1) (Lib.byteCells (front j.toNat t)) w4) := by unfold front; rw [← List.append_assoc]; exact hB4
    have HW4 : Hid (Below (w.heap.size + 1) (w.alloc (.cells #[.int .i64 k, .string t, .int .i64 m, .string b, .slice a ts.length cap] 24)) w4) := (HW.out.trans (hb3.mono (by omega))).trans hb4
    clear hc hf HB HW hb3 hb4 hB4 hsz w3
    obtain ⟨hc, hf⟩ := bcellB HW4.out
    have hsz := HW4.out.size
    rw [World.size_alloc] at hsz
    go_upto_if 25 with fail
    go_cut [25] (fun _ wx => Hid (Lib.IsBuilderF 80 5 (w.heap.size + 1) (w.heap.size + 1) (Lib.byteCells (front j.toNat t ++ timePart m)) wx) ∧ Hid (Below (w.heap.size + 1) (w.alloc (.cells #[.int .i64 k, .string t, .int .i64 m, .string b, .slice a ts.length cap] 24)) wx))
    case first =>
      by_cases hm : m = 0
      · have hmb : (m != 0) = false := by simp [hm]
        have HP : Hid (timePart m = []) := by simp [Hid, timePart, hm]
        clear hm
        go_wp2_with fail
        go_meet
        case rel => exact ⟨by rw [HP.out, List.append_nil]; exact HB4, HW4⟩
      · have hmb : (m != 0) = true := by simp [hm]
        have HP : Hid (timePart m = num 3 ++ num m.toNat) := by simp [Hid, timePart, hm]
        have hnm := num_len m.toNat
        clear hm
        go_wp2_with fail
        refine (wireNumber_any m _ hm0 hm1).mono ?_
        rintro e w5 ⟨rfl, hb5⟩
        go_wp2_with fail
        refine (put_any (w.heap.size + 1) (front j.toNat t) 3 ⟨(num m.toNat).toArray⟩ w5 (builder_below HB4.out hb5) (by omega) (by omega) (by show _ + (num m.toNat).length ≤ _; omega)).mono ?_
        rintro e w6 ⟨rfl, hB6, hb6⟩
        go_wp2_with fail
        go_meet
        case rel => exact ⟨by rw [HP.out, ← List.append_assoc]; exact hB6, (HW4.out.trans (hb5.mono (by omega))).trans hb6⟩
    case rest =>
      obtain ⟨HB5, HW5⟩ := hcut
      have htp := timePart_len m
      clear hc hf HB4 HW4 hsz
      obtain ⟨hc, hf⟩ := bcellB HW5.out
      have hsz := HW5.out.size
      rw [World.size_alloc] at hsz
      go_upto_if 33 with fail
      go_cut [33] (fun _ wx => Hid (Lib.IsBuilderF 80 5 (w.heap.size + 1) (w.heap.size + 1) (Lib.byteCells (front j.toNat t ++ timePart m ++ bodyPart b)) wx) ∧ Hid (Below (w.heap.size + 1) (w.alloc (.cells #[.int .i64 k, .string t, .int .i64 m, .string b, .slice a ts.length cap] 24)) wx))
      case first =>
        by_cases hm : b.toList = []
        · have hmb : (!b.toList.isEmpty) = false := by simp [hm]
          have HP : Hid (bodyPart b = []) := by simp [Hid, bodyPart, hm]
          clear hm
          rw [hmb]
          go_wp2_with fail
          go_meet
          case rel => exact ⟨by rw [HP.out, List.append_nil]; exact HB5, HW5⟩
        · have hmb : (!b.toList.isEmpty) = true := by simp [hm]
          have HP : Hid (bodyPart b = num 4 ++ text b.data.toList) := by simp [Hid, bodyPart, hm]
          have hnm : (text b.data.toList).length ≤ 70 := by have := text_len b.data.toList; simp at this; omega
          clear hm
          rw [hmb]
          go_wp2_with fail
          refine (wireText_any b _ (by omega)).mono ?_
          rintro e w5 ⟨rfl, hb5⟩
          go_wp2_with fail
          refine (put_any (w.heap.size + 1) (front j.toNat t ++ timePart m) 4 ⟨(text b.data.toList).toArray⟩ w5 (builder_below HB5.out hb5) (by omega) (by omega) (by rw [List.length_append]; show _ + (text b.data.toList).length ≤ _; omega)).mono ?_
          rintro e w6 ⟨rfl, hB6, hb6⟩
          go_wp2_with fail
          go_meet
          case rel => exact ⟨by rw [HP.out, ← List.append_assoc]; exact hB6, (HW5.out.trans (hb5.mono (by omega))).trans hb6⟩
      case rest =>
        obtain ⟨HB6, HW6⟩ := hcut
        have hbp := bodyPart_len b hbl
        clear hc hf HB5 HW5 hsz
        obtain ⟨hc, hf⟩ := bcellB HW6.out
        go_wp2_with fail
        clear hc hf
        go_loopw [42] (fun i wx => ∃ n : Nat, n ≤ ts.length ∧ i = .int .i64 n ∧ Hid (Lib.IsBuilderF 80 5 (w.heap.size + 1) (w.heap.size + 1) (Lib.byteCells (front j.toNat t ++ timePart m ++ bodyPart b ++ tagParts (ts.take n))) wx) ∧ Hid (Below (w.heap.size + 1) (w.alloc (.cells #[.int .i64 k, .string t, .int .i64 m, .string b, .slice a ts.length cap] 24)) wx)) (fun i _ => ts.length - (intOf i).toNat)
        case atStart => exact ⟨0, Nat.zero_le _, rfl, by simpa [tagParts] using HB6, HW6⟩
        case round =>
          obtain ⟨n, hn, rfl, HBr, HWr⟩ := hrel
          by_cases hlt : n < ts.length
          · obtain ⟨q, off, rfl, hcx⟩ := ht.out (by omega)
            have hck := hcx n hlt
            have hqlt := World.block_lt_of_cell? w _ hck
            have hck' : wr.cell? ⟨q, off + n, none⟩ = some (.string (ts[n]?.getD ByteArray.empty)) := by
              rw [HWr.out.cell (p := ⟨q, off + n, none⟩) (by simp at hqlt ⊢; omega), (Below.alloc (Below.refl w.heap.size w) (Nat.le_refl _) _).cell (p := ⟨q, off + n, none⟩) (by simpa using hqlt)]; exact hck
            have hsk := Lines.get hs.out hlt
            have HT : Hid _ := tagParts_snoc ts n hlt
            have hpl := tagParts_len _ (Lines.take hs.out n)
            have htk : (ts.take n).length ≤ 4 := by simp; omega
            have hsz := HWr.out.size
            rw [World.size_alloc] at hsz
            generalize ts[n]?.getD ByteArray.empty = x at hck' hsk HT
            have hnm : (text x.data.toList).length ≤ 70 := by have := text_len x.data.toList; simp at this; omega
            clear hcx hck hqlt
            go_wp2_with fail
            refine (wireText_any x _ (by omega)).mono ?_
            rintro e w5 ⟨rfl, hb5⟩
            go_wp2_with fail
            refine (put_any (w.heap.size + 1) (front j.toNat t ++ timePart m ++ bodyPart b ++ tagParts (ts.take n)) 5 ⟨(text x.data.toList).toArray⟩ w5 (builder_below HBr.out hb5) (by omega) (by omega) (by simp only [List.length_append]; show _ + (text x.data.toList).length ≤ _; omega)).mono ?_
            rintro e w6 ⟨rfl, hB6, hb6⟩
            go_wp2
            go_roundw
            case rel => exact ⟨n + 1, by omega, by go_num, by rw [HT.out, tagPart, ← List.append_assoc, ← List.append_assoc]; exact hB6, (HWr.out.trans (hb5.mono (by omega))).trans hb6⟩
            case measure => simp [intOf]; omega
          · have hend : ts.take n = ts := List.take_of_length_le (by omega)
            have HE : Hid (ts.take n = ts) := hend
            clear hend
            have hsz := HWr.out.size
            rw [World.size_alloc] at hsz
            go_wp2_with fail
            refine (Try.Builder_String_any_k (w.heap.size + 1) (w.heap.size + 1) _ _ HBr.out (by omega)).mono ?_
            rintro e w7 ⟨rfl, hB7, hb7, hk7⟩
            go_wp2
            go_ret
            exact ⟨ret_str (by rw [HE.out, fieldsB, HJ2.out.2]; simp only [List.append_assoc]), ((Below.refl _ _).alloc (Nat.le_refl _) _).trans ((HWr.out.trans hb7).mono (by omega))⟩
end Go.Proofs.Ytdjllnhahhjgmaa
