/- Walks and plain facts, in the order in which they lean on one another. -/
import Derived.Test.YtdjllnhahhjgmabW01
import Derived.Test.YtdjllnhahhjgmabShelf
import Derived.Deep.DeepCutAuto
import Derived.Deep.RegionHeld
import Derived.Deep.AppendLies
import Derived.Deep.RegionLaw
namespace Go.Proofs.Ytdjllnhahhjgmab
open Go.RowKit Chron
/- n strings lie behind an address -/
def TagsAt (w : World) (a : Option Addr) (ts : List ByteArray) : Prop :=
  0 < ts.length → ∃ b off, a = some ⟨b, off, none⟩ ∧ ∀ i, i < ts.length → w.cell? ⟨b, off + i, none⟩ = some (.string (ts[i]?.getD ByteArray.empty))
def Short (ts : List ByteArray) : Prop := ∀ i, i < ts.length → (ts[i]?.getD ByteArray.empty).size ≤ maxLen

theorem bcell {W w1 : World} (hb : Below W.heap.size W w1) : (∀ b o, b < W.heap.size → w1.cell? ⟨b, o, none⟩ = W.cell? ⟨b, o, none⟩) ∧ (∀ b o, b < W.heap.size → w1.frozen? ⟨b, o, none⟩ = W.frozen? ⟨b, o, none⟩) :=
  ⟨fun b o h => hb.cell (p := ⟨b, o, none⟩) h, fun b o h => hb.frozen (p := ⟨b, o, none⟩) h⟩

set_option maxRecDepth 100000 in
set_option maxHeartbeats 400000 in
theorem areTags_any (a : Option Addr) (cap : Nat) (ts : List ByteArray) (w : World) (ht : Hid (TagsAt w a ts)) (hs : Hid (Short ts)) (hl : ts.length ≤ maxLen) :
    Calls Try.prog 77 #[.slice a ts.length cap] w fun e w' => e = .returned (.bool (tagsB ts)) ∧ w' = w := by
  unfold maxLen at hl
  by_cases h4 : 4 < ts.length
  · go_enter Try.func77, Try.ntmps77
    go_wp2
    go_ret
    exact ⟨ret_bool (tags_many h4).symm, rfl⟩
  · go_enter Try.func77, Try.ntmps77
    go_wp2
    go_loop [10] (fun i => ∃ k : Nat, k ≤ ts.length ∧ i = .int .i64 k ∧ Hid (∀ j, j < k → tagOk ts j = true)) (fun i => ts.length - (intOf i).toNat)
    case atStart => exact ⟨0, Nat.zero_le _, rfl, fun j hj => by omega⟩
    case round =>
      obtain ⟨k, hk, rfl, HA⟩ := hrel
      by_cases hlt : k < ts.length
      · obtain ⟨b, off, rfl, hc⟩ := ht.out (by omega)
        have hck := hc k hlt
        have hsk := hs.out k hlt
        have HC : Hid _ := hc
        clear hc
        have HO : Hid (tagOk ts k = (nameB (ts[k]?.getD ByteArray.empty) && (decide (k = 0) || Op.bytesLess (ts[k - 1]?.getD ByteArray.empty).toList (ts[k]?.getD ByteArray.empty).toList))) := rfl
        generalize ts[k]?.getD ByteArray.empty = t at hck hsk HO
        by_cases hn : nameB t = true
        · by_cases hk0 : 0 < k
          · have hcp := HC.out (k - 1) (by omega)
            generalize ts[k - 1]?.getD ByteArray.empty = p at hcp HO
            go_wp2_with (go_at_call 76; refine (isName_any _ _ hsk).mono ?_; rintro e w' ⟨rfl, rfl⟩)
            · go_ret
              exact ⟨ret_bool (tags_not hlt (tag_fall HO.out hk0 (by assumption))).symm, rfl⟩
            · go_round
              case rel => exact ⟨k + 1, by omega, by go_num, tag_next HA.out (tag_rise HO.out hn (by assumption))⟩
              case measure => simp [intOf]; omega
          · go_wp2_with (go_at_call 76; refine (isName_any _ _ hsk).mono ?_; rintro e w' ⟨rfl, rfl⟩)
            · go_round
              case rel => exact ⟨k + 1, by omega, by go_num, tag_next HA.out (tag_first HO.out hn hk0)⟩
              case measure => simp [intOf]; omega
        · have hn' : nameB t = false := by simpa using hn
          clear hn
          go_wp2_with (go_at_call 76; refine (isName_any _ _ hsk).mono ?_; rintro e w' ⟨rfl, rfl⟩)
          go_ret
          exact ⟨ret_bool (tags_not hlt (tag_bad HO.out hn')).symm, rfl⟩
      · go_wp2
        go_ret
        exact ⟨ret_bool (tags_all (by omega) (by omega) HA.out).symm, rfl⟩

theorem TagsAt.below {w w' : World} {a : Option Addr} {ts : List ByteArray} {B : Nat} (h : TagsAt w a ts) (hb : Below B w w') (hB : w.heap.size ≤ B) : TagsAt w' a ts := by
  intro h0
  obtain ⟨b, off, rfl, hc⟩ := h h0
  refine ⟨b, off, rfl, fun i hi => ?_⟩
  have hi' := hc i hi
  have hlt := World.block_lt_of_cell? w _ hi'
  rw [hb.cell (p := ⟨b, off + i, none⟩) (by simp at hlt ⊢; omega)]; exact hi'
theorem TagsAt.alloc {w : World} {a : Option Addr} {ts : List ByteArray} (h : TagsAt w a ts) (o : Obj) : TagsAt (w.alloc o) a ts :=
  h.below (B := w.heap.size) ((Below.refl _ _).alloc (Nat.le_refl _) o) (Nat.le_refl _)

set_option maxRecDepth 100000 in
set_option maxHeartbeats 1000000 in
theorem is_any (k : Int) (t : ByteArray) (m : Int) (b : ByteArray) (a : Option Addr) (cap : Nat) (ts : List ByteArray) (w : World) (ht : Hid (TagsAt w a ts)) (hs : Hid (Short ts)) (hl : ts.length ≤ maxLen)
    (htl : t.size ≤ maxLen) (hbl : b.size ≤ maxLen) :
    Calls Try.prog 55 #[.agg #[.int .i64 k, .string t, .int .i64 m, .string b, .slice a ts.length cap]] w fun e w' => e = .returned (.bool (isB ⟨k, t, m, b, ts⟩)) ∧ Below w.heap.size w w' := by
  go_enter Try.func55, Try.ntmps55
  go_wp2_with (first
    | (go_at_call 76; refine (isName_any _ _ htl).mono ?_; rintro e w' ⟨rfl, rfl⟩)
    | (go_at_call 68; refine (isLine_any _ _ hbl).mono ?_; rintro e w' ⟨rfl, rfl⟩)
    | (go_at_call 77; refine (areTags_any _ _ _ _ (TagsAt.alloc ht.out _) hs hl).mono ?_; rintro e w' ⟨rfl, rfl⟩))
  all_goals
    go_ret
    exact ⟨ret_bool (by first | (simp [isB, *]; done) | (simp [isB]; intros; omega)), (Below.refl _ _).alloc (Nat.le_refl _) _⟩

set_option maxRecDepth 100000 in
set_option maxHeartbeats 1000000 in
theorem goesInto_any (v k : Int) (t : ByteArray) (m : Int) (b : ByteArray) (a : Option Addr) (cap : Nat) (ts : List ByteArray) (w : World) (ht : Hid (TagsAt w a ts)) (hs : Hid (Short ts)) (hl : ts.length ≤ maxLen)
    (htl : t.size ≤ maxLen) (hbl : b.size ≤ maxLen) :
    Calls Try.prog 36 #[.int .i64 v, .agg #[.int .i64 k, .string t, .int .i64 m, .string b, .slice a ts.length cap]] w fun e w' => e = .returned (.bool (goesB v ⟨k, t, m, b, ts⟩)) ∧ Below w.heap.size w w' := by
  by_cases hv : isVer v = true
  · have hI := is_any k t m b a cap ts (w.alloc (.cells #[.int .i64 k, .string t, .int .i64 m, .string b, .slice a ts.length cap] 36)) (TagsAt.alloc ht.out _) hs hl htl hbl
    unfold maxLen at hl
    generalize hq : isB ⟨k, t, m, b, ts⟩ = q at hI
    have HQ : Hid _ := hq
    clear hq
    cases q
    · go_enter Try.func36, Try.ntmps36
      go_wp2_with (first
        | (go_at_call 35; refine (isVersion_any _ _).mono ?_; rintro e w' ⟨rfl, rfl⟩)
        | (go_at_call 55; refine hI.mono ?_; rintro e w1 ⟨rfl, hb1⟩))
      go_ret
      exact ⟨ret_bool (by simp [goesB, HQ.out]), ((Below.refl _ _).alloc (Nat.le_refl _) _).trans (hb1.mono (by simp))⟩
    · go_enter Try.func36, Try.ntmps36
      go_wp2_with (first
        | (go_at_call 35; refine (isVersion_any _ _).mono ?_; rintro e w' ⟨rfl, rfl⟩)
        | (go_at_call 55; refine hI.mono ?_; rintro e w1 ⟨rfl, hb1⟩; obtain ⟨hc1, hf1⟩ := bcell hb1))
      all_goals
        go_ret
        refine ⟨ret_bool ?_, ((Below.refl _ _).alloc (Nat.le_refl _) _).trans (hb1.mono (by simp))⟩
        rw [goesB, hv, HQ.out]
        clear hI hb1 hc1 hf1 HQ ht hs
        first
          | (simp [fitsB, dashB, *]; done)
          | (simp [fitsB, dashB, *]; omega)
          | (simp [fitsB, dashB, *]; rw [show (k != 4) = true from bne_iff_ne.2 ‹¬ k = 4›]; simp)
  · have hv' : isVer v = false := by simpa using hv
    clear hv
    go_enter Try.func36, Try.ntmps36
    go_wp2_with (first
      | (go_at_call 35; refine (isVersion_any _ _).mono ?_; rintro e w' ⟨rfl, rfl⟩))
    go_ret
    exact ⟨ret_bool (by simp [goesB, hv']), (Below.refl _ _).alloc (Nat.le_refl _) _⟩
end Go.Proofs.Ytdjllnhahhjgmab
namespace Go.Proofs.Ytdjllnhahhjgmab
open Go.RowKit Chron
theorem builder_below {T e : TypeId} {B b : Nat} {bs : List Value} {w w' : World} (h : Lib.IsBuilderF T e B b bs w) (hb : Below w.heap.size w w') : Lib.IsBuilderF T e B b bs w' := by
  have one : ∀ p, Lib.BuilderAtF T e B b p bs w → Lib.BuilderAtF T e B b p bs w' := by
    intro p h
    have hlt := h.lt
    obtain ⟨hB, v, hv, hown, hne⟩ := h
    exact ⟨hB, v, (hb.block b hlt).trans hv, hown.kept (row := none) ⟨hb.os, hb.tape, hb.output, hb.size, fun k hk _ => hb.block k hk⟩ (Classical.em _), hne⟩
  exact h.elim (fun x => .inl (one _ x)) (fun x => .inr (one _ x))
theorem builder_drew {T e : TypeId} {B b : Nat} {bs : List Value} {w : World} (h : Lib.IsBuilderF T e B b bs w) : Lib.IsBuilderF T e B b bs w.drew := h
theorem builder_lt {T e : TypeId} {B b : Nat} {bs : List Value} {w : World} (h : Lib.IsBuilderF T e B b bs w) : b < w.heap.size := h.elim (fun x => x.lt) (fun x => x.lt)
theorem builder_new (T e : TypeId) (w : World) : Lib.IsBuilderF T e w.heap.size w.heap.size (Lib.byteCells []) (w.alloc (.cells #[.pointer none, .slice none 0 0] T)) :=
  .inl ⟨Nat.le_refl _, .slice none 0 0, heap_alloc_new _ _, World.ownsRowF_of (World.ownsRow_nil _ _ _ _), by simp [Value.ownBlock]⟩
theorem strCells_bytes (l : List UInt8) (s : ByteArray) : Lib.byteCells l ++ Lib.strCells s = Lib.byteCells (l ++ s.data.toList) := by simp [Lib.byteCells, Lib.strCells]

set_option maxRecDepth 100000 in
set_option maxHeartbeats 400000 in
theorem put_any (b : Nat) (l : List UInt8) (tag : Int) (has : ByteArray) (w : World) (h : Hid (Lib.IsBuilderF 77 5 b b (Lib.byteCells l) w)) (h0 : 0 ≤ tag) (h1 : tag ≤ 5) (hl : l.length + has.size ≤ 65536) :
    Calls Try.prog 79 #[.int .i64 tag, .string has, .pointer (some ⟨b, 0, none⟩)] w fun e w' => e = .returned (.tuple #[]) ∧ Hid (Lib.IsBuilderF 77 5 b b (Lib.byteCells (l ++ num tag.toNat ++ has.data.toList)) w') ∧ Below b w w' := by
  have hnl := num_len tag.toNat
  go_enter Try.func79, Try.ntmps79
  go_wp2_with fail
  refine (wireNumber_any tag _ h0 (by show tag.toNat < 128 ^ 9; omega)).mono ?_
  rintro e w1 ⟨rfl, hb1⟩
  have hB1 := builder_below h.out hb1
  have hlt := builder_lt h.out
  have hs1 := hb1.size
  go_wp2_with fail
  refine (Try.Builder_WriteString_k b b _ _ w1 hB1 (by rw [Lib.byteCells_length]; show l.length + (num tag.toNat).length ≤ _; omega) (by omega)).mono ?_
  rintro e w2 ⟨rfl, hB2, hb2, hk2⟩
  have hs2 := hb2.size
  rw [strCells_bytes] at hB2
  have HB2 : Hid _ := hB2
  clear hB2 hB1
  go_wp2_with fail
  refine (Try.Builder_WriteString_k b b _ _ w2 (.inr HB2.out) (by rw [Lib.byteCells_length, List.length_append]; show l.length + (num tag.toNat).length + _ ≤ _; omega) (by omega)).mono ?_
  rintro e w3 ⟨rfl, hB3, hb3, hk3⟩
  rw [strCells_bytes] at hB3
  have HB3 : Hid _ := hB3
  clear hB3 hk3 hk2
  go_wp2
  go_end0
  exact ⟨rfl, Or.inr HB3.out, ((hb1.mono (by omega)).trans hb2).trans hb3⟩

theorem bcellB {B : Nat} {W w1 : World} (hb : Below B W w1) : (∀ b o, b < B → w1.cell? ⟨b, o, none⟩ = W.cell? ⟨b, o, none⟩) ∧ (∀ b o, b < B → w1.frozen? ⟨b, o, none⟩ = W.frozen? ⟨b, o, none⟩) :=
  ⟨fun b o h => hb.cell (p := ⟨b, o, none⟩) h, fun b o h => hb.frozen (p := ⟨b, o, none⟩) h⟩
set_option maxRecDepth 100000 in
set_option maxHeartbeats 2000000 in
theorem writeFields_any (v k : Int) (t : ByteArray) (m : Int) (b : ByteArray) (a : Option Addr) (cap : Nat) (ts : List ByteArray) (w : World) (ht : Hid (TagsAt w a ts)) (hs : Hid (Lines ts)) (hl : ts.length ≤ 4)
    (htl : t.size ≤ 60) (hbl : b.size ≤ 60) (hk1 : 1 ≤ k) (hk4 : k ≤ 4) (hm0 : 0 ≤ m) (hm1 : Hid (m.toNat < 128 ^ 9)) :
    Calls Try.prog 60 #[.int .i64 v, .agg #[.int .i64 k, .string t, .int .i64 m, .string b, .slice a ts.length cap]] w fun e w' => e = .returned (.string ⟨(fieldsB v ⟨k, t, m, b, ts⟩).toArray⟩) ∧ Below w.heap.size w w' := by
  obtain ⟨j, hj, hj0, hj4, HJ⟩ : ∃ j, IntKind.i64.wrap (k - shift v) = j ∧ 0 ≤ j ∧ j ≤ 4 ∧ Hid (j = k - shift v) := by
    have := shift_bd v
    exact ⟨k - shift v, wrapI_small (by omega) (by omega), by omega, by omega, rfl⟩
  have hn1 := num_len 1
  have hnj := num_len j.toNat
  have hfl := front_len j.toNat t htl
  have htx : (text t.data.toList).length ≤ 70 := by have := text_len t.data.toList; simp at this; omega
  have hbn := builder_new 77 5 (w.alloc (.cells #[.int .i64 k, .string t, .int .i64 m, .string b, .slice a ts.length cap] 36))
  rw [World.size_alloc] at hbn
  have hlen1 : ([] : List UInt8).length + (⟨(num j.toNat).toArray⟩ : ByteArray).size ≤ 65536 := by show 0 + (num j.toNat).length ≤ _; omega
  have HBN : Hid _ := hbn
  clear hbn
  go_enter Try.func60, Try.ntmps60
  go_upto_region 3 with fail
  go_cut [17] (fun _ wx => Hid (Lib.IsBuilderF 77 5 (w.heap.size + 1) (w.heap.size + 1) (Lib.byteCells (num 1 ++ num j.toNat)) wx) ∧ Hid (Below (w.heap.size + 1) (w.alloc (.cells #[.int .i64 k, .string t, .int .i64 m, .string b, .slice a ts.length cap] 36)) wx))
  case first =>
    go_region_with (first
      | (go_at_call 80; refine (kindShift_any _ _).mono ?_; rintro e w' ⟨rfl, rfl⟩)
      | (go_at_call 38; refine (wireNumber_any _ _ hj0 (by show j.toNat < 128 ^ 9; omega)).mono ?_; rintro e w1 ⟨rfl, hb1⟩)
      | (go_at_call 79; go_must (refine (put_any (w.heap.size + 1) [] 1 ⟨(num j.toNat).toArray⟩ w1 (builder_below (builder_drew HBN.out) hb1) (by omega) (by omega) hlen1).mono ?_); rintro e w2 ⟨rfl, hB2, hb2⟩))
    all_goals
      go_wp2_with fail
      go_meet
      case rel => exact ⟨hB2, ((((Below.refl _ _).alloc (by simp) _).drew).trans (hb1.mono (by simp))).trans hb2⟩
  case rest =>
    obtain ⟨HB, HW⟩ := hcut
    have hsz := HW.out.size
    rw [World.size_alloc] at hsz
    obtain ⟨hc, hf⟩ := bcellB HW.out
    have HJ2 : Hid ((⟨k, t, m, b, ts⟩ : Ev) = ⟨k, t, m, b, ts⟩ ∧ (k - shift v).toNat = j.toNat) := ⟨rfl, by rw [HJ.out]⟩
    clear hj HJ hlen1 HBN
    go_wp2_with fail
    refine (wireText_any t _ (by omega)).mono ?_
    rintro e w3 ⟨rfl, hb3⟩
    go_wp2_with fail
    refine (put_any (w.heap.size + 1) (num 1 ++ num j.toNat) 2 ⟨(text t.data.toList).toArray⟩ w3 (builder_below HB.out hb3) (by omega) (by omega) (by rw [List.length_append]; show _ + (text t.data.toList).length ≤ _; omega)).mono ?_
    rintro e w4 ⟨rfl, hB4, hb4⟩
    have HB4 : Hid (Lib.IsBuilderF 77 5 (w.heap.size + 1) (w.heap.size + 1) (Lib.byteCells (front j.toNat t)) w4) := by unfold front; rw [← List.append_assoc]; exact hB4
    have HW4 : Hid (Below (w.heap.size + 1) (w.alloc (.cells #[.int .i64 k, .string t, .int .i64 m, .string b, .slice a ts.length cap] 36)) w4) := (HW.out.trans (hb3.mono (by omega))).trans hb4
    clear hc hf HB HW hb3 hb4 hB4 hsz w3
    obtain ⟨hc, hf⟩ := bcellB HW4.out
    have hsz := HW4.out.size
    rw [World.size_alloc] at hsz
    go_upto_if 25 with fail
    go_cut [25] (fun _ wx => Hid (Lib.IsBuilderF 77 5 (w.heap.size + 1) (w.heap.size + 1) (Lib.byteCells (front j.toNat t ++ timePart m)) wx) ∧ Hid (Below (w.heap.size + 1) (w.alloc (.cells #[.int .i64 k, .string t, .int .i64 m, .string b, .slice a ts.length cap] 36)) wx))
    case first =>
      by_cases hm : m = 0
      · have hmb : (m != 0) = false := by simp [hm]
        have HP : Hid (timePart m = []) := by simp [Hid, timePart, hm]
        clear hm
        go_wp2_with fail
        go_meet
        case rel => exact ⟨by rw [HP.out, List.append_nil]; exact HB4, HW4⟩
      · have hmb : (m != 0) = true := by simp [hm]
        have HP : Hid (timePart m = num 3 ++ num m.toNat) := by simp [Hid, timePart, hm]
        have hnm := num_len m.toNat
        clear hm
        go_wp2_with fail
        refine (wireNumber_any m _ hm0 hm1).mono ?_
        rintro e w5 ⟨rfl, hb5⟩
        go_wp2_with fail
        refine (put_any (w.heap.size + 1) (front j.toNat t) 3 ⟨(num m.toNat).toArray⟩ w5 (builder_below HB4.out hb5) (by omega) (by omega) (by show _ + (num m.toNat).length ≤ _; omega)).mono ?_
        rintro e w6 ⟨rfl, hB6, hb6⟩
        go_wp2_with fail
        go_meet
        case rel => exact ⟨by rw [HP.out, ← List.append_assoc]; exact hB6, (HW4.out.trans (hb5.mono (by omega))).trans hb6⟩
    case rest =>
      obtain ⟨HB5, HW5⟩ := hcut
      have htp := timePart_len m
      clear hc hf HB4 HW4 hsz
      obtain ⟨hc, hf⟩ := bcellB HW5.out
      have hsz := HW5.out.size
      rw [World.size_alloc] at hsz
      go_upto_if 33 with fail
      go_cut [33] (fun _ wx => Hid (Lib.IsBuilderF 77 5 (w.heap.size + 1) (w.heap.size + 1) (Lib.byteCells (front j.toNat t ++ timePart m ++ bodyPart b)) wx) ∧ Hid (Below (w.heap.size + 1) (w.alloc (.cells #[.int .i64 k, .string t, .int .i64 m, .string b, .slice a ts.length cap] 36)) wx))
      case first =>
        by_cases hm : b.toList = []
        · have hmb : (!b.toList.isEmpty) = false := by simp [hm]
          have HP : Hid (bodyPart b = []) := by simp [Hid, bodyPart, hm]
          clear hm
          rw [hmb]
          go_wp2_with fail
          go_meet
          case rel => exact ⟨by rw [HP.out, List.append_nil]; exact HB5, HW5⟩
        · have hmb : (!b.toList.isEmpty) = true := by simp [hm]
          have HP : Hid (bodyPart b = num 4 ++ text b.data.toList) := by simp [Hid, bodyPart, hm]
          have hnm : (text b.data.toList).length ≤ 70 := by have := text_len b.data.toList; simp at this; omega
          clear hm
          rw [hmb]
          go_wp2_with fail
          refine (wireText_any b _ (by omega)).mono ?_
          rintro e w5 ⟨rfl, hb5⟩
          go_wp2_with fail
          refine (put_any (w.heap.size + 1) (front j.toNat t ++ timePart m) 4 ⟨(text b.data.toList).toArray⟩ w5 (builder_below HB5.out hb5) (by omega) (by omega) (by rw [List.length_append]; show _ + (text b.data.toList).length ≤ _; omega)).mono ?_
          rintro e w6 ⟨rfl, hB6, hb6⟩
          go_wp2_with fail
          go_meet
          case rel => exact ⟨by rw [HP.out, ← List.append_assoc]; exact hB6, (HW5.out.trans (hb5.mono (by omega))).trans hb6⟩
      case rest =>
        obtain ⟨HB6, HW6⟩ := hcut
        have hbp := bodyPart_len b hbl
        clear hc hf HB5 HW5 hsz
        obtain ⟨hc, hf⟩ := bcellB HW6.out
        go_wp2_with fail
        clear hc hf
        go_loopw [42] (fun i wx => ∃ n : Nat, n ≤ ts.length ∧ i = .int .i64 n ∧ Hid (Lib.IsBuilderF 77 5 (w.heap.size + 1) (w.heap.size + 1) (Lib.byteCells (front j.toNat t ++ timePart m ++ bodyPart b ++ tagParts (ts.take n))) wx) ∧ Hid (Below (w.heap.size + 1) (w.alloc (.cells #[.int .i64 k, .string t, .int .i64 m, .string b, .slice a ts.length cap] 36)) wx)) (fun i _ => ts.length - (intOf i).toNat)
        case atStart => exact ⟨0, Nat.zero_le _, rfl, by simpa [tagParts] using HB6, HW6⟩
        case round =>
          obtain ⟨n, hn, rfl, HBr, HWr⟩ := hrel
          by_cases hlt : n < ts.length
          · obtain ⟨q, off, rfl, hcx⟩ := ht.out (by omega)
            have hck := hcx n hlt
            have hqlt := World.block_lt_of_cell? w _ hck
            have hck' : wr.cell? ⟨q, off + n, none⟩ = some (.string (ts[n]?.getD ByteArray.empty)) := by
              rw [HWr.out.cell (p := ⟨q, off + n, none⟩) (by simp at hqlt ⊢; omega), (Below.alloc (Below.refl w.heap.size w) (Nat.le_refl _) _).cell (p := ⟨q, off + n, none⟩) (by simpa using hqlt)]; exact hck
            have hsk := Lines.get hs.out hlt
            have HT : Hid _ := tagParts_snoc ts n hlt
            have hpl := tagParts_len _ (Lines.take hs.out n)
            have htk : (ts.take n).length ≤ 4 := by simp; omega
            have hsz := HWr.out.size
            rw [World.size_alloc] at hsz
            generalize ts[n]?.getD ByteArray.empty = x at hck' hsk HT
            have hnm : (text x.data.toList).length ≤ 70 := by have := text_len x.data.toList; simp at this; omega
            clear hcx hck hqlt
            go_wp2_with fail
            refine (wireText_any x _ (by omega)).mono ?_
            rintro e w5 ⟨rfl, hb5⟩
            go_wp2_with fail
            refine (put_any (w.heap.size + 1) (front j.toNat t ++ timePart m ++ bodyPart b ++ tagParts (ts.take n)) 5 ⟨(text x.data.toList).toArray⟩ w5 (builder_below HBr.out hb5) (by omega) (by omega) (by simp only [List.length_append]; show _ + (text x.data.toList).length ≤ _; omega)).mono ?_
            rintro e w6 ⟨rfl, hB6, hb6⟩
            go_wp2
            go_roundw
            case rel => exact ⟨n + 1, by omega, by go_num, by rw [HT.out, tagPart, ← List.append_assoc, ← List.append_assoc]; exact hB6, (HWr.out.trans (hb5.mono (by omega))).trans hb6⟩
            case measure => simp [intOf]; omega
          · have hend : ts.take n = ts := List.take_of_length_le (by omega)
            have HE : Hid (ts.take n = ts) := hend
            clear hend
            have hsz := HWr.out.size
            rw [World.size_alloc] at hsz
            go_wp2_with fail
            refine (Try.Builder_String_any_k (w.heap.size + 1) (w.heap.size + 1) _ _ HBr.out (by omega)).mono ?_
            rintro e w7 ⟨rfl, hB7, hb7, hk7⟩
            go_wp2
            go_ret
            exact ⟨ret_str (by rw [HE.out, fieldsB, HJ2.out.2]; simp only [List.append_assoc]), ((Below.refl _ _).alloc (Nat.le_refl _) _).trans ((HWr.out.trans hb7).mono (by omega))⟩
end Go.Proofs.Ytdjllnhahhjgmab
namespace Go.Proofs.Ytdjllnhahhjgmab
open Go.RowKit Chron
set_option maxRecDepth 100000 in
set_option maxHeartbeats 1000000 in
theorem writeLetter_any (k : Int) (c : UInt8) (t : ByteArray) (m : Int) (b : ByteArray) (a : Option Addr) (n cap : Nat) (w : World)
    (htl : t.size ≤ 60) (hbl : b.size ≤ 60) (hk : k = 1 ∧ c = 98 ∨ k = 2 ∧ c = 100 ∨ k = 3 ∧ c = 102) :
    Calls Try.prog 59 #[.agg #[.int .i64 k, .string t, .int .i64 m, .string b, .slice a n cap]] w fun e w' => e = .returned (.string ⟨(c :: text t.data.toList ++ b.data.toList).toArray⟩) ∧ Below w.heap.size w w' := by
  have htx : (text t.data.toList).length ≤ 70 := by have := text_len t.data.toList; simp at this; omega
  have hw1 : IntKind.i64.wrap 1 = 1 := by decide
  have hw2 : IntKind.i64.wrap 2 = 2 := by decide
  have hw3 : IntKind.i64.wrap 3 = 3 := by decide
  rcases hk with ⟨rfl, rfl⟩ | ⟨rfl, rfl⟩ | ⟨rfl, rfl⟩
  · go_enter Try.func59, Try.ntmps59
    go_wp2_with fail
    go_region_held (fun w' => w'.cell? ⟨w.heap.size, 1, none⟩ = some (.string t) ∧ w'.cell? ⟨w.heap.size, 3, none⟩ = some (.string b)) (go_keep)
      (first | (go_at_call 41; refine (wireText_any t _ (by omega)).mono ?_; rintro e w1 ⟨rfl, hb1⟩; obtain ⟨hc1, hf1⟩ := bcell hb1))
    go_wp2
    go_ret
    exact ⟨ret_str (letter_eq (by decide)), ((Below.refl w.heap.size w).alloc (Nat.le_refl _) _).drew.trans (hb1.mono (by simp))⟩
  · go_enter Try.func59, Try.ntmps59
    go_wp2_with fail
    go_region_held (fun w' => w'.cell? ⟨w.heap.size, 1, none⟩ = some (.string t) ∧ w'.cell? ⟨w.heap.size, 3, none⟩ = some (.string b)) (go_keep)
      (first | (go_at_call 41; refine (wireText_any t _ (by omega)).mono ?_; rintro e w1 ⟨rfl, hb1⟩; obtain ⟨hc1, hf1⟩ := bcell hb1))
    go_wp2
    go_ret
    exact ⟨ret_str (letter_eq (by decide)), ((Below.refl w.heap.size w).alloc (Nat.le_refl _) _).drew.trans (hb1.mono (by simp))⟩
  · go_enter Try.func59, Try.ntmps59
    go_wp2_with fail
    go_region_held (fun w' => w'.cell? ⟨w.heap.size, 1, none⟩ = some (.string t) ∧ w'.cell? ⟨w.heap.size, 3, none⟩ = some (.string b)) (go_keep)
      (first | (go_at_call 41; refine (wireText_any t _ (by omega)).mono ?_; rintro e w1 ⟨rfl, hb1⟩; obtain ⟨hc1, hf1⟩ := bcell hb1))
    go_wp2
    go_ret
    exact ⟨ret_str (letter_eq (by decide)), ((Below.refl w.heap.size w).alloc (Nat.le_refl _) _).drew.trans (hb1.mono (by simp))⟩

theorem hide0 {p : Prop} (h : p) : Hid p := h
theorem ret_enc {v : Int} {e : Ev} {s : ByteArray} {c : Int} {l : List UInt8} (hs : s = ⟨l.toArray⟩) (h : encB v e = (l, c)) :
    Ending.returned (.tuple #[.string s, .int .i64 c]) = .returned (.tuple #[.string ⟨(encB v e).1.toArray⟩, .int .i64 (encB v e).2]) := by rw [h, hs]
set_option maxRecDepth 100000 in
set_option maxHeartbeats 1000000 in
theorem encode_any (v k : Int) (t : ByteArray) (m : Int) (b : ByteArray) (a : Option Addr) (cap : Nat) (ts : List ByteArray) (w : World) (ht : Hid (TagsAt w a ts)) (hs : Hid (Short ts)) (hl : ts.length ≤ maxLen)
    (htl : t.size ≤ maxLen) (hbl : b.size ≤ maxLen) :
    Calls Try.prog 40 #[.int .i64 v, .agg #[.int .i64 k, .string t, .int .i64 m, .string b, .slice a ts.length cap]] w fun e w' =>
      e = .returned (.tuple #[.string ⟨(encB v ⟨k, t, m, b, ts⟩).1.toArray⟩, .int .i64 (encB v ⟨k, t, m, b, ts⟩).2]) ∧ Below w.heap.size w w' := by
  by_cases hv : isVer v = true
  · have hG := goesInto_any v k t m b a cap ts (w.alloc (.cells #[.int .i64 k, .string t, .int .i64 m, .string b, .slice a ts.length cap] 36)) (TagsAt.alloc ht.out _) hs hl htl hbl
    generalize hq : goesB v ⟨k, t, m, b, ts⟩ = q at hG
    have HQ : Hid _ := hq
    clear hq
    cases q
    · have HE : Hid (encB v ⟨k, t, m, b, ts⟩ = ([], 2)) := by simp [Hid, encB, hv, HQ.out]
      go_enter Try.func40, Try.ntmps40
      go_wp2_with (first
        | (go_at_call 35; refine (isVersion_any _ _).mono ?_; rintro e w' ⟨rfl, rfl⟩)
        | (go_at_call 36; refine hG.mono ?_; rintro e w1 ⟨rfl, hb1⟩; obtain ⟨hc1, hf1⟩ := bcell hb1))
      go_ret2
      exact ⟨ret_enc rfl HE.out, ((Below.refl _ _).alloc (Nat.le_refl _) _).trans (hb1.mono (by simp))⟩
    · obtain ⟨h1, h4, htk, _, ht0, ht1, hbd, hfew, hlines⟩ := is_known (goes_is HQ.out)
      simp only at h1 h4 htk ht0 ht1 hbd hfew hlines
      have HT := hide0 (time_small ht1)
      have HLN := hide0 hlines
      clear ht1 hlines
      by_cases hv1 : v = 1
      · subst hv1
        have HE : Hid (encB 1 ⟨k, t, m, b, ts⟩ = (letterB ⟨k, t, m, b, ts⟩, 0)) := by simp [Hid, encB, hv, HQ.out]
        have hcs := letter_cases h1 h4 (goes_one HQ.out).1
        have hWL := fun w' => writeLetter_any k (letterOf k) t m b a ts.length cap w' htk hbd hcs
        clear hcs
        go_enter Try.func40, Try.ntmps40
        go_wp2_with (first
          | (go_at_call 35; refine (isVersion_any _ _).mono ?_; rintro e w' ⟨rfl, rfl⟩)
          | (go_at_call 36; refine hG.mono ?_; rintro e w1 ⟨rfl, hb1⟩; obtain ⟨hc1, hf1⟩ := bcell hb1)
          | (go_at_call 59; refine (hWL _).mono ?_; rintro e w2 ⟨rfl, hb2⟩))
        go_ret2
        exact ⟨ret_enc rfl HE.out, (((Below.refl _ _).alloc (Nat.le_refl _) _).trans (hb1.mono (by simp))).trans (hb2.mono (by have := hb1.size; simp at this; omega))⟩
      · have hvb : (v == 1) = false := by simp [hv1]
        have HE : Hid (encB v ⟨k, t, m, b, ts⟩ = (fieldsB v ⟨k, t, m, b, ts⟩, 0)) := by simp [Hid, encB, hv, HQ.out, hv1]
        clear hv1
        have hWF := fun w' hx => writeFields_any v k t m b a cap ts w' hx HLN hfew htk hbd h1 h4 ht0 HT
        go_enter Try.func40, Try.ntmps40
        go_wp2_with (first
          | (go_at_call 35; refine (isVersion_any _ _).mono ?_; rintro e w' ⟨rfl, rfl⟩)
          | (go_at_call 36; refine hG.mono ?_; rintro e w1 ⟨rfl, hb1⟩; obtain ⟨hc1, hf1⟩ := bcell hb1)
          | (go_at_call 60; refine (hWF _ (TagsAt.below (TagsAt.alloc ht.out _) hb1 (Nat.le_refl _))).mono ?_; rintro e w2 ⟨rfl, hb2⟩))
        go_ret2
        exact ⟨ret_enc rfl HE.out, (((Below.refl _ _).alloc (Nat.le_refl _) _).trans (hb1.mono (by simp))).trans (hb2.mono (by have := hb1.size; simp at this; omega))⟩
  · have hv' : isVer v = false := by simpa using hv
    have HE : Hid (encB v ⟨k, t, m, b, ts⟩ = ([], 1)) := by simp [Hid, encB, hv']
    clear hv
    go_enter Try.func40, Try.ntmps40
    go_wp2_with (first
      | (go_at_call 35; refine (isVersion_any _ _).mono ?_; rintro e w' ⟨rfl, rfl⟩))
    go_ret2
    exact ⟨ret_enc rfl HE.out, (Below.refl _ _).alloc (Nat.le_refl _) _⟩
end Go.Proofs.Ytdjllnhahhjgmab
namespace Go.Proofs.Ytdjllnhahhjgmab
open Go.RowKit Chron
def Held (p : Nat) (r : List UInt8) (w w' : World) : Prop := w'.cell? ⟨p, 0, none⟩ = some (.string ⟨r.toArray⟩) ∧ w'.frozen? ⟨p, 0, none⟩ = false ∧ w.grownBy w' (some p)
theorem held_store {p : Nat} {r : List UInt8} {w w1 : World} {x : Value} (hb : Below w.heap.size w w1) (hk : w1.cell? ⟨p, 0, none⟩ = some x) (hkf : w1.frozen? ⟨p, 0, none⟩ = false) :
    Held p r w (w1.setCell ⟨p, 0, none⟩ (.string ⟨r.toArray⟩)) := by
  refine ⟨World.cell?_setCell_same _ _ _ hk, by rw [World.frozen?_setCell]; exact hkf, hb.os, hb.tape, hb.output, by simpa [World.setCell] using hb.size, fun k hk hne => ?_⟩
  rw [Below.heap_setCell _ _ _ _ (fun e => hne (by simp [e]))]
  exact hb.block k hk
set_option maxRecDepth 100000 in
set_option maxHeartbeats 1000000 in
theorem next_any (p : Nat) (s : ByteArray) (tag : Int) (w : World) (hc : w.cell? ⟨p, 0, none⟩ = some (.string s)) (hf : w.frozen? ⟨p, 0, none⟩ = false) (h0 : 0 ≤ tag) (h1 : tag ≤ 5) :
    Calls Try.prog 89 #[.pointer (some ⟨p, 0, none⟩), .int .i64 tag] w fun e w' =>
      e = .returned (.bool (Lib.hasPrefix s.data.toList (num tag.toNat))) ∧ Hid (Held p (Lib.trimPrefix s.data.toList (num tag.toNat)) w w') := by
  have hp := World.block_lt_of_cell? w _ hc
  simp only at hp
  go_enter Try.func89, Try.ntmps89
  go_wp2_with fail
  go_region_held (fun w' => w'.cell? ⟨p, 0, none⟩ = some (.string s)) (go_keep)
    (first
      | (go_at_call 38; refine (wireNumber_any tag _ h0 (by show tag.toNat < 128 ^ 9; omega)).mono ?_; rintro e w1 ⟨rfl, hb1⟩; have hk1 : w1.cell? ⟨p, 0, none⟩ = some (.string s) := (hb1.cell (p := ⟨p, 0, none⟩) hp).trans hc; have hkf : w1.frozen? ⟨p, 0, none⟩ = false := (hb1.frozen (p := ⟨p, 0, none⟩) hp).trans hf)
      | (go_at_call 93; refine (Try.strings_CutPrefix _ _ _).mono ?_; rintro e w' ⟨rfl, rfl⟩))
  go_wp2
  go_ret
  exact ⟨rfl, held_store ((Below.refl w.heap.size w).drew.trans hb1) hk1 hkf⟩

theorem rdVal_eq (l : List UInt8) : rdVal (readNum l) = .tuple #[.int .i64 (numOf l), .string ⟨(numRest l).toArray⟩, .bool (readNum l).isSome] := by
  unfold numOf numRest; rcases readNum l with _ | ⟨n, r⟩ <;> rfl
theorem txVal_eq (l : List UInt8) : txVal (readTx l) = .tuple #[.string ⟨(txOf l).toArray⟩, .string ⟨(txRest l).toArray⟩, .bool (readTx l).isSome] := by
  unfold txOf txRest; rcases readTx l with _ | ⟨n, r⟩ <;> rfl
theorem below_of_drewN {w : World} (n : Nat) : Below w.heap.size w (w.drewN n) := below_drewN (Below.refl _ _) n
set_option maxRecDepth 100000 in
set_option maxHeartbeats 1000000 in
theorem number_any (p : Nat) (s : ByteArray) (w : World) (hc : w.cell? ⟨p, 0, none⟩ = some (.string s)) (hf : w.frozen? ⟨p, 0, none⟩ = false) (hs : s.size ≤ maxLen) :
    Calls Try.prog 90 #[.pointer (some ⟨p, 0, none⟩)] w fun e w' =>
      e = .returned (.int .i64 (numOf s.data.toList)) ∧ Hid (Held p (numRest s.data.toList) w w') := by
  have hR := readNumber_any s w hs
  rw [rdVal_eq] at hR
  go_enter Try.func90, Try.ntmps90
  go_wp2_with fail
  refine hR.mono ?_
  rintro e w1 ⟨rfl, nq, rfl⟩
  go_wp2
  go_ret
  exact ⟨rfl, held_store (below_of_drewN nq) hc hf⟩
set_option maxRecDepth 100000 in
set_option maxHeartbeats 1000000 in
theorem text_any (p : Nat) (s : ByteArray) (w : World) (hc : w.cell? ⟨p, 0, none⟩ = some (.string s)) (hf : w.frozen? ⟨p, 0, none⟩ = false) (hs : s.size ≤ maxLen) :
    Calls Try.prog 91 #[.pointer (some ⟨p, 0, none⟩)] w fun e w' =>
      e = .returned (.string ⟨(txOf s.data.toList).toArray⟩) ∧ Hid (Held p (txRest s.data.toList) w w') := by
  have hR := readText_any s w hs
  rw [txVal_eq] at hR
  go_enter Try.func91, Try.ntmps91
  go_wp2_with fail
  refine hR.mono ?_
  rintro e w1 ⟨rfl, nq, rfl⟩
  go_wp2
  go_ret
  exact ⟨rfl, held_store (below_of_drewN nq) hc hf⟩
end Go.Proofs.Ytdjllnhahhjgmab
namespace Go.Proofs.Ytdjllnhahhjgmab
open Go.RowKit Chron
structure Fld (N : Nat) (w wx : World) (s : List UInt8) (k : Int) (t : ByteArray) (m : Int) (b : ByteArray) (v : Value) : Prop where
  f0 : wx.cell? ⟨N + 2, 0, none⟩ = some (.string ⟨s.toArray⟩)
  ff : wx.frozen? ⟨N + 2, 0, none⟩ = false
  c0 : wx.cell? ⟨N + 1, 0, none⟩ = some (.int .i64 k)
  c1 : wx.cell? ⟨N + 1, 1, none⟩ = some (.string t)
  c2 : wx.cell? ⟨N + 1, 2, none⟩ = some (.int .i64 m)
  c3 : wx.cell? ⟨N + 1, 3, none⟩ = some (.string b)
  c4 : wx.cell? ⟨N + 1, 4, none⟩ = some v
  z1 : ∀ o, wx.frozen? ⟨N + 1, o, none⟩ = false
  bel : Below N w wx
  big : N + 3 ≤ wx.heap.size
  res : wx.heap[N]? = some (.cells #[.int .i64 0, .string ⟨#[]⟩, .int .i64 0, .string ⟨#[]⟩, .slice none 0 0] 36)
theorem Fld.held {N : Nat} {w wx wy : World} {s r : List UInt8} {k : Int} {t : ByteArray} {m : Int} {b : ByteArray} {v : Value} (h : Fld N w wx s k t m b v) (hh : Held (N + 2) r wx wy) : Fld N w wy r k t m b v := by
  obtain ⟨h1, h2, hg⟩ := hh
  have hbig := h.big
  have hblk : ∀ q, q ≤ N + 1 → wy.heap[q]? = wx.heap[q]? := fun q hq => hg.block q (by omega) (fun e => by simp only [Option.some.injEq] at e; omega)
  have hc : ∀ q o, q ≤ N + 1 → wy.cell? ⟨q, o, none⟩ = wx.cell? ⟨q, o, none⟩ := fun q o hq => World.cell?_of_block (hblk q hq)
  have hz : ∀ q o, q ≤ N + 1 → wy.frozen? ⟨q, o, none⟩ = wx.frozen? ⟨q, o, none⟩ := fun q o hq => World.frozen?_of_block (hblk q hq)
  exact ⟨h1, h2, (hc _ _ (by omega)).trans h.c0, (hc _ _ (by omega)).trans h.c1, (hc _ _ (by omega)).trans h.c2, (hc _ _ (by omega)).trans h.c3, (hc _ _ (by omega)).trans h.c4,
    fun o => (hz _ o (by omega)).trans (h.z1 o), h.bel.trans ⟨hg.os, hg.tape, hg.output, hg.size, fun q hq => hblk q (by omega)⟩, Nat.le_trans hbig hg.size, (hblk N (by omega)).trans h.res⟩
theorem Fld.put {N : Nat} {w wx : World} {s : List UInt8} {k : Int} {t : ByteArray} {m : Int} {b : ByteArray} {v : Value} (h : Fld N w wx s k t m b v) :
    (∀ k', Fld N w (wx.setCell ⟨N + 1, 0, none⟩ (.int .i64 k')) s k' t m b v) ∧ (∀ t', Fld N w (wx.setCell ⟨N + 1, 1, none⟩ (.string t')) s k t' m b v) ∧
    (∀ m', Fld N w (wx.setCell ⟨N + 1, 2, none⟩ (.int .i64 m')) s k t m' b v) ∧ (∀ b', Fld N w (wx.setCell ⟨N + 1, 3, none⟩ (.string b')) s k t m b' v) ∧ (∀ v', Fld N w (wx.setCell ⟨N + 1, 4, none⟩ v') s k t m b v') := by
  obtain ⟨f0, ff, c0, c1, c2, c3, c4, z1, bel, big, res⟩ := h
  refine ⟨fun x => ?_, fun x => ?_, fun x => ?_, fun x => ?_, fun x => ?_⟩
  all_goals
    constructor
    all_goals first
      | (go_simp; done)
      | (intro o; rw [World.frozen?_setCell]; exact z1 o)
      | exact bel.setCell (by simp) _
      | (rw [Below.heap_setCell _ _ _ _ (by simp)]; exact res)
      | (simp [World.setCell]; exact big)
      | (rw [World.frozen?_setCell]; exact ff)

theorem Fld.drew {N : Nat} {w wx : World} {s : List UInt8} {k : Int} {t : ByteArray} {m : Int} {b : ByteArray} {v : Value} (h : Fld N w wx s k t m b v) : Fld N w wx.drew s k t m b v :=
  ⟨h.f0, h.ff, h.c0, h.c1, h.c2, h.c3, h.c4, h.z1, h.bel.drew, h.big, h.res⟩
theorem Fld.grown {N : Nat} {w wx wy : World} {s : List UInt8} {k : Int} {t : ByteArray} {m : Int} {b : ByteArray} {v : Value} {row : Option Nat} (h : Fld N w wx s k t m b v) (hg : wx.grownBy wy row) (hr : ∀ q, row = some q → N + 3 ≤ q) : Fld N w wy s k t m b v := by
  have hbig := h.big
  have hblk : ∀ q, q ≤ N + 2 → wy.heap[q]? = wx.heap[q]? := fun q hq => hg.block q (by omega) (fun e => by have := hr q e.symm; omega)
  have hc : ∀ q o, q ≤ N + 2 → wy.cell? ⟨q, o, none⟩ = wx.cell? ⟨q, o, none⟩ := fun q o hq => World.cell?_of_block (hblk q hq)
  have hz : ∀ q o, q ≤ N + 2 → wy.frozen? ⟨q, o, none⟩ = wx.frozen? ⟨q, o, none⟩ := fun q o hq => World.frozen?_of_block (hblk q hq)
  exact ⟨(hc _ _ (by omega)).trans h.f0, (hz _ _ (by omega)).trans h.ff, (hc _ _ (by omega)).trans h.c0, (hc _ _ (by omega)).trans h.c1, (hc _ _ (by omega)).trans h.c2, (hc _ _ (by omega)).trans h.c3, (hc _ _ (by omega)).trans h.c4,
    fun o => (hz _ o (by omega)).trans (h.z1 o), h.bel.trans ⟨hg.os, hg.tape, hg.output, hg.size, fun q hq => hblk q (by omega)⟩, Nat.le_trans hbig hg.size, (hblk N (by omega)).trans h.res⟩
theorem Fld.alloc {N : Nat} {w wx : World} {s : List UInt8} {k : Int} {t : ByteArray} {m : Int} {b : ByteArray} {v : Value} (h : Fld N w wx s k t m b v) (o : Obj) : Fld N w (wx.alloc o) s k t m b v :=
  h.grown (World.grownBy_alloc wx o none) (fun q hq => by cases hq)
theorem own_kept {w w' : World} {base : Nat} {e : TypeId} {size : Nat} {v : Value} {n : Nat} {xs : List Value} {p : Nat} (h : w.ownsRow base e size v n xs) (hg : w.grownBy w' (some p)) (hp : p < base) : w'.ownsRow base e size v n xs := by
  refine h.kept hg ?_
  cases hv : v.ownBlock with
  | none => exact .inl rfl
  | some k => exact .inr (fun e => by have := (h.lt k hv).1; simp only [Option.some.injEq] at e; omega)
theorem res_cells {w : World} {N : Nat} {a b c d e : Value} {t : TypeId} (h : w.heap[N]? = some (.cells #[a, b, c, d, e] t)) :
    w.cell? ⟨N, 0, none⟩ = some a ∧ w.cell? ⟨N, 1, none⟩ = some b ∧ w.cell? ⟨N, 2, none⟩ = some c ∧ w.cell? ⟨N, 3, none⟩ = some d ∧ w.cell? ⟨N, 4, none⟩ = some e ∧ ∀ o, w.frozen? ⟨N, o, none⟩ = false := by
  simp [World.cell?, World.frozen?, h]
theorem one_string (x : ByteArray) : ∀ u ∈ [Value.string x], u.oneCell' = true := fun u hu => by simp at hu; subst hu; rfl
theorem own_mono {w : World} {base base' : Nat} {e : TypeId} {size : Nat} {v : Value} {n : Nat} {xs : List Value} (h : w.ownsRow base e size v n xs) (hb : base' ≤ base) : w.ownsRow base' e size v n xs := by
  obtain ⟨h1, h2 | ⟨g, cap, cur, a1, a2, a3⟩⟩ := h
  · exact ⟨h1, .inl h2⟩
  · exact ⟨h1, .inr ⟨g, cap, cur, a1, Nat.le_trans hb a2, a3⟩⟩
def lenAt (q : Nat) (w : World) : Nat := match w.cell? ⟨q, 4, none⟩ with | some (.slice _ n _) => n | _ => 0
theorem lenAt_of {q n cap : Nat} {a : Option Addr} {w : World} (h : w.cell? ⟨q, 4, none⟩ = some (.slice a n cap)) : lenAt q w = n := by simp [lenAt, h]
theorem infoString : (Try.prog.info? 9).map (fun i => (i.zero, i.size, i.bytes)) = some (some (.string ⟨#[]⟩), 1, 16) := by kernel_rfl
theorem next_list (p : Nat) (s : List UInt8) (tag : Nat) (w : World) (hc : w.cell? ⟨p, 0, none⟩ = some (.string ⟨s.toArray⟩)) (hf : w.frozen? ⟨p, 0, none⟩ = false) (h1 : tag ≤ 5) :
    Calls Try.prog 89 #[.pointer (some ⟨p, 0, none⟩), .int .i64 tag] w fun e w' => e = .returned (.bool (hp tag s)) ∧ Hid (Held p (nx tag s) w w') := by
  have := next_any p ⟨s.toArray⟩ (tag : Int) w hc hf (by omega) (by omega)
  rw [Int.toNat_natCast] at this
  exact this
theorem number_list (p : Nat) (s : List UInt8) (w : World) (hc : w.cell? ⟨p, 0, none⟩ = some (.string ⟨s.toArray⟩)) (hf : w.frozen? ⟨p, 0, none⟩ = false) (hs : s.length ≤ maxLen) :
    Calls Try.prog 90 #[.pointer (some ⟨p, 0, none⟩)] w fun e w' => e = .returned (.int .i64 (numOf s)) ∧ Hid (Held p (numRest s) w w') := number_any p ⟨s.toArray⟩ w hc hf hs
theorem text_list (p : Nat) (s : List UInt8) (w : World) (hc : w.cell? ⟨p, 0, none⟩ = some (.string ⟨s.toArray⟩)) (hf : w.frozen? ⟨p, 0, none⟩ = false) (hs : s.length ≤ maxLen) :
    Calls Try.prog 91 #[.pointer (some ⟨p, 0, none⟩)] w fun e w' => e = .returned (.string ⟨(txOf s).toArray⟩) ∧ Hid (Held p (txRest s) w w') := text_any p ⟨s.toArray⟩ w hc hf hs
theorem fld_start (w : World) (s : List UInt8) : Fld w.heap.size w (((w.alloc (.cells #[.int .i64 0, .string ⟨#[]⟩, .int .i64 0, .string ⟨#[]⟩, .slice none 0 0] 36)).alloc (.cells #[.int .i64 0, .string ⟨#[]⟩, .int .i64 0, .string ⟨#[]⟩, .slice none 0 0] 36)).alloc (.cells #[.string ⟨s.toArray⟩] 125)) s 0 ⟨#[]⟩ 0 ⟨#[]⟩ (.slice none 0 0) := by
  constructor
  all_goals first
    | (go_simp; done)
    | (intro o; go_simp; done)
    | exact (((Below.refl _ _).alloc (Nat.le_refl _) _).alloc (by simp) _).alloc (by simp; omega) _
    | (simp; done)
    | (rw [Below.heap_alloc _ _ _ (by simp; omega), Below.heap_alloc _ _ _ (by simp), heap_alloc_new])

set_option maxRecDepth 100000 in
set_option maxHeartbeats 2000000 in
theorem readFields_any (v : Int) (s : List UInt8) (w : World) (hs : s.length ≤ maxLen) :
    Calls Try.prog 86 #[.int .i64 v, .string ⟨s.toArray⟩] w fun e w' =>
      ∃ x, e = .returned (.agg #[.int .i64 (rdFields v s).kind, .string (rdFields v s).task, .int .i64 (rdFields v s).time, .string (rdFields v s).body, x]) ∧
        w'.ownsRow w.heap.size 9 1 x (rdFields v s).tags.length ((rdFields v s).tags.map Value.string) ∧ Below w.heap.size w w' := by
  have HF0 : Hid _ := fld_start w s
  have hl0 : s.length ≤ s.length := Nat.le_refl _
  go_enter Try.func86, Try.ntmps86
  go_wp2_with fail
  refine (next_list _ s 1 _ HF0.out.f0 HF0.out.ff (by omega)).mono ?_
  rintro e w1 ⟨rfl, hh⟩
  have HG1 : Hid _ := HF0.out.held hh.out
  clear hh HF0
  have hl1 := nx_len 1 s
  go_upto_if 9 with fail
  go_cut [9] (fun _ wx => Hid (Fld w.heap.size w wx (behindNum 1 s) (kindOf v s) ⟨#[]⟩ 0 ⟨#[]⟩ (.slice none 0 0)))
  case first =>
    by_cases hq : hp 1 s = true
    · have HK : Hid (behindNum 1 s = numRest (nx 1 s) ∧ kindOf v s = (wrap64 (numOf (nx 1 s) + shift v) : Int)) := ⟨if_pos hq, if_pos hq⟩
      rw [hq]
      obtain ⟨f0, ff, c0, c1, c2, c3, c4, z1, bel, big, res⟩ := HG1.out
      go_wp2_with fail
      refine (number_list _ (nx 1 s) _ f0 ff (by omega)).mono ?_
      rintro e wq ⟨rfl, hh⟩
      have HX : Hid _ := HG1.out.held hh.out
      clear f0 ff c0 c1 c2 c3 c4 z1 bel big res hh
      obtain ⟨f0, ff, c0, c1, c2, c3, c4, z1, bel, big, res⟩ := HX.out
      go_wp2_with (go_at_call 80; refine (kindShift_any _ _).mono ?_; rintro e w' ⟨rfl, rfl⟩)
      go_meet
      case rel => rw [HK.out.1, HK.out.2]; exact HX.out.put.1 _
    · have HK : Hid (behindNum 1 s = nx 1 s ∧ kindOf v s = (0 : Int)) := ⟨if_neg hq, if_neg hq⟩
      have hq' : hp 1 s = false := by simpa using hq
      rw [hq']
      go_wp2_with fail
      go_meet
      case rel => rw [HK.out.1, HK.out.2]; exact HG1.out
  case rest =>
    have HF1 := hcut
    have hb1 := behindNum_len 1 s
    clear hcut HG1
    go_wp2_with fail
    refine (next_list _ (behindNum 1 s) 2 _ HF1.out.f0 HF1.out.ff (by omega)).mono ?_
    rintro e w2 ⟨rfl, hh⟩
    have HG2 : Hid _ := HF1.out.held hh.out
    clear hh HF1
    have hl2 := nx_len 2 (behindNum 1 s)
    go_upto_if 15 with fail
    go_cut [15] (fun _ wx => Hid (Fld w.heap.size w wx (behindText 2 (behindNum 1 s)) (kindOf v s) (textOf 2 (behindNum 1 s)) 0 ⟨#[]⟩ (.slice none 0 0)))
    case first =>
      by_cases hq : hp 2 (behindNum 1 s) = true
      · have HK : Hid (behindText 2 (behindNum 1 s) = txRest (nx 2 (behindNum 1 s)) ∧ textOf 2 (behindNum 1 s) = (⟨(txOf (nx 2 (behindNum 1 s))).toArray⟩ : ByteArray)) := ⟨if_pos hq, if_pos hq⟩
        rw [hq]
        obtain ⟨f0, ff, c0, c1, c2, c3, c4, z1, bel, big, res⟩ := HG2.out
        go_wp2_with fail
        refine (text_list _ (nx 2 (behindNum 1 s)) _ f0 ff (by omega)).mono ?_
        rintro e wq ⟨rfl, hh⟩
        have HX : Hid _ := HG2.out.held hh.out
        clear f0 ff c0 c1 c2 c3 c4 z1 bel big res hh
        obtain ⟨f0, ff, c0, c1, c2, c3, c4, z1, bel, big, res⟩ := HX.out
        go_wp2_with fail
        go_meet
        case rel => rw [HK.out.1, HK.out.2]; exact HX.out.put.2.1 _
      · have HK : Hid (behindText 2 (behindNum 1 s) = nx 2 (behindNum 1 s) ∧ textOf 2 (behindNum 1 s) = (⟨#[]⟩ : ByteArray)) := ⟨if_neg hq, if_neg hq⟩
        have hq' : hp 2 (behindNum 1 s) = false := by simpa using hq
        rw [hq']
        go_wp2_with fail
        go_meet
        case rel => rw [HK.out.1, HK.out.2]; exact HG2.out
    case rest =>
      have HF2 := hcut
      have hb2 := behindText_len 2 (behindNum 1 s)
      clear hcut HG2
      go_wp2_with fail
      refine (next_list _ (behindText 2 (behindNum 1 s)) 3 _ HF2.out.f0 HF2.out.ff (by omega)).mono ?_
      rintro e w3 ⟨rfl, hh⟩
      have HG3 : Hid _ := HF2.out.held hh.out
      clear hh HF2
      have hl3 := nx_len 3 (behindText 2 (behindNum 1 s))
      go_upto_if 18 with fail
      go_cut [18] (fun _ wx => Hid (Fld w.heap.size w wx (behindNum 3 (behindText 2 (behindNum 1 s))) (kindOf v s) (textOf 2 (behindNum 1 s)) (timeOf (behindText 2 (behindNum 1 s))) ⟨#[]⟩ (.slice none 0 0)))
      case first =>
        by_cases hq : hp 3 (behindText 2 (behindNum 1 s)) = true
        · have HK : Hid (behindNum 3 (behindText 2 (behindNum 1 s)) = numRest (nx 3 (behindText 2 (behindNum 1 s))) ∧ timeOf (behindText 2 (behindNum 1 s)) = (numOf (nx 3 (behindText 2 (behindNum 1 s))) : Int)) := ⟨if_pos hq, if_pos hq⟩
          rw [hq]
          obtain ⟨f0, ff, c0, c1, c2, c3, c4, z1, bel, big, res⟩ := HG3.out
          go_wp2_with fail
          refine (number_list _ (nx 3 (behindText 2 (behindNum 1 s))) _ f0 ff (by omega)).mono ?_
          rintro e wq ⟨rfl, hh⟩
          have HX : Hid _ := HG3.out.held hh.out
          clear f0 ff c0 c1 c2 c3 c4 z1 bel big res hh
          obtain ⟨f0, ff, c0, c1, c2, c3, c4, z1, bel, big, res⟩ := HX.out
          go_wp2_with fail
          go_meet
          case rel => rw [HK.out.1, HK.out.2]; exact HX.out.put.2.2.1 _
        · have HK : Hid (behindNum 3 (behindText 2 (behindNum 1 s)) = nx 3 (behindText 2 (behindNum 1 s)) ∧ timeOf (behindText 2 (behindNum 1 s)) = (0 : Int)) := ⟨if_neg hq, if_neg hq⟩
          have hq' : hp 3 (behindText 2 (behindNum 1 s)) = false := by simpa using hq
          rw [hq']
          go_wp2_with fail
          go_meet
          case rel => rw [HK.out.1, HK.out.2]; exact HG3.out
      case rest =>
        have HF3 := hcut
        have hb3 := behindNum_len 3 (behindText 2 (behindNum 1 s))
        clear hcut HG3
        go_wp2_with fail
        refine (next_list _ (behindNum 3 (behindText 2 (behindNum 1 s))) 4 _ HF3.out.f0 HF3.out.ff (by omega)).mono ?_
        rintro e w4 ⟨rfl, hh⟩
        have HG4 : Hid _ := HF3.out.held hh.out
        clear hh HF3
        have hl4 := nx_len 4 (behindNum 3 (behindText 2 (behindNum 1 s)))
        go_upto_if 21 with fail
        go_cut [21] (fun _ wx => Hid (Fld w.heap.size w wx (behindText 4 (behindNum 3 (behindText 2 (behindNum 1 s)))) (kindOf v s) (textOf 2 (behindNum 1 s)) (timeOf (behindText 2 (behindNum 1 s))) (textOf 4 (behindNum 3 (behindText 2 (behindNum 1 s)))) (.slice none 0 0)))
        case first =>
          by_cases hq : hp 4 (behindNum 3 (behindText 2 (behindNum 1 s))) = true
          · have HK : Hid (behindText 4 (behindNum 3 (behindText 2 (behindNum 1 s))) = txRest (nx 4 (behindNum 3 (behindText 2 (behindNum 1 s)))) ∧ textOf 4 (behindNum 3 (behindText 2 (behindNum 1 s))) = (⟨(txOf (nx 4 (behindNum 3 (behindText 2 (behindNum 1 s))))).toArray⟩ : ByteArray)) := ⟨if_pos hq, if_pos hq⟩
            rw [hq]
            obtain ⟨f0, ff, c0, c1, c2, c3, c4, z1, bel, big, res⟩ := HG4.out
            go_wp2_with fail
            refine (text_list _ (nx 4 (behindNum 3 (behindText 2 (behindNum 1 s)))) _ f0 ff (by omega)).mono ?_
            rintro e wq ⟨rfl, hh⟩
            have HX : Hid _ := HG4.out.held hh.out
            clear f0 ff c0 c1 c2 c3 c4 z1 bel big res hh
            obtain ⟨f0, ff, c0, c1, c2, c3, c4, z1, bel, big, res⟩ := HX.out
            go_wp2_with fail
            go_meet
            case rel => rw [HK.out.1, HK.out.2]; exact HX.out.put.2.2.2.1 _
          · have HK : Hid (behindText 4 (behindNum 3 (behindText 2 (behindNum 1 s))) = nx 4 (behindNum 3 (behindText 2 (behindNum 1 s))) ∧ textOf 4 (behindNum 3 (behindText 2 (behindNum 1 s))) = (⟨#[]⟩ : ByteArray)) := ⟨if_neg hq, if_neg hq⟩
            have hq' : hp 4 (behindNum 3 (behindText 2 (behindNum 1 s))) = false := by simpa using hq
            rw [hq']
            go_wp2_with fail
            go_meet
            case rel => rw [HK.out.1, HK.out.2]; exact HG4.out
        case rest =>
          have HF4 := hcut
          have hb4 := behindText_len 4 (behindNum 3 (behindText 2 (behindNum 1 s)))
          clear hcut HG4
          have hSl : (behindText 4 (behindNum 3 (behindText 2 (behindNum 1 s)))).length ≤ s.length := by omega
          have HRD : Hid (rdFields v s = ⟨kindOf v s, textOf 2 (behindNum 1 s), timeOf (behindText 2 (behindNum 1 s)), textOf 4 (behindNum 3 (behindText 2 (behindNum 1 s))), tagsF 4 (behindText 4 (behindNum 3 (behindText 2 (behindNum 1 s))))⟩) := rfl
          clear hl0 hl1 hl2 hl3 hl4 hb1 hb2 hb3 hb4
          generalize behindText 4 (behindNum 3 (behindText 2 (behindNum 1 s))) = S at HF4 hSl HRD
          generalize kindOf v s = K at HF4 HRD
          generalize textOf 2 (behindNum 1 s) = T at HF4 HRD
          generalize timeOf (behindText 2 (behindNum 1 s)) = M at HF4 HRD
          generalize textOf 4 (behindNum 3 (behindText 2 (behindNum 1 s))) = B at HF4 HRD
          obtain ⟨i0, hi, hz0, hz1, hz2⟩ := info_parts infoString
          unfold maxLen at hs
          go_wp2_with fail
          go_loopw [30] (fun _ wx => ∃ (a : Option Addr) (cap : Nat) (acc : List ByteArray) (r : List UInt8), acc.length ≤ 4 ∧ r.length ≤ s.length ∧ Hid (acc ++ tagsF (4 - acc.length) r = tagsF 4 S) ∧ Hid (Fld w.heap.size w wx r K T M B (.slice a acc.length cap)) ∧ Hid (wx.ownsRow (w.heap.size + 3) 9 1 (.slice a acc.length cap) acc.length (acc.map Value.string))) (fun _ wx => 4 - lenAt (w.heap.size + 1) wx)
          case atStart => exact ⟨none, 0, [], S, by simp, hSl, rfl, HF4, World.ownsRow_nil _ _ _ _⟩
          case round =>
            obtain ⟨a, cap, acc, r, hacc, hrl, HS, HF, HO⟩ := hrel
            clear HF4
            obtain ⟨f0, ff, c0, c1, c2, c3, c4, z1, bel, big, res⟩ := HF.out
            by_cases hlt : acc.length < 4
            · go_wp2_with fail
              refine (next_list _ r 5 _ f0 ff (by omega)).mono ?_
              rintro e wq ⟨rfl, hh⟩
              have HX : Hid _ := HF.out.held hh.out
              have HP : Hid (wq.ownsRow (w.heap.size + 3) 9 1 (.slice a acc.length cap) acc.length (acc.map Value.string)) := own_kept HO.out hh.out.2.2 (by omega)
              have hnl := nx_len 5 r
              have htl := txRest_len (nx 5 r)
              clear f0 ff c0 c1 z1 bel res hh c2 c3
              obtain ⟨f0, ff, c0, c1, c2, c3, c4', z1, bel, big', res⟩ := HX.out
              obtain ⟨r0, r1, r2, r3, r4, rz⟩ := res_cells res
              by_cases hq : hp 5 r = true
              · have HT : Hid (tagsF (4 - acc.length) r = ⟨(txOf (nx 5 r)).toArray⟩ :: tagsF (4 - (acc.length + 1)) (txRest (nx 5 r))) := by
                  rw [show 4 - acc.length = (4 - (acc.length + 1)) + 1 by omega]; exact if_pos hq
                have e1 : acc.length + 1 ≤ maxLen := by unfold maxLen; omega
                have hTX : Calls Try.prog 91 #[.pointer (some ⟨w.heap.size + 1 + 1, 0, none⟩)] wq.drew fun e wz => e = .returned (.string ⟨(txOf (nx 5 r)).toArray⟩) ∧ Hid (Fld w.heap.size w wz (txRest (nx 5 r)) K T M B (.slice a acc.length cap)) ∧ Hid (wz.ownsRow (w.heap.size + 3) 9 1 (.slice a acc.length cap) acc.length (acc.map Value.string)) ∧ wz.cell? ⟨w.heap.size + 1, 4, none⟩ = some (.slice a acc.length cap) ∧ ∀ o, (wz.alloc o).cell? ⟨w.heap.size + 1, 4, none⟩ = some (.slice a acc.length cap) := by
                  refine (text_list (w.heap.size + 2) (nx 5 r) wq.drew HX.out.drew.f0 HX.out.drew.ff (by unfold maxLen; omega)).mono ?_
                  rintro e wz ⟨rfl, hhz⟩
                  exact ⟨rfl, HX.out.drew.held hhz.out, own_kept (World.ownsRow.drew HP.out) hhz.out.2.2 (by omega), (HX.out.drew.held hhz.out).c4, fun o => ((HX.out.drew.held hhz.out).alloc o).c4⟩
                have e2 : (acc.length + 1) * 16 ≤ 140737488355328 := by omega
                rw [hq]
                go_wp2_with fail
                go_region_law (first
                  | (have hq9 := HQ.out
                     have e3 : ∀ o, w.heap.size + 3 ≤ (wz.alloc o).heap.size := fun o => by have := HY.out.big; simp; omega
                     refine step_append_lies _ rfl _ _ 34 rfl (w.heap.size + 3) 9 i0 (.string ⟨#[]⟩) 1 16 Try.underlying34 hi hz0 hz1 hz2 rfl Nat.one_pos _ _ _ rfl (hq9.alloc _) ⟨wz.heap.size, 0, none⟩ 1 1 [_] rfl rfl (cell_one_new _ _ _) (one_string _) Nat.one_pos e1 e2 (e3 _) _ rfl ?_
                     clear hq9 e3
                     intro g cap' wa hown' hgrow hat hglt
                     have HA : Hid _ := (HY.out.alloc _).grown hgrow (fun q hq => (HQ.out.lt q hq).1)
                     have HO' : Hid (wa.ownsRow (w.heap.size + 3) 9 1 (.slice (some ⟨g, 0, none⟩) (acc.length + 1) cap') (acc.length + 1) (acc.map Value.string ++ [.string ⟨(txOf (nx 5 r)).toArray⟩])) := hown'
                     have ca := HA.out.c4
                     have za := HA.out.z1
                     clear hgrow hown' hat)
                  | (go_simp; go_at_call 91; refine hTX.mono ?_; rintro e wz ⟨rfl, HY, HQ, cz, czo⟩))
                all_goals
                  go_wp2
                  go_roundw
                  case rel =>
                    refine ⟨some ⟨g, 0, none⟩, cap', acc ++ [⟨(txOf (nx 5 r)).toArray⟩], txRest (nx 5 r), by simp; omega, by omega, ?_, ?_, ?_⟩
                    · show _ = _
                      rw [← HS.out, HT.out]; simp
                    · rw [List.length_append]; exact HA.out.put.2.2.2.2 _
                    · rw [List.length_append, List.map_append]; exact ownsRow_setCell_below HO'.out (by simp) _
                  case measure => rw [lenAt_of c4, lenAt_of (HA.out.put.2.2.2.2 _).c4]; omega
              · have hq' : hp 5 r = false := by simpa using hq
                have HT : Hid (tagsF 4 S = acc) := by
                  show _ = _
                  rw [← HS.out, show 4 - acc.length = (4 - (acc.length + 1)) + 1 by omega, tagsF, if_neg hq, List.append_nil]
                rw [hq']
                go_wp2
                refine bodyPost_ret (v := .agg #[.int .i64 K, .string T, .int .i64 M, .string B, .slice a acc.length cap]) (by simp [results, Try.results86, go_sem, r0, r1, r2, r3, r4]) rfl ⟨.slice a acc.length cap, ?_, ?_, ?_⟩
                · rw [HRD.out]
                · rw [HRD.out]
                  show World.ownsRow _ _ _ _ _ (tagsF 4 S).length ((tagsF 4 S).map Value.string)
                  rw [HT.out]
                  exact own_mono (ownsRow_setCell_below (ownsRow_setCell_below (ownsRow_setCell_below (ownsRow_setCell_below (ownsRow_setCell_below HP.out (by simp) _) (by simp) _) (by simp) _) (by simp) _) (by simp) _) (by omega)
                · exact ((((bel.setCell (by simp) _).setCell (by simp) _).setCell (by simp) _).setCell (by simp) _).setCell (by simp) _
            · have HT : Hid (tagsF 4 S = acc) := by
                show _ = _
                rw [← HS.out, show 4 - acc.length = 0 by omega, tagsF, List.append_nil]
              obtain ⟨r0, r1, r2, r3, r4, rz⟩ := res_cells res
              go_wp2
              refine bodyPost_ret (v := .agg #[.int .i64 K, .string T, .int .i64 M, .string B, .slice a acc.length cap]) (by simp [results, Try.results86, go_sem, r0, r1, r2, r3, r4]) rfl ⟨.slice a acc.length cap, ?_, ?_, ?_⟩
              · rw [HRD.out]
              · rw [HRD.out]
                show World.ownsRow _ _ _ _ _ (tagsF 4 S).length ((tagsF 4 S).map Value.string)
                rw [HT.out]
                exact own_mono (ownsRow_setCell_below (ownsRow_setCell_below (ownsRow_setCell_below (ownsRow_setCell_below (ownsRow_setCell_below HO.out (by simp) _) (by simp) _) (by simp) _) (by simp) _) (by simp) _) (by omega)
              · exact ((((bel.setCell (by simp) _).setCell (by simp) _).setCell (by simp) _).setCell (by simp) _).setCell (by simp) _
end Go.Proofs.Ytdjllnhahhjgmab
