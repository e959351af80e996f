/- Walk of chronicleref.Encode. -/
import Derived.Test.YtdjllnhahhjgmaaC2
namespace Go.Proofs.Ytdjllnhahhjgmaa
open Go.RowKit Chron
theorem refLetter_eq {e b : ByteArray} {c : UInt8} {x : List UInt8} (he : e.data.toList = [c]) : e ++ ⟨x.toArray⟩ ++ b = ⟨(c :: x ++ b.data.toList).toArray⟩ := letter_eq he
theorem refFront_eq (j : Nat) (t : ByteArray) : (⟨#[1]⟩ ++ ⟨(num j).toArray⟩ ++ ⟨#[2]⟩ ++ ⟨(text t.data.toList).toArray⟩ : ByteArray) = ⟨(front j t).toArray⟩ := by
  apply bytes_inj
  have h1 : num 1 = [1] := rfl
  have h2 : num 2 = [2] := rfl
  simp [front, h1, h2]
theorem mk_push (l : List UInt8) (c : UInt8) (x : List UInt8) : (⟨l.toArray⟩ ++ ⟨#[c]⟩ ++ ⟨x.toArray⟩ : ByteArray) = ⟨(l ++ (c :: x)).toArray⟩ := by
  apply bytes_inj; simp
set_option maxRecDepth 100000 in
set_option maxHeartbeats 2000000 in
theorem encodeRef_fields (v k : Int) (t : ByteArray) (m : Int) (b : ByteArray) (a : Option Addr) (cap : Nat) (ts : List ByteArray) (w : World) (ht : Hid (TagsAt w a ts)) (hs : Hid (Short ts)) (hl : ts.length ≤ maxLen)
    (htl : t.size ≤ maxLen) (hbl : b.size ≤ maxLen) (hv : isVer v = true) (hv1' : ¬ v = 1) (HGO : Hid (goesB v ⟨k, t, m, b, ts⟩ = true)) (HQI : Hid (isB ⟨k, t, m, b, ts⟩ = true)) :
    Calls Try.prog 11 #[.int .i64 v, .agg #[.int .i64 k, .string t, .int .i64 m, .string b, .slice a ts.length cap]] w fun e w' =>
      e = .returned (.tuple #[.string ⟨(encB v ⟨k, t, m, b, ts⟩).1.toArray⟩, .int .i64 (encB v ⟨k, t, m, b, ts⟩).2]) ∧ Below w.heap.size w w' := by
  have hv13 : 1 ≤ v ∧ v ≤ 3 := by simpa [isVer] using hv
  obtain ⟨hv1, hv3⟩ := hv13
  have hG := good_any k t m b a cap ts (w.alloc (.cells #[.int .i64 k, .string t, .int .i64 m, .string b, .slice a ts.length cap] 24)) (TagsAt.alloc ht.out _) hs hl htl hbl
  have hF := fun X => fits_any v k t m b a ts.length cap X
  have hfe : fitsR v k t m ts.length = fitsB v ⟨k, t, m, b, ts⟩ := fitsR_eq (e := ⟨k, t, m, b, ts⟩) hv
  rw [hfe] at hF
  have hgo : goesB v ⟨k, t, m, b, ts⟩ = (isB ⟨k, t, m, b, ts⟩ && fitsB v ⟨k, t, m, b, ts⟩) := by simp [goesB, hv]
  rw [HGO.out] at hgo
  have hqf : fitsB v ⟨k, t, m, b, ts⟩ = true := by revert hgo; simp [HQI.out]
  rw [hqf] at hF
  rw [HQI.out] at hG
  clear hfe hgo hqf
  obtain ⟨h1, h4, htk, _, ht0, ht1, hbd, hfew, hlines⟩ := is_known HQI.out
  simp only at h1 h4 htk ht0 ht1 hbd hfew hlines
  have HTM := hide0 (time_small ht1)
  have HLN := hide0 hlines
  clear ht1 hlines
  have htx : (text t.data.toList).length ≤ 70 := by have := text_len t.data.toList; simp at this; omega
  have hvb : (v == 1) = false := by simp [hv1']
  have HE : Hid (encB v ⟨k, t, m, b, ts⟩ = (fieldsB v ⟨k, t, m, b, ts⟩, 0)) := by simp [Hid, encB, hv, HGO.out, hv1']
  clear hv1'
  obtain ⟨j, hj, hj0, hj4, HJ⟩ : ∃ j, k - shift v = j ∧ 0 ≤ j ∧ j ≤ 4 ∧ Hid (fieldsB v ⟨k, t, m, b, ts⟩ = front j.toNat t ++ timePart m ++ bodyPart b ++ tagParts ts) := by
    have := shift_bd v
    exact ⟨k - shift v, rfl, by omega, by omega, rfl⟩
  have hn1 := num_len 1
  have hnj := num_len j.toNat
  have hfl := front_len j.toNat t htk
  have hbnd : Below (w.heap.size + 1) (w.alloc (.cells #[.int .i64 k, .string t, .int .i64 m, .string b, .slice a ts.length cap] 24)) (w.alloc (.cells #[.int .i64 k, .string t, .int .i64 m, .string b, .slice a ts.length cap] 24)) := Below.refl _ _
  have HV := hide0 hv
  clear hv
  go_enter Try.func11, Try.ntmps11
  go_wp2_with fail
  refine hG.mono ?_
  rintro e w1 ⟨rfl, hb1⟩
  obtain ⟨hc1, hf1⟩ := bcell hb1
  have hs1 := hb1.size
  rw [World.size_alloc] at hs1
  go_wp2_with fail
  refine (hF _).mono ?_
  rintro e w2 ⟨rfl, hb2⟩
  have hs2 := hb2.size
  have HW2 : Hid (Below (w.heap.size + 1) (w.alloc (.cells #[.int .i64 k, .string t, .int .i64 m, .string b, .slice a ts.length cap] 24)) w2) := (hb1.mono (by rw [World.size_alloc]; omega)).trans (hb2.mono (by omega))
  clear hG hF hc1 hf1 hb1 hb2 hbnd
  obtain ⟨hc, hf⟩ := bcellB HW2.out
  go_upto_if 46 with fail
  go_cut [8] (fun kv wx => kv = .int .i64 j ∧ wx = w2)
  case first =>
    by_cases hv2 : v = 2
    · have hv2b : (v == 2) = true := by simp [hv2]
      have hsh := shift_two hv2
      rw [hsh] at hj
      clear hsh hv2
      go_wp2_with fail
      go_meet
      case rel => exact ⟨by first | rfl | rw [hj], rfl⟩
    · have hv2b : (v == 2) = false := by simp [hv2]
      have hsh := shift_not hv2
      rw [hsh, Int.sub_zero] at hj
      clear hsh hv2
      go_wp2_with fail
      go_meet
      case rel => exact ⟨by first | rfl | rw [hj], rfl⟩
  case rest =>
    obtain ⟨rfl, rfl⟩ := hcut
    clear hj
    have hltb : w.heap.size < wc.heap.size := by omega
    have d1 : wc.cell? ⟨w.heap.size, 1, none⟩ = some (.string t) := by
      have := HW2.out.cell (p := ⟨w.heap.size, 1, none⟩) (by simp)
      rw [this]; exact (res_cells (heap_alloc_new w _)).2.1
    clear hc hf
    go_upto_region 12 with fail
    go_cut [9] (fun sv wx => sv = .string ⟨(front j.toNat t).toArray⟩ ∧ Hid (Below (w.heap.size + 1) (w.alloc (.cells #[.int .i64 k, .string t, .int .i64 m, .string b, .slice a ts.length cap] 24)) wx))
    case first =>
      go_region_held (fun w' => w'.cell? ⟨w.heap.size, 1, none⟩ = some (.string t)) (go_keep)
        (first
          | (go_at_call 33; refine (numRef_any j _ hj0 (by show j.toNat < 128 ^ 9; omega)).mono ?_; rintro e w3 ⟨rfl, hb3⟩; have q1 : w3.cell? ⟨w.heap.size, 1, none⟩ = some (.string t) := (hb3.cell (p := ⟨w.heap.size, 1, none⟩) hltb).trans d1; have hs3 := hb3.size)
          | (go_at_call 32; refine (textRef_any t _ (by omega)).mono ?_; rintro e w4 ⟨rfl, hb4⟩; have q2 : w4.cell? ⟨w.heap.size, 1, none⟩ = some (.string t) := (hb4.cell (p := ⟨w.heap.size, 1, none⟩) (Nat.lt_of_lt_of_le hltb hs3)).trans q1))
      all_goals
        go_wp2_with fail
        go_meet
        case rel => exact ⟨by rw [refFront_eq], (HW2.out.drew.trans (hb3.mono (by show w.heap.size + 1 ≤ wc.heap.size; omega))).trans (hb4.mono (Nat.le_trans (show w.heap.size + 1 ≤ wc.drew.heap.size from hltb) hs3))⟩
    case rest =>
      obtain ⟨rfl, HW3⟩ := hcut
      clear HW2 hltb d1 hs1 hs2
      obtain ⟨hc, hf⟩ := bcellB HW3.out
      have hsz := HW3.out.size
      rw [World.size_alloc] at hsz
      go_upto_if 59 with fail
      go_cut [9] (fun sv wx => sv = .string ⟨(front j.toNat t ++ timePart m).toArray⟩ ∧ Hid (Below (w.heap.size + 1) (w.alloc (.cells #[.int .i64 k, .string t, .int .i64 m, .string b, .slice a ts.length cap] 24)) wx))
      case first =>
        by_cases hm : m = 0
        · have hmb : (m != 0) = false := by simp [hm]
          have HP : Hid (timePart m = []) := by simp [Hid, timePart, hm]
          clear hm
          go_wp2_with fail
          go_meet
          case rel => exact ⟨by rw [HP.out, List.append_nil], HW3⟩
        · have hmb : (m != 0) = true := by simp [hm]
          have HP : Hid (timePart m = num 3 ++ num m.toNat) := by simp [Hid, timePart, hm]
          have hnm := num_len m.toNat
          clear hm
          go_wp2_with fail
          refine (numRef_any m _ ht0 HTM.out).mono ?_
          rintro e w5 ⟨rfl, hb5⟩
          go_wp2_with fail
          go_meet
          case rel => exact ⟨by rw [mk_push, HP.out]; rfl, HW3.out.trans (hb5.mono (by omega))⟩
      case rest =>
        obtain ⟨rfl, HW4⟩ := hcut
        have htp := timePart_len m
        clear HW3 hc hf hsz
        obtain ⟨hc, hf⟩ := bcellB HW4.out
        have hsz := HW4.out.size
        rw [World.size_alloc] at hsz
        go_upto_if 68 with fail
        go_cut [9] (fun sv wx => sv = .string ⟨(front j.toNat t ++ timePart m ++ bodyPart b).toArray⟩ ∧ Hid (Below (w.heap.size + 1) (w.alloc (.cells #[.int .i64 k, .string t, .int .i64 m, .string b, .slice a ts.length cap] 24)) wx))
        case first =>
          by_cases hm : b.toList = []
          · have hmb : (!b.toList.isEmpty) = false := by simp [hm]
            have HP : Hid (bodyPart b = []) := by simp [Hid, bodyPart, hm]
            clear hm
            rw [hmb]
            go_wp2_with fail
            go_meet
            case rel => exact ⟨by rw [HP.out, List.append_nil], HW4⟩
          · have hmb : (!b.toList.isEmpty) = true := by simp [hm]
            have HP : Hid (bodyPart b = num 4 ++ text b.data.toList) := by simp [Hid, bodyPart, hm]
            have hnm : (text b.data.toList).length ≤ 70 := by have := text_len b.data.toList; simp at this; omega
            clear hm
            rw [hmb]
            go_wp2_with fail
            refine (textRef_any b _ (by omega)).mono ?_
            rintro e w5 ⟨rfl, hb5⟩
            go_wp2_with fail
            go_meet
            case rel => exact ⟨by rw [mk_push, HP.out]; rfl, HW4.out.trans (hb5.mono (by omega))⟩
        case rest =>
          obtain ⟨rfl, HW5⟩ := hcut
          have hbp := bodyPart_len b hbd
          clear hc hf HW4 hsz
          obtain ⟨hc, hf⟩ := bcellB HW5.out
          go_wp2_with fail
          go_loopw [9, 10] (fun sv i wx => ∃ n : Nat, n ≤ ts.length ∧ i = .int .i64 n ∧ sv = .string ⟨(front j.toNat t ++ timePart m ++ bodyPart b ++ tagParts (ts.take n)).toArray⟩ ∧ Hid (Below (w.heap.size + 1) (w.alloc (.cells #[.int .i64 k, .string t, .int .i64 m, .string b, .slice a ts.length cap] 24)) wx)) (fun _ i _ => ts.length - (intOf i).toNat)
          case atStart => exact ⟨0, Nat.zero_le _, rfl, by simp [tagParts], HW5⟩
          case round =>
            obtain ⟨n, hn, rfl, rfl, HWr⟩ := hrel
            clear hc hf
            obtain ⟨hc, hf⟩ := bcellB HWr.out
            by_cases hlt : n < ts.length
            · obtain ⟨q, off, rfl, hcx⟩ := ht.out (by omega)
              have hck := hcx n hlt
              have hqlt := World.block_lt_of_cell? w _ hck
              have hck' : wr.cell? ⟨q, off + n, none⟩ = some (.string (ts[n]?.getD ByteArray.empty)) := by
                rw [HWr.out.cell (p := ⟨q, off + n, none⟩) (by simp at hqlt ⊢; omega), (Below.alloc (Below.refl w.heap.size w) (Nat.le_refl _) _).cell (p := ⟨q, off + n, none⟩) (by simpa using hqlt)]; exact hck
              have hsk := Lines.get HLN.out hlt
              have HT : Hid _ := tagParts_snoc ts n hlt
              have hpl := tagParts_len _ (Lines.take HLN.out n)
              have htk' : (ts.take n).length ≤ 4 := by simp; omega
              have hsz := HWr.out.size
              rw [World.size_alloc] at hsz
              generalize ts[n]?.getD ByteArray.empty = x at hck' hsk HT
              have hnm : (text x.data.toList).length ≤ 70 := by have := text_len x.data.toList; simp at this; omega
              clear hcx hck hqlt
              go_wp2_with fail
              refine (textRef_any x _ (by omega)).mono ?_
              rintro e w5 ⟨rfl, hb5⟩
              go_wp2
              go_roundw
              case rel => exact ⟨n + 1, by omega, by go_num, by rw [mk_push, HT.out, tagPart]; simp only [List.append_assoc]; rfl, HWr.out.trans (hb5.mono (by omega))⟩
              case measure => simp [intOf]; omega
            · have HEn : Hid (ts.take n = ts) := List.take_of_length_le (by omega)
              have hsz := HWr.out.size
              rw [World.size_alloc] at hsz
              go_wp2
              go_ret2
              exact ⟨ret_enc (by rw [HEn.out, HJ.out]) HE.out, ((Below.refl _ _).alloc (Nat.le_refl _) _).trans (HWr.out.mono (by omega))⟩
end Go.Proofs.Ytdjllnhahhjgmaa
