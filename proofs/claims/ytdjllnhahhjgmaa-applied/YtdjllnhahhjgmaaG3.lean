/- Walks of package delta: join, Apply, Make. -/
import Derived.Test.YtdjllnhahhjgmaaG2
import Derived.Test.YtdjllnhahhjgmaaE3
import Derived.Test.YtdjllnhahhjgmaaE6
namespace Go.Proofs.Ytdjllnhahhjgmaa
open Go.RowKit Chron
def cat (ts : List ByteArray) : List UInt8 := (ts.map (fun t => t.data.toList)).flatten
theorem cat_snoc (ts : List ByteArray) (k : Nat) (h : k < ts.length) : cat (ts.take (k + 1)) = cat (ts.take k) ++ (ts[k]?.getD ByteArray.empty).data.toList := by
  rw [List.take_succ_eq_append_getElem h]
  rw [List.getElem?_eq_getElem h]
  simp only [cat, List.map_append, List.flatten_append, List.map_cons, List.map_nil, List.flatten_cons, List.flatten_nil, List.append_nil, Option.getD_some]
theorem cat_take (ts : List ByteArray) (k : Nat) : (cat (ts.take k)).length ≤ (cat ts).length := by
  have e : cat ts = cat (ts.take k) ++ cat (ts.drop k) := by
    conv => lhs; rw [← List.take_append_drop k ts]
    simp only [cat, List.map_append, List.flatten_append]
  rw [e, List.length_append]; omega
set_option maxRecDepth 100000 in
set_option maxHeartbeats 400000 in
theorem join_any (a : Option Addr) (cap : Nat) (ts : List ByteArray) (w : World) (ht : Hid (TagsAt w a ts)) (hl : (cat ts).length ≤ 65536) (hn : ts.length ≤ 4) :
    Calls Try.prog 43 #[.slice a ts.length cap] w fun e w' => e = .returned (.string ⟨(cat ts).toArray⟩) ∧ Below w.heap.size w w' := by
  have HBN := hide0 (builder_new 80 5 w)
  go_enter Try.func43, Try.ntmps43
  go_wp2_with fail
  go_loopw [8] (fun i wx => ∃ n : Nat, n ≤ ts.length ∧ i = .int .i64 n ∧ Hid (Lib.IsBuilderF 80 5 w.heap.size w.heap.size (Lib.byteCells (cat (ts.take n))) wx) ∧ Hid (Below w.heap.size w wx)) (fun i _ => ts.length - (intOf i).toNat)
  case atStart => exact ⟨0, Nat.zero_le _, rfl, by simpa [cat] using HBN, (Below.refl _ _).alloc (Nat.le_refl _) _⟩
  case round =>
    obtain ⟨n, hnl, rfl, HBr, HWr⟩ := hrel
    have hlt := builder_lt HBr.out
    by_cases hlt' : n < ts.length
    · obtain ⟨q, off, rfl, hcx⟩ := ht.out (by omega)
      have hck := hcx n hlt'
      have hqlt := World.block_lt_of_cell? w _ hck
      have hck' : wr.cell? ⟨q, off + n, none⟩ = some (.string (ts[n]?.getD ByteArray.empty)) := by
        rw [HWr.out.cell (p := ⟨q, off + n, none⟩) (by simpa using hqlt)]; exact hck
      have HT := hide0 (cat_snoc ts n hlt')
      have hct := cat_take ts (n + 1)
      rw [HT.out, List.length_append] at hct
      generalize ts[n]?.getD ByteArray.empty = x at hck' HT hct
      have hxs : x.data.toList.length = x.size := rfl
      rw [hxs] at hct
      clear hcx hck hqlt hxs
      go_wp2_with fail
      refine (Try.Builder_WriteString_k w.heap.size w.heap.size _ x _ HBr.out (by rw [Lib.byteCells_length]; omega) (by omega)).mono ?_
      rintro e w2 ⟨rfl, hB2, hb2, hk2⟩
      rw [strCells_bytes] at hB2
      have HB2 := hide0 hB2
      clear hB2 hk2
      go_wp2
      go_roundw
      case rel => exact ⟨n + 1, by omega, by go_num, by rw [HT.out]; exact .inr HB2.out, HWr.out.trans hb2⟩
      case measure => simp [intOf]; omega
    · have HE := hide0 (List.take_of_length_le (l := ts) (i := n) (by omega))
      go_wp2_with fail
      refine (Try.Builder_String_any_k w.heap.size w.heap.size _ _ HBr.out (by omega)).mono ?_
      rintro e w7 ⟨rfl, hB7, hb7, hk7⟩
      go_wp2
      go_ret
      exact ⟨ret_str (by rw [HE.out]), HWr.out.trans hb7⟩
end Go.Proofs.Ytdjllnhahhjgmaa
