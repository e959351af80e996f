/- Facts for the walk of chroniclelaw.Encodes. -/
import Derived.Test.YtdjllnhahhjgmaaD3
namespace Go.Proofs.Ytdjllnhahhjgmaa
open Go.RowKit Chron
def firstB : ByteArray := ⟨#[1, 2, 2, 1, 116, 3, 172, 2, 4, 2, 104, 105, 5, 1, 97]⟩
theorem first_enc : encB 3 ⟨2, ⟨#[116]⟩, 300, ⟨#[104, 105]⟩, [⟨#[97]⟩]⟩ = ([1, 2, 2, 1, 116, 3, 172, 2, 4, 2, 104, 105, 5, 1, 97], 0) := by decide +kernel
def mix (ts us : List ByteArray) : List ByteArray := us.take ts.length ++ ts.drop us.length
theorem mix_len (ts us : List ByteArray) : (mix ts us).length = ts.length := by simp [mix]; omega
theorem mix_lt {ts us : List ByteArray} {i : Nat} (hi : i < ts.length) (hu : i < us.length) : (mix ts us)[i]? = us[i]? := by
  rw [mix, List.getElem?_append_left (by simp; omega), List.getElem?_take_of_lt hi]
theorem mix_ge {ts us : List ByteArray} {i : Nat} (hi : i < ts.length) (hu : us.length ≤ i) : (mix ts us)[i]? = ts[i]? := by
  rw [mix, List.getElem?_append_right (by simp; omega), List.getElem?_drop]
  congr 1
  simp; omega
theorem mix_short {ts us : List ByteArray} (h1 : Short ts) (h2 : Short us) : Short (mix ts us) := by
  intro i hi
  rw [mix_len] at hi
  rcases Nat.lt_or_ge i us.length with hu | hu
  · rw [mix_lt hi hu]; exact h2 i hu
  · rw [mix_ge hi hu]; exact h1 i hi
def half (zs ts : List ByteArray) (i : Nat) : List ByteArray := zs.take i ++ ts.drop i
theorem half_len {zs ts : List ByteArray} {i : Nat} (h : zs.length = ts.length) (hi : i ≤ ts.length) : (half zs ts i).length = ts.length := by simp [half]; omega
theorem half_zero (zs ts : List ByteArray) : half zs ts 0 = ts := by simp [half]
theorem half_all {zs ts : List ByteArray} (h : zs.length = ts.length) : half zs ts ts.length = zs := by
  rw [half, List.drop_length, List.append_nil, List.take_of_length_le (by omega)]
theorem half_at {zs ts : List ByteArray} {i : Nat} (h : zs.length = ts.length) (hi : i < ts.length) : (half zs ts i)[i]? = ts[i]? := by
  rw [half, List.getElem?_append_right (by simp; omega), List.getElem?_drop]
  congr 1
  simp; omega
theorem half_succ {zs ts : List ByteArray} {i : Nat} (h : zs.length = ts.length) (hi : i < ts.length) {x : ByteArray} (hx : zs[i]? = some x) : (half zs ts i).set i x = half zs ts (i + 1) := by
  have hz : i < zs.length := by omega
  have hx' : zs[i] = x := by rw [List.getElem?_eq_getElem hz] at hx; exact Option.some.inj hx
  have e1 : zs.take (i + 1) = zs.take i ++ [x] := by rw [← hx', List.take_succ_eq_append_getElem hz]
  have e2 : ts.drop i = ts[i] :: ts.drop (i + 1) := List.drop_eq_getElem_cons hi
  rw [half, half, e1, e2, List.set_append_right _ _ (by simp; omega)]
  have e3 : i - (zs.take i).length = 0 := by simp; omega
  rw [e3, List.append_assoc]; rfl
theorem half_now {zs ts : List ByteArray} {i : Nat} (h : zs.length = ts.length) (hi : i < ts.length) : (half zs ts (i + 1))[i]? = zs[i]? := by
  rw [half, List.getElem?_append_left (by simp; omega), List.getElem?_take_of_lt (by omega)]
theorem half_same {zs ts : List ByteArray} {i : Nat} (h : zs.length = ts.length) (hi : i < ts.length) (he : zs[i]? = ts[i]?) : half zs ts (i + 1) = half zs ts i := by
  rw [← half_succ (x := ts[i]) h hi (by rw [he, List.getElem?_eq_getElem hi])]
  have hl : i < (half zs ts i).length := by rw [half_len h (by omega)]; exact hi
  have : (half zs ts i)[i] = ts[i] := by
    have := half_at h hi
    rw [List.getElem?_eq_getElem hl, List.getElem?_eq_getElem hi] at this
    exact Option.some.inj this
  rw [← this, List.set_getElem_self]
theorem lent_put (l : List ByteArray) {i : Nat} (hi : i < l.length) (x : ByteArray) : (lent l 8).set i (.string x) = lent (l.set i x) 8 := by
  rw [lent, lent, List.set_append_left _ _ (by simpa using hi), List.map_set]
theorem lent_cell {w : World} {M : Nat} {l : List ByteArray} (h : w.heap[M]? = some (.cells (lent l 8).toArray 9 (0, 0))) {i : Nat} {x : ByteArray} (hx : l[i]? = some x) : w.cell? ⟨M, i, none⟩ = some (.string x) := by
  have hi := (List.getElem?_eq_some_iff.1 hx).1
  have : (lent l 8)[i]? = some (.string x) := by rw [lent, List.getElem?_append_left (by simpa using hi), List.getElem?_map, hx]; rfl
  simpa [World.cell?, h] using this
theorem lent_tags {w : World} {M : Nat} {l : List ByteArray} (h : w.heap[M]? = some (.cells (lent l 8).toArray 9 (0, 0))) : TagsAt w (some ⟨M, 0, none⟩) l := by
  intro _
  refine ⟨M, 0, rfl, fun i hi => ?_⟩
  rw [Nat.zero_add]
  exact lent_cell h (by rw [List.getElem?_eq_getElem hi]; rfl)
theorem lent_ok {w : World} {M : Nat} {l : List ByteArray} (h : w.heap[M]? = some (.cells (lent l 8).toArray 9 (0, 0))) (hl : l.length * 16 ≤ 140737488351232) : LentOk [(M, l.length)] w := by
  intro i M' n hi
  cases i with
  | zero =>
    simp at hi
    obtain ⟨rfl, rfl⟩ := hi
    refine ⟨hl, fun q h1 h2 => ?_⟩
    have : (lent l 8)[q]? = some (.string badT) := by
      rw [lent, List.getElem?_append_right (by simpa using h1), List.getElem?_append_left (by simp; omega), List.getElem?_replicate, if_pos (by simp; omega)]
    simpa [World.cell?, h] using this
  | succ j => simp at hi
theorem one_tag {w : World} {s : ByteArray} : TagsAt (w.alloc (.cells #[.string s] 9)) (some ⟨w.heap.size, 0, none⟩) [s] := by
  intro _
  refine ⟨w.heap.size, 0, rfl, fun i hi => ?_⟩
  have : i = 0 := by simpa using hi
  subst this
  exact cell_one_new w (.string s) 9 0 _ rfl
theorem own_tags {w : World} {base : Nat} {v : Value} {l : List ByteArray} (h : w.ownsRow base 9 1 v l.length (l.map Value.string)) : ∃ a cap, v = .slice a l.length cap ∧ TagsAt w a l := by
  obtain ⟨a, cap, rfl, _, _, hc⟩ := row_at h
  refine ⟨a, cap, rfl, fun h0 => ?_⟩
  obtain ⟨g, rfl, _⟩ := hc 0 (.string l[0]) (by simp [h0])
  refine ⟨g, 0, rfl, fun i hi => ?_⟩
  obtain ⟨g', e, hx⟩ := hc i (.string l[i]) (by simp [hi])
  simp only [Option.some.injEq, Addr.mk.injEq] at e
  obtain ⟨rfl, _⟩ := e
  rw [Nat.zero_add, hx, List.getElem?_eq_getElem hi]; rfl
end Go.Proofs.Ytdjllnhahhjgmaa
