/- An event among the arguments, opened. -/
import Derived.Test.YtdjllnhahhjgmaaE4
import Derived.ProofKit
import Derived.SizedLaws
import Derived.SliceStrings
import Derived.OpenShut
namespace Go.Proofs.Ytdjllnhahhjgmaa
open Go.ChangeShapes Go.WideShapes Go.ChangeAt Go.RowKit
theorem cellsEvent : Try.prog.cellsOf 24 = 5 := by kernel_rfl
theorem cellsInt : Try.prog.cellsOf 3 = 1 := by kernel_rfl
theorem cellsText : Try.prog.cellsOf 9 = 1 := by kernel_rfl
theorem cellsTexts : Try.prog.cellsOf 22 = 1 := by kernel_rfl
theorem bytesText : Try.prog.bytesOf 9 = 16 := by kernel_rfl
theorem array5 {α : Type} {cs : Array α} (h : cs.size = 5) : ∃ c0 c1 c2 c3 c4, cs = #[c0, c1, c2, c3, c4] := by
  obtain ⟨l⟩ := cs
  match l, h with
  | [c0, c1, c2, c3, c4], _ => exact ⟨c0, c1, c2, c3, c4, rfl⟩
theorem tags_open {H : Type} {enc : TypeId × Value → H} {W : World} {base : Nat} {held : Bool} {fuel : Nat} {cs : List Value} {x : DataW H × List MemPlace}
    (h : DataW.trod enc Try.prog W base (fun _ => true) held fuel 22 cs = some x) (hw : ∀ n ∈ x.1.weights Try.prog 22, n ≤ reachBytes) :
    ∃ (a : Option Addr) (cap : Nat) (ts : List ByteArray), cs = [.slice a ts.length cap] ∧ TagsAt W a ts ∧ Short ts ∧ ts.length * 16 ≤ 140737488351232 := by
  rcases open_strings Try.underlying22 Try.underlying9 cellsText h with ⟨hcs, _⟩ | ⟨a, len, cap, ss, hcs, _, hl, hm, hz, rfl, hcell, hsz⟩
  · exact ⟨none, 0, [], hcs, fun h0 => by simp at h0, fun i hi => by simp at hi, by simp⟩
  · have hz' : ss.length = cap := by simpa using hz
    have hlen : (ss.take len).length = len := by simp; omega
    refine ⟨some a, cap, ss.take len, by rw [hlen]; exact hcs, ?_, ?_, ?_⟩
    · intro h0
      rw [hlen] at h0
      obtain ⟨b, off, spot⟩ := a
      have hspot : spot = none := by simpa [Addr.add] using World.cell?_spot (hcell 0 (by omega))
      subst hspot
      have hc : ∀ i, i < ss.length → W.cell? ⟨b, off + i, none⟩ = some (.string (ss.getD i ByteArray.empty)) := fun i hi => by rw [← Go.WideShapes.add_plain]; exact hcell i hi
      refine ⟨b, off, rfl, fun i hi => ?_⟩
      rw [hlen] at hi
      rw [hc i (by omega), List.getElem?_take_of_lt hi, List.getD_eq_getElem?_getD]
    · intro i hi
      rw [hlen] at hi
      rw [List.getElem?_take_of_lt hi, List.getElem?_eq_getElem (by omega)]
      exact hsz _ (List.getElem_mem _)
    · have := hw ((ss.take len).length * 16 + (ss.drop len).length * 16) (by
        simp only [DataW.weights, Try.underlying22, strs, List.length_map, bytesText]
        apply List.mem_cons.2; left; omega)
      unfold reachBytes at this
      omega
theorem event_open {H : Type} {enc : TypeId × Value → H} {W : World} {base b0 : Nat} {held : Bool} {v : Value} {d : DataW H} {p : List MemPlace} (hval : Value.okWide Try.prog W .any b0 24 v)
    (h : DataW.Trod enc Try.prog W base (fun _ => true) held 24 v d p) (hw : ∀ n ∈ d.weights Try.prog 24, n ≤ reachBytes) :
    ∃ (k : Int) (t : ByteArray) (m : Int) (bd : ByteArray) (a : Option Addr) (cap : Nat) (ts : List ByteArray), v = .agg #[.int .i64 k, .string t, .int .i64 m, .string bd, .slice a ts.length cap] ∧ TagsAt W a ts ∧ Short ts ∧ ts.length * 16 ≤ 140737488351232 ∧ t.size ≤ maxLen ∧ bd.size ≤ maxLen := by
  obtain ⟨cs, rfl, hsz⟩ := okWide_struct Try.underlying24 hval
  obtain ⟨c0, c1, c2, c3, c4, rfl⟩ := array5 (hsz.trans cellsEvent)
  obtain ⟨fuel, hf⟩ := h
  obtain ⟨xs, n, _, hx, _, hlen, hfld⟩ := DataW.trod_struct Try.underlying24 hf
  match xs, hlen with
  | [y0, y1, y2, y3, y4], _ =>
    have h0 := hfld 0 _ rfl
    have h1 := hfld 1 _ rfl
    have h2 := hfld 2 _ rfl
    have h3 := hfld 3 _ rfl
    have h4 := hfld 4 _ rfl
    simp [Value.cells, cellsInt] at h0 h2
    simp [Value.cells, cellsText] at h1 h3
    simp [Value.cells, cellsTexts] at h4
    simp only [Prod.mk.injEq] at hx
    obtain ⟨rfl, _⟩ := hx
    obtain ⟨k, e0, _, _⟩ := DataW.trod_int Try.underlying3 h0
    obtain ⟨t, e1, _, ht⟩ := DataW.trod_string Try.underlying9 h1
    obtain ⟨m, e2, _, _⟩ := DataW.trod_int Try.underlying3 h2
    obtain ⟨bd, e3, _, hb⟩ := DataW.trod_string Try.underlying9 h3
    obtain ⟨a, cap, ts, e4, g1, g2, g3⟩ := tags_open h4 (fun n hn => hw n (by
      simp only [DataW.weights, Try.underlying24]
      exact DataW.weights_mem_each (j := 4) (d := y4.1) rfl rfl n hn))
    simp only [List.cons.injEq, and_true] at e0 e1 e2 e3 e4
    subst e0 e1 e2 e3 e4
    exact ⟨k, t, m, bd, a, cap, ts, rfl, g1, g2, g3, ht, hb⟩
end Go.Proofs.Ytdjllnhahhjgmaa
