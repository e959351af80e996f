/- A list of events among the arguments, opened; what the laid variables hold. -/
import Derived.Test.YtodlcnbknjldnaaDoorJ5
import Derived.Test.YtodlcnbknjldnaaDoorRw
import Derived.Deep.Slices
import Derived.Stop.LaidErr
import Derived.MakeChecks
import Derived.Lib.LaidTab
namespace Go.Proofs.YtodlcnbknjldnaaDoor
open Go.ChangeShapes Go.WideShapes Go.ChangeAt Go.RowKit Chron
theorem bytesEvent : Tryd.prog.bytesOf 39 = 72 := by kernel_rfl
theorem weights_in {H : Type} {P : Program} {e : TypeId} : ∀ {l : List (DataW H)} {d : DataW H}, d ∈ l → ∀ n ∈ d.weights P e, n ∈ DataW.weightsAll P e l
  | x :: l, d, hd, n, hn => by
    simp only [DataW.weightsAll, List.mem_append]
    rcases List.mem_cons.1 hd with rfl | hd
    · exact .inl hn
    · exact .inr (weights_in hd n hn)
theorem event_cells {H : Type} {enc : TypeId × Value → H} {W : World} {base : Nat} {held : Bool} {fuel : Nat} {cs : List Value} {x : DataW H × List MemPlace} (hlen5 : cs.length = 5)
    (h : DataW.trod enc Tryd.prog W base (fun _ => true) held fuel 39 cs = some x) (hw : ∀ n ∈ x.1.weights Tryd.prog 39, n ≤ reachBytes) :
    ∃ i : Item, cs = [.int .i64 i.ev.kind, .string i.ev.task, .int .i64 i.ev.time, .string i.ev.body, .slice i.at' i.ev.tags.length i.cap] ∧ ItemOk W i := by
  match cs, hlen5 with
  | [c0, c1, c2, c3, c4], _ =>
    obtain ⟨xs, n, _, hx, _, hlen, hfld⟩ := DataW.trod_struct Tryd.underlying39 h
    match xs, hlen with
    | [y0, y1, y2, y3, y4], _ =>
      have h0 := hfld 0 _ rfl
      have h1 := hfld 1 _ rfl
      have h2 := hfld 2 _ rfl
      have h3 := hfld 3 _ rfl
      have h4 := hfld 4 _ rfl
      simp [cellsInt] at h0 h2
      simp [cellsText] at h1 h3
      simp [cellsTexts] at h4
      subst hx
      obtain ⟨k, e0, _, _⟩ := DataW.trod_int Tryd.underlying3 h0
      obtain ⟨t, e1, _, ht⟩ := DataW.trod_string Tryd.underlying9 h1
      obtain ⟨m, e2, _, _⟩ := DataW.trod_int Tryd.underlying3 h2
      obtain ⟨bd, e3, _, hb⟩ := DataW.trod_string Tryd.underlying9 h3
      obtain ⟨a, cap, ts, e4, g1, g2, g3⟩ := tags_open h4 (fun n hn => hw n (by
        simp only [DataW.weights, Tryd.underlying39]
        exact DataW.weights_mem_each (j := 4) (d := y4.1) rfl rfl n hn))
      simp only [List.cons.injEq, and_true] at e0 e1 e2 e3 e4
      subst e0 e1 e2 e3 e4
      exact ⟨⟨⟨k, t, m, bd, ts⟩, a, cap⟩, rfl, g1, g2, g3, ht, hb⟩
theorem events_open {H : Type} {enc : TypeId × Value → H} {W : World} {base b0 : Nat} {held : Bool} {v : Value} {d : DataW H} {p : List MemPlace} (hval : Value.okWide Tryd.prog W .any b0 22 v)
    (h : DataW.Trod enc Tryd.prog W base (fun _ => true) held 22 v d p) (hw : ∀ n ∈ d.weights Tryd.prog 22, n ≤ reachBytes) :
    ∃ (a : Option Addr) (cap : Nat) (l : List Item), v = .slice a l.length cap ∧ EvsAt W a l ∧ l.length * 72 ≤ 140737488351232 := by
  obtain ⟨a0, len0, cap0, rfl⟩ := okWide_slice Tryd.underlying22 hval
  obtain ⟨fuel, hf⟩ := h
  rcases Go.Deep.open_slice Tryd.underlying22 hf with ⟨hcs, _⟩ | ⟨a, len, cap, m, n, D, Pl, hcs, _, hl, hm, hmc, hx, hel⟩
  · simp [Value.cells] at hcs
    obtain ⟨rfl, rfl, rfl⟩ := hcs
    exact ⟨none, 0, [], rfl, fun h0 => by simp at h0, by simp⟩
  · simp [Value.cells] at hcs
    obtain ⟨rfl, rfl, rfl⟩ := hcs
    simp only [Prod.mk.injEq] at hx
    obtain ⟨rfl, _⟩ := hx
    simp only [if_true] at hmc
    subst hmc
    simp only [cellsEvent] at hel
    simp only [DataW.weights, Tryd.underlying22, bytesEvent, List.length_map, List.length_range] at hw
    have hit : ∀ i, i < len0 → ∃ it : Item, ∃ cs', W.cells? base (a.add (i * 5)) 5 = some cs' ∧ cs' = [.int .i64 it.ev.kind, .string it.ev.task, .int .i64 it.ev.time, .string it.ev.body, .slice it.at' it.ev.tags.length it.cap] ∧ ItemOk W it := by
      intro i hi
      obtain ⟨cs', hc, ht⟩ := hel i (by omega)
      obtain ⟨it, e, ho⟩ := event_cells (World.cells?_some hc).2.1 ht (fun k hk => hw k (List.mem_cons_of_mem _ (List.mem_append_left _ (weights_in (List.mem_map.2 ⟨i, List.mem_range.2 hi, rfl⟩) k hk))))
      exact ⟨it, cs', hc, e, ho⟩
    let l : List Item := (List.range len0).attach.map fun i => (hit i.1 (List.mem_range.1 i.2)).choose
    have hlen : l.length = len0 := by simp [l]
    have hget : ∀ k it, l[k]? = some it → ∃ cs', W.cells? base (a.add (k * 5)) 5 = some cs' ∧ cs' = [.int .i64 it.ev.kind, .string it.ev.task, .int .i64 it.ev.time, .string it.ev.body, .slice it.at' it.ev.tags.length it.cap] ∧ ItemOk W it := by
      intro k it hk
      have hkl : k < len0 := by have := (List.getElem?_eq_some_iff.1 hk).1; omega
      have e : l[k]? = some (hit k hkl).choose := by simp [l, hkl]
      rw [e] at hk
      rw [← Option.some.inj hk]
      exact (hit k hkl).choose_spec
    refine ⟨some a, m, l, by rw [hlen], fun h0 => ?_, ?_⟩
    · obtain ⟨b, off, spot⟩ := a
      obtain ⟨it0, h00⟩ : ∃ x, l[0]? = some x := ⟨_, List.getElem?_eq_getElem h0⟩
      obtain ⟨cs0, hc0, rfl, _⟩ := hget 0 it0 h00
      have hc00 := (World.cells?_some hc0).2.2 0 (by omega)
      have hspot : spot = none := by simpa [Addr.add] using World.cell?_spot hc00
      subst hspot
      refine ⟨b, off, rfl, fun k it hk => ?_⟩
      obtain ⟨cs', hc, rfl, ho⟩ := hget k it hk
      have hcc : ∀ i, i < 5 → W.cell? ⟨b, off + k * 5 + i, none⟩ = [Value.int .i64 it.ev.kind, .string it.ev.task, .int .i64 it.ev.time, .string it.ev.body, .slice it.at' it.ev.tags.length it.cap][i]? := fun i hi => by
        have := (World.cells?_some hc).2.2 i hi
        rw [Go.WideShapes.add_plain, Go.WideShapes.add_plain] at this
        exact this
      exact ⟨⟨hcc 0 (by omega), hcc 1 (by omega), hcc 2 (by omega), hcc 3 (by omega), hcc 4 (by omega)⟩, ho⟩
    · have := hw _ (List.mem_cons_self ..)
      unfold reachBytes at this
      omega
end Go.Proofs.YtodlcnbknjldnaaDoor
