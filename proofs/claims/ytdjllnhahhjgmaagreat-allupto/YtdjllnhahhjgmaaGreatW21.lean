/- Walks and plain facts, in the order in which they lean on one another. -/
import Derived.Test.YtdjllnhahhjgmaaGreatRows
import Derived.Test.YtdjllnhahhjgmaaGreatW18
import Derived.Test.YtdjllnhahhjgmaaGreatW20
namespace Go.Proofs.YtdjllnhahhjgmaaGreat
open Go.ChangeShapes Go.WideShapes Go.ChangeAt Go.RowKit Chron
theorem bulk_pos {H : Type} (d : DataW H) : 1 ≤ Rows.uptoBulk d := by
  cases d with
  | lit l => cases l <;> simp [Rows.uptoBulk]
  | _ => simp [Rows.uptoBulk]
theorem bulk_in {H : Type} : ∀ {l : List (DataW H)} {d : DataW H}, d ∈ l → Rows.uptoBulk d ≤ Rows.uptoBulkAll l
  | x :: l, d, hd => by
    simp only [Rows.uptoBulkAll]
    rcases List.mem_cons.1 hd with rfl | hd
    · omega
    · have := bulk_in hd; omega
theorem bulk_len {H : Type} : ∀ (l : List (DataW H)), l.length ≤ Rows.uptoBulkAll l
  | [] => Nat.zero_le _
  | x :: l => by
    have := bulk_len l
    have := bulk_pos x
    simp only [Rows.uptoBulkAll, List.length_cons]; omega
set_option maxRecDepth 100000 in
theorem tags_bulk {H : Type} {enc : TypeId × Value → H} {W : World} {base : Nat} {held : Bool} {fuel : Nat} {cs : List Value} {x : DataW H × List MemPlace}
    (h : DataW.trod enc Tryz.prog W base (fun _ => true) held fuel 36 cs = some x) (hk : Rows.uptoBulk x.1 ≤ 1048576) :
    ∃ (a : Option Addr) (cap : Nat) (ts : List ByteArray), cs = [.slice a ts.length cap] ∧ TagsAt W a ts ∧ Short ts ∧ ts.length * 16 ≤ 140737488351232 := by
  rcases open_strings Tryz.underlying36 Tryz.underlying9 cellsText h with ⟨hcs, _⟩ | ⟨a, len, cap, ss, hcs, _, hl, hm, hz, rfl, hcell, hsz⟩
  · exact ⟨none, 0, [], hcs, fun h0 => by simp at h0, fun i hi => by simp at hi, by simp⟩
  · have hz' : ss.length = cap := by simpa using hz
    have hlen : (ss.take len).length = len := by simp; omega
    refine ⟨some a, cap, ss.take len, by rw [hlen]; exact hcs, ?_, ?_, ?_⟩
    · intro h0
      rw [hlen] at h0
      obtain ⟨b, off, spot⟩ := a
      have hspot : spot = none := by simpa [Addr.add] using World.cell?_spot (hcell 0 (by omega))
      subst hspot
      have hc : ∀ i, i < ss.length → W.cell? ⟨b, off + i, none⟩ = some (.string (ss.getD i ByteArray.empty)) := fun i hi => by rw [← Go.WideShapes.add_plain]; exact hcell i hi
      refine ⟨b, off, rfl, fun i hi => ?_⟩
      rw [hlen] at hi
      rw [hc i (by omega), List.getElem?_take_of_lt hi, List.getD_eq_getElem?_getD]
    · intro i hi
      rw [hlen] at hi
      rw [List.getElem?_take_of_lt hi, List.getElem?_eq_getElem (by omega)]
      exact hsz _ (List.getElem_mem _)
    · have h1 := bulk_len (strs (H := H) (ss.take len))
      simp only [Rows.uptoBulk] at hk
      have h2 : (strs (H := H) (ss.take len)).length = (ss.take len).length := by simp [strs]
      omega
set_option maxRecDepth 100000 in
theorem event_bulk {H : Type} {enc : TypeId × Value → H} {W : World} {base : Nat} {held : Bool} {fuel : Nat} {cs : List Value} {x : DataW H × List MemPlace} (hlen5 : cs.length = 5)
    (h : DataW.trod enc Tryz.prog W base (fun _ => true) held fuel 38 cs = some x) (hk : Rows.uptoBulk x.1 ≤ 1048576) :
    ∃ i : Item, cs = [.int .i64 i.ev.kind, .string i.ev.task, .int .i64 i.ev.time, .string i.ev.body, .slice i.at' i.ev.tags.length i.cap] ∧ ItemOk W i := by
  match cs, hlen5 with
  | [c0, c1, c2, c3, c4], _ =>
    obtain ⟨xs, n, _, hx, _, hlen, hfld⟩ := DataW.trod_struct Tryz.underlying38 h
    match xs, hlen with
    | [y0, y1, y2, y3, y4], _ =>
      have h0 := hfld 0 _ rfl
      have h1 := hfld 1 _ rfl
      have h2 := hfld 2 _ rfl
      have h3 := hfld 3 _ rfl
      have h4 := hfld 4 _ rfl
      simp [cellsInt] at h0 h2
      simp [cellsText] at h1 h3
      simp [cellsTexts] at h4
      subst hx
      simp only [List.map_cons, List.map_nil, Rows.uptoBulk, Rows.uptoBulkAll] at hk
      obtain ⟨k, e0, _, _⟩ := DataW.trod_int Tryz.underlying3 h0
      obtain ⟨t, e1, _, ht⟩ := DataW.trod_string Tryz.underlying9 h1
      obtain ⟨m, e2, _, _⟩ := DataW.trod_int Tryz.underlying3 h2
      obtain ⟨bd, e3, _, hb⟩ := DataW.trod_string Tryz.underlying9 h3
      obtain ⟨a, cap, ts, e4, g1, g2, g3⟩ := tags_bulk h4 (by omega)
      simp only [List.cons.injEq, and_true] at e0 e1 e2 e3 e4
      subst e0 e1 e2 e3 e4
      exact ⟨⟨⟨k, t, m, bd, ts⟩, a, cap⟩, rfl, g1, g2, g3, ht, hb⟩
set_option maxRecDepth 100000 in
theorem events_bulk {H : Type} {enc : TypeId × Value → H} {W : World} {base : Nat} {held : Bool} {fuel : Nat} {cs : List Value} {x : DataW H × List MemPlace}
    (h : DataW.trod enc Tryz.prog W base (fun _ => true) held fuel 33 cs = some x) (hk : Rows.uptoBulk x.1 ≤ 1048576) :
    ∃ (a : Option Addr) (cap : Nat) (l : List Item), cs = [.slice a l.length cap] ∧ EvsAt W a l ∧ l.length ≤ 1048576 := by
  rcases Go.Deep.open_slice Tryz.underlying33 h with ⟨hcs, _⟩ | ⟨a, len0, cap0, m, n, D, Pl, hcs, _, hl, hm, hmc, hx, hel⟩
  · exact ⟨none, 0, [], hcs, fun h0 => by simp at h0, by simp⟩
  · subst hx
    simp only [if_true] at hmc
    subst hmc
    simp only [cellsEvent] at hel
    simp only [Rows.uptoBulk] at hk
    have hbl := bulk_len ((List.range len0).map D)
    simp only [List.length_map, List.length_range] at hbl
    have hit : ∀ i, i < len0 → ∃ it : Item, ∃ cs', W.cells? base (a.add (i * 5)) 5 = some cs' ∧ cs' = [.int .i64 it.ev.kind, .string it.ev.task, .int .i64 it.ev.time, .string it.ev.body, .slice it.at' it.ev.tags.length it.cap] ∧ ItemOk W it := by
      intro i hi
      obtain ⟨cs', hc, ht⟩ := hel i (by omega)
      have hbi : Rows.uptoBulk (D i) ≤ Rows.uptoBulkAll ((List.range len0).map D) := bulk_in (List.mem_map.2 ⟨i, List.mem_range.2 hi, rfl⟩)
      obtain ⟨it, e, ho⟩ := event_bulk (World.cells?_some hc).2.1 ht (by show Rows.uptoBulk (D i) ≤ _; omega)
      exact ⟨it, cs', hc, e, ho⟩
    let l : List Item := (List.range len0).attach.map fun i => (hit i.1 (List.mem_range.1 i.2)).choose
    have hlen : l.length = len0 := by simp [l]
    have hget : ∀ k it, l[k]? = some it → ∃ cs', W.cells? base (a.add (k * 5)) 5 = some cs' ∧ cs' = [.int .i64 it.ev.kind, .string it.ev.task, .int .i64 it.ev.time, .string it.ev.body, .slice it.at' it.ev.tags.length it.cap] ∧ ItemOk W it := by
      intro k it hk
      have hkl : k < len0 := by have := (List.getElem?_eq_some_iff.1 hk).1; omega
      have e : l[k]? = some (hit k hkl).choose := by simp [l, hkl]
      rw [e] at hk
      rw [← Option.some.inj hk]
      exact (hit k hkl).choose_spec
    refine ⟨some a, m, l, by rw [hlen]; exact hcs, fun h0 => ?_, by omega⟩
    obtain ⟨b, off, spot⟩ := a
    obtain ⟨it0, h00⟩ : ∃ x, l[0]? = some x := ⟨_, List.getElem?_eq_getElem h0⟩
    obtain ⟨cs0, hc0, rfl, _⟩ := hget 0 it0 h00
    have hc00 := (World.cells?_some hc0).2.2 0 (by omega)
    have hspot : spot = none := by simpa [Addr.add] using World.cell?_spot hc00
    subst hspot
    refine ⟨b, off, rfl, fun k it hk => ?_⟩
    obtain ⟨cs', hc, rfl, ho⟩ := hget k it hk
    have hcc : ∀ i, i < 5 → W.cell? ⟨b, off + k * 5 + i, none⟩ = [Value.int .i64 it.ev.kind, .string it.ev.task, .int .i64 it.ev.time, .string it.ev.body, .slice it.at' it.ev.tags.length it.cap][i]? := fun i hi => by
      have := (World.cells?_some hc).2.2 i hi
      rw [Go.WideShapes.add_plain, Go.WideShapes.add_plain] at this
      exact this
    exact ⟨⟨hcc 0 (by omega), hcc 1 (by omega), hcc 2 (by omega), hcc 3 (by omega), hcc 4 (by omega)⟩, ho⟩
theorem cellsEvents : Tryz.prog.cellsOf 33 = 1 := by kernel_rfl
theorem cellsOp : Tryz.prog.cellsOf 35 = 4 := by kernel_rfl
set_option maxRecDepth 100000 in
theorem op_bulk {H : Type} {enc : TypeId × Value → H} {W : World} {base : Nat} {held : Bool} {fuel : Nat} {cs : List Value} {x : DataW H × List MemPlace} (hlen4 : cs.length = 4)
    (h : DataW.trod enc Tryz.prog W base (fun _ => true) held fuel 35 cs = some x) (hk : Rows.uptoBulk x.1 ≤ 1048576) :
    ∃ o : OpIt, cs = o.cells ∧ OpOk W o := by
  match cs, hlen4 with
  | [c0, c1, c2, c3], _ =>
    obtain ⟨xs, n, _, hx, _, hlen, hfld⟩ := DataW.trod_struct Tryz.underlying35 h
    match xs, hlen with
    | [y0, y1, y2, y3], _ =>
      have h0 := hfld 0 _ rfl
      have h1 := hfld 1 _ rfl
      have h2 := hfld 2 _ rfl
      have h3 := hfld 3 _ rfl
      simp [cellsInt] at h0 h1 h2
      simp [cellsEvents] at h3
      subst hx
      simp only [List.map_cons, List.map_nil, Rows.uptoBulk, Rows.uptoBulkAll] at hk
      obtain ⟨k, e0, _, r0⟩ := DataW.trod_int Tryz.underlying3 h0
      obtain ⟨ar, e1, _, r1⟩ := DataW.trod_int Tryz.underlying3 h1
      obtain ⟨nn, e2, _, r2⟩ := DataW.trod_int Tryz.underlying3 h2
      obtain ⟨a, cap, l, e3, g1, g2⟩ := events_bulk h3 (by omega)
      simp only [List.cons.injEq, and_true] at e0 e1 e2 e3
      subst e0 e1 e2 e3
      simp [Lit.wf, IntKind.min, IntKind.max, IntKind.bits, IntKind.signed] at r1 r2
      exact ⟨⟨k, ar, nn, a, cap, l⟩, rfl, by show _ ∧ _; constructor <;> (simp only; omega), by show _ ∧ _; constructor <;> (simp only; omega), g1, g2⟩
set_option maxRecDepth 100000 in
theorem ops_bulk {H : Type} {enc : TypeId × Value → H} {W : World} {base b0 : Nat} {held : Bool} {v : Value} {d : DataW H} {p : List MemPlace} (hval : Value.okWide Tryz.prog W .any b0 22 v)
    (h : DataW.Trod enc Tryz.prog W base (fun _ => true) held 22 v d p) (hk : Rows.uptoBulk d ≤ 1048576) :
    ∃ (a : Option Addr) (cap : Nat) (l : List OpIt), v = .slice a l.length cap ∧ OpsAt W a l ∧ l.length ≤ 1048576 ∧ l.length ≤ cap := by
  obtain ⟨a0, len0, cap0, rfl⟩ := okWide_slice Tryz.underlying22 hval
  obtain ⟨fuel, hf⟩ := h
  rcases Go.Deep.open_slice Tryz.underlying22 hf with ⟨hcs, _⟩ | ⟨a, len, cap, m, n, D, Pl, hcs, _, hl, hm, hmc, hx, hel⟩
  · simp [Value.cells] at hcs
    obtain ⟨rfl, rfl, rfl⟩ := hcs
    exact ⟨none, 0, [], rfl, fun h0 => by simp at h0, by simp, by simp⟩
  · simp [Value.cells] at hcs
    obtain ⟨rfl, rfl, rfl⟩ := hcs
    simp only [Prod.mk.injEq] at hx
    obtain ⟨rfl, _⟩ := hx
    simp only [if_true] at hmc
    subst hmc
    simp only [cellsOp] at hel
    simp only [Rows.uptoBulk] at hk
    have hbl := bulk_len ((List.range len0).map D)
    simp only [List.length_map, List.length_range] at hbl
    have hit : ∀ i, i < len0 → ∃ it : OpIt, ∃ cs', W.cells? base (a.add (i * 4)) 4 = some cs' ∧ cs' = it.cells ∧ OpOk W it := by
      intro i hi
      obtain ⟨cs', hc, ht⟩ := hel i (by omega)
      have hbi : Rows.uptoBulk (D i) ≤ Rows.uptoBulkAll ((List.range len0).map D) := bulk_in (List.mem_map.2 ⟨i, List.mem_range.2 hi, rfl⟩)
      obtain ⟨it, e, ho⟩ := op_bulk (World.cells?_some hc).2.1 ht (by show Rows.uptoBulk (D i) ≤ _; omega)
      exact ⟨it, cs', hc, e, ho⟩
    let l : List OpIt := (List.range len0).attach.map fun i => (hit i.1 (List.mem_range.1 i.2)).choose
    have hlen : l.length = len0 := by simp [l]
    have hget : ∀ k it, l[k]? = some it → ∃ cs', W.cells? base (a.add (k * 4)) 4 = some cs' ∧ cs' = it.cells ∧ OpOk W it := by
      intro k it hk
      have hkl : k < len0 := by have := (List.getElem?_eq_some_iff.1 hk).1; omega
      have e : l[k]? = some (hit k hkl).choose := by simp [l, hkl]
      rw [e] at hk
      rw [← Option.some.inj hk]
      exact (hit k hkl).choose_spec
    refine ⟨some a, m, l, by rw [hlen], fun h0 => ?_, by omega, by omega⟩
    obtain ⟨b, off, spot⟩ := a
    obtain ⟨it0, h00⟩ : ∃ x, l[0]? = some x := ⟨_, List.getElem?_eq_getElem h0⟩
    obtain ⟨cs0, hc0, rfl, _⟩ := hget 0 it0 h00
    have hc00 := (World.cells?_some hc0).2.2 0 (by omega)
    have hspot : spot = none := by simpa [Addr.add] using World.cell?_spot hc00
    subst hspot
    refine ⟨b, off, rfl, fun k it hk => ?_⟩
    obtain ⟨cs', hc, rfl, ho⟩ := hget k it hk
    have hcc : ∀ i, i < 4 → W.cell? ⟨b, off + k * 4 + i, none⟩ = it.cells[i]? := fun i hi => by
      have := (World.cells?_some hc).2.2 i hi
      rw [Go.WideShapes.add_plain, Go.WideShapes.add_plain] at this
      exact this
    exact ⟨⟨hcc 0 (by omega), hcc 1 (by omega), hcc 2 (by omega), hcc 3 (by omega)⟩, ho⟩
end Go.Proofs.YtdjllnhahhjgmaaGreat
