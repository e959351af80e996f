/- Walks and plain facts, in the order in which they lean on one another. -/
import Derived.Test.YtdjllnhahhjgmaaGreatW11
import Derived.Test.YtdjllnhahhjgmaaGreatW10
import Derived.Test.YtdjllnhahhjgmaaGreatW08
import Derived.Deep.RegionHeld3
import Derived.Deep.RegionLaw
import Derived.Deep.CutRange
namespace Go.Proofs.YtdjllnhahhjgmaaGreat
open Go.RowKit Go.MuLone Chron
/- what is put behind the others, if anything is -/
def appFile (v : Int) (file : List UInt8) (l more : List Ev) : List UInt8 := if refB v l.length more = 0 ∧ more ≠ [] then file ++ entryB v (lastB noB l) more else file
def appEvs (v : Int) (l more : List Ev) : List Ev := if refB v l.length more = 0 then l ++ more else l
/- the file put anew behind an append, and its text -/
theorem ArchS.putFile {s : Int} {N p : Nat} {w wa : World} {fv ev : Value} {file nf : List UInt8} {its : List Item} {fa : Option Addr} {fc : Nat} (h : ArchS s N p w fv ev file its) (hg : w.grownBy wa fv.ownBlock) (ho : OwnB wa N 5 (.slice fa nf.length fc) nf.length (Lib.byteCells nf)) (hat : Value.ownBlock (.slice fa nf.length fc) = fv.ownBlock ∨ Value.ownBlock (.slice fa nf.length fc) = some w.heap.size) :
    ArchS s N p (wa.setCell ⟨p, 2, none⟩ (.slice fa nf.length fc)) (.slice fa nf.length fc) ev nf its ∧ Moved w (wa.setCell ⟨p, 2, none⟩ (.slice fa nf.length fc)) (Foot p fv ev its) (Foot p (.slice fa nf.length fc) ev its) := by
  have hlt := h.lt
  have hnew : ∀ q, Value.ownBlock (.slice fa nf.length fc) = some q → fv.ownBlock = some q ∨ q = w.heap.size := fun q hq => by
    rcases hat with e | e
    · exact .inl (by rw [← e]; exact hq)
    · rw [e] at hq; simp only [Option.some.injEq] at hq; exact .inr hq.symm
  have hpb : wa.heap[p]? = some (.cells #[.int .i32 s, .int .u32 0, fv, ev] 87) := (hg.block p (hlt p (.inl rfl)).2 (fun e => h.pf e.symm)).trans h.blk
  have key : ∀ q, q < w.heap.size → q ≠ p → fv.ownBlock ≠ some q → (wa.setCell ⟨p, 2, none⟩ (.slice fa nf.length fc)).heap[q]? = w.heap[q]? := fun q hq h1 h2 => (Below.heap_setCell _ _ _ _ h1).trans (hg.block q hq (fun e => h2 e.symm))
  have hnp : Value.ownBlock (.slice fa nf.length fc) ≠ some p := fun e => by
    rcases hnew p e with h1 | h1
    · exact h.pf h1
    · have := (hlt p (.inl rfl)).2; omega
  refine ⟨⟨four_set hpb, ho.block (fun q hq => Below.heap_setCell _ _ _ _ (fun e => hnp (by rw [hq, e]))), ⟨own_of_block h.evs.row (fun q hq => key q (h.evs.row.lt q hq).2 (fun e => h.pe (by rw [hq, e])) (fun e => (h.fe q e).1 hq)), fun it hi => own_of_block (h.evs.tags it hi) (fun q hq => key q ((h.evs.tags it hi).lt q hq).2 (fun e => h.pt (by rw [← e]; exact tagBs_mem.2 ⟨it, hi, hq⟩)) (fun e => (h.fe q e).2 (tagBs_mem.2 ⟨it, hi, hq⟩))), h.evs.apart, h.evs.dist⟩, h.pN, hnp, h.pe, h.pt, fun q hq => ?_, h.good, h.few⟩, ⟨hg.os, hg.tape, hg.output, by simpa [World.setCell] using hg.size, fun q hq hn => key q hq (fun e => hn (.inl e)) (fun e => hn (.inr (.inl e))), ?_⟩⟩
  · rcases hnew q hq with h1 | h1
    · exact h.fe q h1
    · refine ⟨fun e => ?_, fun e => ?_⟩
      · have := (hlt q (.inr (.inr (.inl e)))).2; omega
      · have := (hlt q (.inr (.inr (.inr e)))).2; omega
  · rintro q (h1 | h1 | h1 | h1)
    · exact .inl (.inl h1)
    · rcases hnew q h1 with h2 | h2
      · exact .inl (.inr (.inl h2))
      · exact .inr (by omega)
    · exact .inl (.inr (.inr (.inl h1)))
    · exact .inl (.inr (.inr (.inr h1)))
theorem ArchS.filed {s : Int} {N p : Nat} {w w7 w8 : World} {fv ev : Value} {file entry : List UInt8} {its : List Item} {fa : Option Addr} {fc : Nat} (h : ArchS s N p w fv ev file its) (hb : Below w.heap.size w w7) (hg : w7.grownBy w8 fv.ownBlock)
    (ho : OwnB w8 N 5 (.slice fa (file.length + entry.length) fc) (file.length + entry.length) (Lib.byteCells file ++ Lib.strCells ⟨entry.toArray⟩)) (hat : Value.ownBlock (.slice fa (file.length + entry.length) fc) = fv.ownBlock ∨ Value.ownBlock (.slice fa (file.length + entry.length) fc) = some w7.heap.size) :
    ∃ fa' fc', ArchS s N p (w8.setCell ⟨p, 2, none⟩ (.slice fa (file.length + entry.length) fc)) (.slice fa' (file ++ entry).length fc') ev (file ++ entry) its ∧ Moved w (w8.setCell ⟨p, 2, none⟩ (.slice fa (file.length + entry.length) fc)) (Foot p fv ev its) (Foot p (.slice fa' (file ++ entry).length fc') ev its) := by
  rw [strCells_bytes, ← List.length_append] at ho
  rw [← List.length_append] at hat ⊢
  obtain ⟨h1, h2⟩ := (h.below hb).putFile hg ho hat
  exact ⟨fa, fc, h1, (Moved.of_below hb).trans h2⟩
/- one more event put behind the others -/
theorem ArchS.putEvent {s : Int} {N p M : Nat} {w wa : World} {fv ev : Value} {file : List UInt8} {its : List Item} {o : Obj} {g cap : Nat} {i : Item} (h : ArchS s N p w fv ev file its) (hi : w.ownsRow M 9 1 i.tv i.ev.tags.length (i.ev.tags.map Value.string)) (hM : ∀ q, Foot p fv ev its q → q < M) (hN : N ≤ M)
    (hg : (w.alloc o).grownBy wa ev.ownBlock) (hown : wa.ownsRow N 38 5 (.slice (some ⟨g, 0, none⟩) (its.length + 1) cap) (its.length + 1) (fives its ++ i.five)) (hat : ev.ownBlock = some g ∨ g = (w.alloc o).heap.size) (hgd : isB i.ev = true) (hfew : its.length < 200) :
    ArchS s N p (wa.setCell ⟨p, 3, none⟩ (.slice (some ⟨g, 0, none⟩) (its.length + 1) cap)) fv (.slice (some ⟨g, 0, none⟩) (its.length + 1) cap) file (its ++ [i]) ∧ (∀ q, q < w.heap.size → ¬ Foot p fv ev its q → (wa.setCell ⟨p, 3, none⟩ (.slice (some ⟨g, 0, none⟩) (its.length + 1) cap)).heap[q]? = w.heap[q]?) ∧
      (∀ q, Foot p fv (.slice (some ⟨g, 0, none⟩) (its.length + 1) cap) (its ++ [i]) q → Foot p fv ev its q ∨ M ≤ q ∨ w.heap.size ≤ q) := by
  have hlt := h.lt
  have hP := h.evs.push hi hN (fun q hq => hM q (.inr (.inr (.inl hq)))) (fun q hq => hM q (.inr (.inr (.inr hq)))) hg hown hat
  have hs := hg.size
  rw [World.size_alloc] at hs hat
  have hgk : ∀ q, q < w.heap.size → ev.ownBlock ≠ some q → wa.heap[q]? = w.heap[q]? := fun q hq hne => (hg.block q (by rw [World.size_alloc]; omega) (fun e => hne e.symm)).trans (Below.heap_alloc _ _ _ hq)
  have hpb : wa.heap[p]? = some (.cells #[.int .i32 s, .int .u32 0, fv, ev] 87) := (hgk p (hlt p (.inl rfl)).2 h.pe).trans h.blk
  have hgp : g ≠ p := fun e => by
    subst e
    rcases hat with e | e
    · exact h.pe e
    · have := (hlt g (.inl rfl)).2; omega
  have hone : ∀ q, q ∈ tagBs (its ++ [i]) ↔ q ∈ tagBs its ∨ i.tv.ownBlock = some q := fun q => by
    rw [tagBs_mem, tagBs_mem]
    constructor
    · rintro ⟨it, hit, hq⟩
      rcases List.mem_append.1 hit with h1 | h1
      · exact .inl ⟨it, h1, hq⟩
      · simp at h1; subst h1; exact .inr hq
    · rintro (⟨it, hit, hq⟩ | hq)
      · exact ⟨it, List.mem_append_left _ hit, hq⟩
      · exact ⟨i, by simp, hq⟩
  have hkp : ∀ q, q ≠ p → (wa.setCell ⟨p, 3, none⟩ (.slice (some ⟨g, 0, none⟩) (its.length + 1) cap)).heap[q]? = wa.heap[q]? := fun q hq => Below.heap_setCell _ _ _ _ hq
  have hpt : p ∉ tagBs (its ++ [i]) := fun e => by
    rcases (hone p).1 e with h1 | h1
    · exact h.pt h1
    · have := (hi.lt p h1).1; have := hM p (.inl rfl); omega
  refine ⟨⟨four_set hpb, h.fil.block (fun q hq => (hkp q (fun e => h.pf (by rw [hq, e]))).trans (hgk q (h.fil.lt q hq).2 (h.fe q hq).1)), ⟨own_of_block hP.row (fun q hq => hkp q (fun e => by simp only [Value.ownBlock, Option.some.injEq] at hq; exact hgp (by omega))), fun it hit => own_of_block (hP.tags it hit) (fun q hq => hkp q (fun e => hpt (by rw [← e]; exact tagBs_mem.2 ⟨it, hit, hq⟩))), hP.apart, hP.dist⟩, h.pN, h.pf, fun e => by simp only [Value.ownBlock, Option.some.injEq] at e; exact hgp e, hpt, fun q hq => ⟨fun e => ?_, fun e => ?_⟩, fun it hit => ?_, by simp; omega⟩, fun q hq hn => ?_, ?_⟩
  · simp only [Value.ownBlock, Option.some.injEq] at e
    subst e
    rcases hat with e | e
    · exact (h.fe g hq).1 e
    · have := (h.fil.lt g hq).2; omega
  · rcases (hone q).1 e with h1 | h1
    · exact (h.fe q hq).2 h1
    · have := (hi.lt q h1).1; have := hM q (.inr (.inl hq)); omega
  · rcases List.mem_append.1 hit with h1 | h1
    · exact h.good it h1
    · simp at h1; subst h1; exact hgd
  · exact (hkp q (fun e => hn (.inl e))).trans (hgk q hq (fun e => hn (.inr (.inr (.inl e)))))
  · rintro q (h1 | h1 | h1 | h1)
    · exact .inl (.inl h1)
    · exact .inl (.inr (.inl h1))
    · simp only [Value.ownBlock, Option.some.injEq] at h1
      rcases hat with e | e
      · exact .inl (.inr (.inr (.inl (by rw [e, h1]))))
      · exact .inr (.inr (by omega))
    · rcases (hone q).1 h1 with h2 | h2
      · exact .inl (.inr (.inr (.inr h2)))
      · exact .inr (.inl (hi.lt q h2).1)
theorem ArchS.added {s : Int} {N p : Nat} {w w5 wa : World} {fv ev : Value} {file : List UInt8} {its : List Item} {o : Obj} {g cap : Nat} {i : Item} (h : ArchS s N p w fv ev file its) (hb : Below w.heap.size w w5) (hi : w5.ownsRow (w.heap.size + 1) 9 1 i.tv i.ev.tags.length (i.ev.tags.map Value.string))
    (hg : (w5.alloc o).grownBy wa ev.ownBlock) (hown : wa.ownsRow N 38 5 (.slice (some ⟨g, 0, none⟩) (its.length + 1) cap) (its.length + 1) (fives its ++ i.five)) (hat : ev.ownBlock = some g ∨ g = (w5.alloc o).heap.size) (hgd : isB i.ev = true) (hfew : its.length < 200) :
    ArchS s N p (wa.setCell ⟨p, 3, none⟩ (.slice (some ⟨g, 0, none⟩) (its.length + 1) cap)) fv (.slice (some ⟨g, 0, none⟩) (its ++ [i]).length cap) file (its ++ [i]) ∧ Moved w (wa.setCell ⟨p, 3, none⟩ (.slice (some ⟨g, 0, none⟩) (its.length + 1) cap)) (Foot p fv ev its) (Foot p fv (.slice (some ⟨g, 0, none⟩) (its ++ [i]).length cap) (its ++ [i])) := by
  have hl : (its ++ [i]).length = its.length + 1 := by simp
  rw [hl]
  have hlt := h.lt
  have hs := hb.size
  have hp := (hlt p (.inl rfl)).1
  have hp2 := (hlt p (.inl rfl)).2
  obtain ⟨h1, h2, h3⟩ := (h.below hb).putEvent hi (fun q hq => by have := (hlt q hq).2; omega) (by omega) hg hown hat hgd hfew
  have hgs := hg.size
  rw [World.size_alloc] at hgs
  refine ⟨h1, hg.os.trans hb.os, hg.tape.trans hb.tape, hg.output.trans hb.output, ?_, fun q hq hn => (h2 q (by omega) hn).trans (hb.block q hq), fun q hq => ?_⟩
  · have : (wa.setCell ⟨p, 3, none⟩ (.slice (some ⟨g, 0, none⟩) (its.length + 1) cap)).heap.size = wa.heap.size := by simp [World.setCell]
    omega
  · rcases h3 q hq with h4 | h4 | h4
    · exact .inl h4
    · exact .inr (by omega)
    · exact .inr (by omega)
end Go.Proofs.YtdjllnhahhjgmaaGreat
namespace Go.Proofs.YtdjllnhahhjgmaaGreat
open Go.RowKit Chron
theorem step_append_keptL {P : Program} (w : World) {ops : Array Oper} {o : Oper} {a : Act} {K : Act → World → Prop} {Q : Exit → Act → World → Prop} {E : Prop} (hgd : o.guard = none) (s x : Operand) (t : TypeId)
    (ho : o.op = .call { callee := .builtin .append, args := #[s, x], argTypes := #[t, t] })
    (base : Nat) (e : TypeId) (i : TypeInfo) (z : Value) (size bytes : Nat) (ht : P.underlying t = some (.slice e)) (hi : P.info? e = some i) (hz : i.zero = some z)
    (hsize : i.size = size) (hby : i.bytes = bytes) (hzs : z.cells.size = size) (hpos : 0 < size)
    (v : Value) (n : Nat) (xs : List Value) (hs : a.eval s = v) (hown : w.ownsRow base e size v n xs)
    (ad : Addr) (m c : Nat) (news : List Value) (hx : a.eval x = .slice (some ad) m c) (hl : news.length = m * size) (hnews : ∀ j u, news[j]? = some u → w.cell? (ad.add j) = some u) (h1 : ∀ u ∈ news, u.oneCell' = true)
    (hm : 0 < m) (h63 : n + m ≤ maxLen) (hbytes : (n + m) * bytes ≤ 140737488355328) (hbase : base ≤ w.heap.size) (H : Nat) (hH : w.heap.size = H)
    (h : ∀ g cap w', w'.ownsRow base e size (.slice (some ⟨g, 0, none⟩) (n + m) cap) (n + m) (xs ++ news) → w'.ownsRow base e size v n xs → w.grownBy w' v.ownBlock → (v.ownBlock = some g ∨ g = H) → g < w'.heap.size → K (a.put o.dst (.slice (some ⟨g, 0, none⟩) (n + m) cap)) w') :
    if Region.wanted o (yielded ops a.tmps) = true then Oper.wp P o a w K Q else E := by
  have hw : Region.wanted o (yielded ops a.tmps) = true := by simp [Region.wanted, hgd]
  rw [if_pos hw]
  obtain ⟨g, cap, w', hr, h2, h3, _⟩ := run_append_keptG (P := P) w t o.type base e i z size bytes ht hi hz hsize hby hzs hpos v n xs hown ad m c news hl hnews h1 hm h63 hbytes hbase
  obtain ⟨g', cap', w'', hr', _, k3, k4, k5⟩ := run_append_lies (P := P) w t o.type base e i z size bytes ht hi hz hsize hby hzs hpos v n xs hown ad m c news hl hnews h1 hm h63 hbytes hbase H hH
  have hq : g = g' ∧ w' = w'' := by
    rw [hr] at hr'
    simp only [Result.ok.injEq, Value.slice.injEq, Option.some.injEq, Addr.mk.injEq] at hr'
    exact ⟨hr'.1.1.1, hr'.2⟩
  obtain ⟨rfl, rfl⟩ := hq
  unfold Oper.wp execOp
  simp only [ho, resolve, invoke, builtin, Sem.run_bind, Sem.run_pure, Result.andThen_ok, List.map_toArray, List.map_cons, List.map_nil, hs, hx, hr]
  exact h g cap w' h2 h3 k3 k4 k5
theorem EvsAt.pre {w : World} {a : Option Addr} {its ms : List Item} (h : EvsAt w a (its ++ ms)) : EvsAt w a its := by
  intro hp
  obtain ⟨b, off, e, hc⟩ := h (by simp; omega)
  refine ⟨b, off, e, fun k i hk => hc k i ?_⟩
  rw [List.getElem?_append_left (List.getElem?_eq_some_iff.1 hk).1]; exact hk
theorem EvsAt.mix {W W' : World} {a : Option Addr} {c : Nat} {its : List Item} (h : EvsAt W a its) (hb : ∀ q, Value.ownBlock (.slice a its.length c) = some q → W'.heap[q]? = W.heap[q]?) (ht : ∀ it ∈ its, TagsAt W' it.at' it.ev.tags) : EvsAt W' a its := by
  intro hp
  obtain ⟨b, off, rfl, hc⟩ := h hp
  refine ⟨b, off, rfl, fun k i hk => ?_⟩
  obtain ⟨c0, ok⟩ := hc k i hk
  have key : ∀ j v, W.cell? ⟨b, off + k * 5 + j, none⟩ = some v → W'.cell? ⟨b, off + k * 5 + j, none⟩ = some v := fun j v hv => (World.cell?_of_block (hb b rfl)).trans hv
  exact ⟨⟨key 0 _ c0.c0, key 1 _ c0.c1, key 2 _ c0.c2, key 3 _ c0.c3, key 4 _ c0.c4⟩, ⟨ht i (List.mem_of_getElem? hk), ok.short, ok.few, ok.task, ok.body⟩⟩
theorem MadeO.tagsAt {N : Nat} {w : World} {lv : Value} {its : List Item} (h : MadeO N w lv its) : ∀ it ∈ its, TagsAt w it.at' it.ev.tags := by
  intro it hi
  obtain ⟨a9, c9, e9, h9⟩ := own_tags (h.tags it hi)
  simp only [Item.tv, Value.slice.injEq] at e9
  rw [e9.1]; exact h9
structure Old (F : Nat → Prop) (evo : Value) (its : List Item) (w : World) (ev : Value) (its' : List Item) : Prop where
  pre : ∃ ms, its' = its ++ ms
  at' : ∃ a c, evo = .slice a its.length c ∧ (∀ b off, a = some ⟨b, off, none⟩ → off = 0) ∧ EvsAt w a its
  blk : ev.ownBlock = evo.ownBlock ∨ ∀ q, evo.ownBlock = some q → ¬ F q ∧ q < w.heap.size
theorem Old.refl {F : Nat → Prop} {s : Int} {N p : Nat} {w : World} {fv ev : Value} {file : List UInt8} {its : List Item} (h : ArchS s N p w fv ev file its) : Old F ev its w ev its := by
  obtain ⟨ea, ec, e, hE, _, h0⟩ := h.evs.at h.good
  exact ⟨⟨[], by simp⟩, ⟨ea, ec, e, h0, hE⟩, .inl rfl⟩
theorem Old.step {F F' : Nat → Prop} {evo ev ev' fv' : Value} {its its' its2 ms : List Item} {W W' : World} {s : Int} {N p : Nat} {file' : List UInt8} (h : Old F evo its W ev its') (hM : Moved W W' F F') (hA : ArchS s N p W' fv' ev' file' its2) (hms : its2 = its' ++ ms)
    (hev : ev'.ownBlock = ev.ownBlock ∨ ((∀ q, ev.ownBlock = some q → ¬ F' q) ∧ (∀ q, ev.ownBlock = some q → q < W'.heap.size) ∧ W'.ownsRow N 38 5 ev its'.length (fives its') ∧ ∀ q ∈ tagBs its', ev.ownBlock ≠ some q)) : Old F' evo its W' ev' its2 := by
  obtain ⟨ms0, hp⟩ := h.pre
  obtain ⟨a, c, e, h0, hE⟩ := h.at'
  have hsub : ∀ it ∈ its, it ∈ its2 := fun it hi => by rw [hms, hp]; simp [hi]
  have hT : ∀ it ∈ its, TagsAt W' it.at' it.ev.tags := fun it hi => hA.evs.tagsAt it (hsub it hi)
  have same : ∀ {v : Value} {l : List Item}, MadeO N W' v l → (∀ it ∈ l, isB it.ev = true) → (∃ m, l = its ++ m) → v.ownBlock = evo.ownBlock → EvsAt W' a its := by
    intro v l hm hg ⟨m, hl⟩ hv
    obtain ⟨ea, ec, e2, hE2, _, h02⟩ := hm.at hg
    rw [hl] at hE2
    have hE3 := hE2.pre
    intro hpos
    obtain ⟨b, off, rfl, hc⟩ := hE3 hpos
    obtain rfl := h02 b off rfl
    have hb : evo.ownBlock = some b := by rw [← hv, e2]; rfl
    have : a = some ⟨b, 0, none⟩ := by
      obtain ⟨b', off', rfl, _⟩ := hE hpos
      obtain rfl := h0 b' off' rfl
      rw [e] at hb
      simp only [Value.ownBlock, Option.some.injEq] at hb
      rw [hb]
    exact ⟨b, 0, this, hc⟩
  rcases h.blk with hb | hb
  · rcases hev with he | ⟨he1, he2, he3, hap⟩
    · exact ⟨⟨ms0 ++ ms, by rw [hms, hp, List.append_assoc]⟩, ⟨a, c, e, h0, same hA.evs hA.good ⟨ms0 ++ ms, by rw [hms, hp, List.append_assoc]⟩ (he.trans hb)⟩, .inl (he.trans hb)⟩
    · refine ⟨⟨ms0 ++ ms, by rw [hms, hp, List.append_assoc]⟩, ⟨a, c, e, h0, ?_⟩, .inr fun q hq => ?_⟩
      · have hin : ∀ it ∈ its', it ∈ its2 := fun it hi => by rw [hms]; simp [hi]
        have hsubl : (tagBs its').Sublist (tagBs its2) := by rw [hms]; unfold tagBs; rw [List.filterMap_append]; exact List.sublist_append_left _ _
        exact same ⟨he3, fun it hi => hA.evs.tags it (hin it hi), hap, hA.evs.dist.sublist hsubl⟩ (fun it hi => hA.good it (hin it hi)) ⟨ms0, hp⟩ hb
      · exact ⟨he1 q (hb.trans hq), he2 q (hb.trans hq)⟩
  · refine ⟨⟨ms0 ++ ms, by rw [hms, hp, List.append_assoc]⟩, ⟨a, c, e, h0, ?_⟩, .inr fun q hq => ?_⟩
    · refine hE.mix (c := c) (fun q hq => ?_) hT
      obtain ⟨h1, h2⟩ := hb q (by rw [e]; exact hq)
      exact hM.block q h2 h1
    · obtain ⟨h1, h2⟩ := hb q hq
      refine ⟨fun hf => ?_, by have := hM.size; omega⟩
      rcases hM.sub q hf with h3 | h3
      · exact h1 h3
      · omega
theorem Old.kept {F : Nat → Prop} {ev ev' : Value} {its its' : List Item} {w w' : World} (h : Old F ev its w' ev' its') : Kept ev its w w' := by
  intro a c e h0 _
  obtain ⟨a', c', e', _, hE⟩ := h.at'
  rw [e] at e'
  cases e'
  exact hE
end Go.Proofs.YtdjllnhahhjgmaaGreat
namespace Go.Proofs.YtdjllnhahhjgmaaGreat
open Go.RowKit Go.MuLone Chron
theorem old_added {N p g cap : Nat} {s : Int} {fv ev evo : Value} {file : List UInt8} {its0 its : List Item} {w w5 wa : World} {o : Obj} {i : Item} (h : ArchS s N p w fv ev file its) (hb : Below w.heap.size w w5) (hi : w5.ownsRow (w.heap.size + 1) 9 1 i.tv i.ev.tags.length (i.ev.tags.map Value.string))
    (hg : (w5.alloc o).grownBy wa ev.ownBlock) (hold : wa.ownsRow N 38 5 ev its.length (fives its)) (hat : ev.ownBlock = some g ∨ g = (w5.alloc o).heap.size)
    (hA : ArchS s N p (wa.setCell ⟨p, 3, none⟩ (.slice (some ⟨g, 0, none⟩) (its.length + 1) cap)) fv (.slice (some ⟨g, 0, none⟩) (its ++ [i]).length cap) file (its ++ [i])) (hM : Moved w (wa.setCell ⟨p, 3, none⟩ (.slice (some ⟨g, 0, none⟩) (its.length + 1) cap)) (Foot p fv ev its) (Foot p fv (.slice (some ⟨g, 0, none⟩) (its ++ [i]).length cap) (its ++ [i])))
    (hO : Old (Foot p fv ev its) evo its0 w ev its) : Old (Foot p fv (.slice (some ⟨g, 0, none⟩) (its ++ [i]).length cap) (its ++ [i])) evo its0 (wa.setCell ⟨p, 3, none⟩ (.slice (some ⟨g, 0, none⟩) (its.length + 1) cap)) (.slice (some ⟨g, 0, none⟩) (its ++ [i]).length cap) (its ++ [i]) := by
  have hlt := h.lt
  have hs := hb.size
  have hgs := hg.size
  rw [World.size_alloc] at hgs
  have hfs : (wa.setCell ⟨p, 3, none⟩ (.slice (some ⟨g, 0, none⟩) (its.length + 1) cap)).heap.size = wa.heap.size := by simp [World.setCell]
  refine hO.step (ms := [i]) hM hA rfl ?_
  rcases hat with hat | hat
  · exact .inl (by rw [hat]; rfl)
  · refine .inr ⟨fun q hq hf => ?_, fun q hq => by have := (hlt q (.inr (.inr (.inl hq)))).2; omega, own_of_block hold (fun q hq => Below.heap_setCell _ _ _ _ (fun e => h.pe (by rw [hq, e]))), h.evs.apart⟩
    have hql := (hlt q (.inr (.inr (.inl hq)))).2
    rcases hf with rfl | hf | hf | hf
    · exact h.pe hq
    · exact (h.fe q hf).1 hq
    · simp only [Value.ownBlock, Option.some.injEq] at hf
      rw [World.size_alloc] at hat
      omega
    · obtain ⟨it, hm, e⟩ := tagBs_mem.1 hf
      rcases List.mem_append.1 hm with hm | hm
      · exact h.evs.apart q (tagBs_mem.2 ⟨it, hm, e⟩) hq
      · simp only [List.mem_singleton] at hm
        subst hm
        have := (hi.lt q e).1
        omega
set_option maxRecDepth 100000 in
set_option maxHeartbeats 4000000 in
theorem append_anyK (N p : Nat) (v : Int) (fv ev : Value) (file : List UInt8) (its : List Item) (a : Option Addr) (cap : Nat) (ls : List Item) (w : World) (hA : Hid (ArchO N p w fv ev file its)) (hE : Hid (EvsAt w a ls)) (hl : ls.length ≤ 100000000) (hf : file.length ≤ 100000000)
    (hap : Hid (∀ q, ReadsOf a ls q → ¬ Foot p fv ev its q)) :
    Calls Tryz.prog 26 #[.pointer (some ⟨p, 0, none⟩), .int .i64 v, .slice a ls.length cap] w fun e w' => e = .returned (.int .i64 (refB v its.length (evs ls))) ∧
      ∃ fv' ev' its', ArchO N p w' fv' ev' (appFile v file (evs its) (evs ls)) its' ∧ evs its' = appEvs v (evs its) (evs ls) ∧ Moved w w' (Foot p fv ev its) (Foot p fv' ev' its') ∧ Old (Foot p fv' ev' its') ev its w' ev' its' := by
  obtain ⟨ea, ec, rfl, t1, t2, t3⟩ := hA.out.evs.at hA.out.good
  obtain ⟨c0, t4, t5, t6, cz⟩ := four_cells hA.out.blk
  clear t1 t2 t3 t4 t5 t6
  obtain ⟨hA1, hm1, hs1⟩ := hA.out.state 1
  have hE1 := hE.out.moved hm1 hap.out
  obtain ⟨c0', c1', c2', c3', cz'⟩ := four_cells hA1.blk
  have hes : (evs its).length = its.length := by simp [evs]
  go_enter_defers Tryz.func26, Tryz.ntmps26
  go_wp2_with (go_at_call 37; refine (lock_free Tryz.muLib ⟨p, 0, none⟩ _ c0 (cz 0)).mono ?_; rintro e w' ⟨rfl, rfl⟩)
  clear c0 cz
  generalize w.setCell ⟨p, 0, none⟩ (.int .i32 1) = w1 at *
  refine (arefuse_any p v 1 fv ea its.length ec a cap ls w1 hA1.blk hA.out.few hE1 hl).mono ?_
  rintro e w2 ⟨rfl, hb2⟩
  have HA2 := hide0 (hA1.below hb2)
  have HM2 : Hid (Moved w w2 (Foot p fv (.slice ea its.length ec) its) (Foot p fv (.slice ea its.length ec) its)) := hm1.trans (Moved.of_below hb2)
  have HE2 := hide0 (hE1.below hb2 (Nat.le_refl _))
  clear hA1 hm1 hs1 hE1 c0' c1' c2' c3' cz' hb2
  obtain ⟨c0, c1, c2, c3, cz⟩ := four_cells HA2.out.blk
  have hunlock : ∀ (W : World) (fw ew : Value) (fl : List UInt8) (is : List Item), ArchS 1 N p W fw ew fl is → W.cell? ⟨p, 0, none⟩ = some (.int .i32 1) ∧ W.frozen? ⟨p, 0, none⟩ = false := fun W fw ew fl is h => ⟨(four_cells h.blk).1, (four_cells h.blk).2.2.2.2 0⟩
  by_cases hr : refB v its.length (evs ls) = 0
  · by_cases hz : ls.length = 0
    · have hn : ls = [] := List.eq_nil_of_length_eq_zero hz
      subst hn
      have HFI : Hid (appFile v file (evs its) (evs []) = file ∧ appEvs v (evs its) (evs []) = evs its) := by
        refine ⟨if_neg (fun h => h.2 rfl), ?_⟩
        unfold appEvs; split <;> simp [evs]
      have HRR := hide0 hr
      rw [hr]
      clear hr
      go_wp2
      refine leaves_cons (f := 38) (args := #[.pointer (some ⟨p, 0, none⟩)]) (by simp) (by simp [go_sem]) ?_
      refine (unlock_deferred Tryz.muLib ⟨p, 0, none⟩ .returning _ c0 (cz 0)).mono ?_
      rintro e u' w'' ⟨rfl, rfl, rfl⟩
      obtain ⟨hA3, hm3, _⟩ := HA2.out.state 0
      exact ⟨_, results_tmp rfl _ _ _, by rw [HRR.out]; rfl, _, _, its, by rw [HFI.out.1]; exact hA3, HFI.out.2.symm, HM2.out.trans hm3, Old.refl hA3⟩
    · have hgo : ∀ e ∈ evs ls, goesB v e = true := by
        intro e he
        unfold refB at hr
        split at hr
        · simp at hr
        · split at hr
          · simp at hr
          · split at hr
            · rename_i h; exact List.all_eq_true.1 h e he
            · simp at hr
      have hsum : its.length + ls.length ≤ 200 := by
        unfold refB at hr
        split at hr
        · simp at hr
        · split at hr
          · simp at hr
          · have : (evs ls).length = ls.length := by simp [evs]
            omega
      have hv : 1 ≤ v ∧ v ≤ 3 := by
        have : isVer v = true := by
          unfold refB at hr
          split at hr
          · simp at hr
          · simpa using ‹¬ isVer v = false›
        simpa [isVer] using this
      have HRR := hide0 hr
      rw [hr]
      have hzb : ((ls.length : Int) == 0) = false := by simp only [beq_eq_false_iff_ne, ne_eq]; omega
      have hne : ls ≠ [] := fun h => hz (by rw [h]; rfl)
      have HFI : Hid (appFile v file (evs its) (evs ls) = file ++ entryB v (lastB noB (evs its)) (evs ls) ∧ appEvs v (evs its) (evs ls) = evs its ++ evs ls) := by
        refine ⟨if_pos ⟨by rw [hes]; exact hr, fun h => hne (List.map_eq_nil_iff.1 h)⟩, if_pos (by rw [hes]; exact hr)⟩
      have hold := lastB_size (old := noB) (by decide) (evs its) (fun e he => by obtain ⟨it, hi, rfl⟩ := List.mem_map.1 he; exact hA.out.good it hi)
      have hel := entryB_len (v := v) (old := lastB noB (evs its)) (l := evs ls) hgo hold
      have hel2 : (evs ls).length = ls.length := by simp [evs]
      obtain ⟨ea2, ec2, hv2, hE2, t1, t2⟩ := HA2.out.evs.at hA.out.good
      cases hv2
      clear t1 t2
      have hp2 := (Array.getElem?_eq_some_iff.1 HA2.out.blk).1
      have hLB : Calls Tryz.prog 43 #[.slice ea its.length ec] w2.drew fun e w'' => e = .returned (.string (lastB noB (evs its))) ∧ w'' = w2.drew := lastBody_any ea ec its w2.drew (hE2.below (Below.refl _ _).drew (Nat.le_refl _)) (by omega)
      have hWR : Calls Tryz.prog 42 #[.int .i64 v, .string (lastB noB (evs its)), .slice a ls.length cap] w2.drew fun e w'' => e = .returned (.string ⟨(entryB v (lastB noB (evs its)) (evs ls)).toArray⟩) ∧ Hid (Below w2.heap.size w2 w'') ∧ w''.cell? ⟨p, 2, none⟩ = some fv ∧ w''.cell? ⟨p, 3, none⟩ = some (.slice ea its.length ec) := by
        refine (write_any v _ a cap ls w2.drew (HE2.out.below (Below.refl _ _).drew (Nat.le_refl _)) hv.1 hv.2 hold hgo (by omega)).mono ?_
        rintro e w'' ⟨rfl, hb''⟩
        have hB : Below w2.heap.size w2 w'' := ((Below.refl _ _).drew).trans hb''
        have hC := four_cells ((hB.block p hp2).trans HA2.out.blk)
        exact ⟨rfl, hB, hC.2.2.1, hC.2.2.2.1⟩
      generalize hold' : lastB noB (evs its) = old at *
      generalize hent : entryB v old (evs ls) = entry at *
      have hn1 : file.length + (⟨entry.toArray⟩ : ByteArray).size ≤ maxLen := by show file.length + entry.length ≤ _; unfold maxLen; omega
      have hn2 : file.length + (⟨entry.toArray⟩ : ByteArray).size ≤ 140737488355328 := by show file.length + entry.length ≤ _; omega
      have HGO := hide0 hgo
      obtain ⟨i0, hi, hz0, hz1, hz2⟩ := info_parts infoByte
      obtain ⟨ffa, ffc, hfv, t1⟩ := HA2.out.fil.shape
      clear t1
      have hNp : N ≤ w2.heap.size := by have := HA2.out.pN; omega
      subst hfv
      clear hr hz hgo hold' hent hE2 hne
      go_upto_region 6 with fail
      go_cut [44] from 29 to 44 (fun _ wx => Hid (∃ fa fc, ArchS 1 N p wx (.slice fa (file ++ entry).length fc) (.slice ea its.length ec) (file ++ entry) its ∧ Moved w2 wx (Foot p (.slice ffa file.length ffc) (.slice ea its.length ec) its) (Foot p (.slice fa (file ++ entry).length fc) (.slice ea its.length ec) its)))
      case first =>
        clear hunlock hsum hv hel hel2 hes hold hp2 hzb hl hf
        refine wp_region_noPanic ?_
        go_region_law (first
          | (have hq9 := HO7.out
             refine step_append_str _ rfl _ _ 74 9 rfl N 5 i0 Tryz.underlying74 Tryz.underlying9 hi hz0 hz1 hz2 (.slice ffa file.length ffc) file.length (Lib.byteCells file) rfl hq9 ⟨entry.toArray⟩ rfl hn1 hn2 hs7 ?_
             clear hq9
             intro fa fc w8 hown8 hgr8 hat8
             have hp8 := (hgr8.block p (Array.getElem?_eq_some_iff.1 HA7.out.blk).1 (fun e => HA7.out.pf e.symm)).trans HA7.out.blk
             obtain ⟨q0, q1, q2, q3, qz⟩ := four_cells hp8
             have HN8 := hide0 hown8
             clear hown8)
          | (go_simp; go_at_call 43; refine hLB.mono ?_; rintro e w' ⟨rfl, rfl⟩)
          | (go_simp; go_at_call 42; refine hWR.mono ?_; rintro e w7 ⟨rfl, HB7, k2, k3⟩; have HA7 := hide0 (HA2.out.below HB7.out); have HO7 := hide0 HA7.out.fil; have hs7 : N ≤ w7.heap.size := Nat.le_trans hNp HB7.out.size))
        all_goals
          have HF8 := hide0 (HA2.out.filed HB7.out hgr8 HN8.out hat8)
          refine NoPanic.normal ?_
          go_wp2_with fail
          go_meet
          case rel => exact HF8
      case rest =>
        obtain ⟨nfa, nfc, HA3, HM3⟩ := hcut.out
        have HA3 := hide0 HA3
        have HM3 := hide0 (HM2.out.trans HM3)
        clear hcut hLB hWR HM2 HA2 HE2 c0 c1 c2 c3 cz hi hz0 hz1 hz2 hn1 hn2 i0 hunlock
        obtain ⟨i0, hi, hz0, hz1, hz2⟩ := info_parts infoEvent5
        generalize hnfv : (Value.slice nfa (file ++ entry).length nfc) = nfv at *
        have hsz3 := HM3.out.size
        have hwp : p < w.heap.size := (hA.out.lt p (.inl rfl)).2
        go_wp2_with fail
        go_loopw [47] (fun iv wx => ∃ (n : Nat) (its' : List Item) (va : Option Addr) (vc : Nat), n ≤ ls.length ∧ iv = .int .i64 n ∧ Hid (ArchS 1 N p wx nfv (.slice va its'.length vc) (file ++ entry) its') ∧ Hid (evs its' = evs its ++ (evs ls).take n) ∧ Hid (Moved w wx (Foot p (.slice ffa file.length ffc) (.slice ea its.length ec) its) (Foot p nfv (.slice va its'.length vc) its')) ∧ Hid (Old (Foot p nfv (.slice va its'.length vc) its') (.slice ea its.length ec) its wx (.slice va its'.length vc) its')) (fun i _ => ls.length - (intOf i).toNat)
        case atStart => exact ⟨0, its, ea, ec, Nat.zero_le _, rfl, HA3, by show _ = _; simp, HM3, hide0 (Old.refl HA3.out)⟩
        case round =>
          obtain ⟨n, its', va, vc, hn, rfl, HA, HS, HM, HO⟩ := hrel
          clear HA3 HM3
          obtain ⟨c0, c1, c2, c3, cz⟩ := four_cells HA.out.blk
          have hl' : its'.length = its.length + n := by
            have := congrArg List.length HS.out
            simp only [evs, List.length_map, List.length_append, List.length_take] at this
            omega
          by_cases hlt : n < ls.length
          · have hEw := hE.out.moved HM.out hap.out
            obtain ⟨g, off, rfl, hc⟩ := hEw (by omega)
            obtain ⟨hcell, hitem⟩ := hc n ls[n] (List.getElem?_eq_getElem hlt)
            have hx : (evs ls)[n]? = some ls[n].ev := by simp [evs, hlt]
            have hgood := goes_is (HGO.out ls[n].ev (List.mem_of_getElem? hx))
            have HX := hide0 hx
            generalize ls[n] = it at hcell hitem hgood HX hx
            obtain ⟨⟨k, t, m, b, ts⟩, ia, ic⟩ := it
            obtain ⟨d0, d1, d2, d3, d4⟩ := hcell
            have hK := is_known hgood
            have HT := hide0 hitem.tags
            simp only at d0 d1 d2 d3 d4 HT
            have hwr := HM.out.size
            have hpr := (Array.getElem?_eq_some_iff.1 HA.out.blk).1
            have hCP : Calls Tryz.prog 35 #[.agg #[.int .i64 k, .string t, .int .i64 m, .string b, .slice ia ts.length ic]] (wr.alloc (.cells #[.int .i64 k, .string t, .int .i64 m, .string b, .slice ia ts.length ic] 38)).drew fun e w'' => ∃ xa xc, e = .returned (.agg #[.int .i64 k, .string t, .int .i64 m, .string b, .slice xa ts.length xc]) ∧ Hid (w''.ownsRow (wr.heap.size + 1) 9 1 (.slice xa ts.length xc) ts.length (ts.map Value.string)) ∧ Hid (Below wr.heap.size wr w'') ∧ (w''.cell? ⟨p, 3, none⟩ = some (.slice va its'.length vc) ∧ ∀ o, (w''.alloc o).cell? ⟨p, 3, none⟩ = some (.slice va its'.length vc)) := by
              refine (copy_any k t m b ia ic ts (wr.alloc (.cells #[.int .i64 k, .string t, .int .i64 m, .string b, .slice ia ts.length ic] 38)).drew (show TagsAt _ _ _ from TagsAt.alloc HT.out _) hK.lines hK.few hK.task hK.body).mono ?_
              rintro e w'' ⟨x, rfl, hox, hb''⟩
              obtain ⟨xa, xc, rfl, _⟩ := own_shape hox
              have hB : Below wr.heap.size wr w'' := (((Below.refl _ _).alloc (Nat.le_refl _) _).drew).trans (hb''.mono (by show wr.heap.size ≤ (wr.alloc _).heap.size; simp))
              have hs'' := hB.size
              have hC := four_cells ((hB.block p hpr).trans HA.out.blk)
              have hox2 : w''.ownsRow (wr.heap.size + 1) 9 1 (.slice xa ts.length xc) ts.length (ts.map Value.string) := own_mono hox (by show wr.heap.size + 1 ≤ (wr.alloc _).heap.size; simp)
              exact ⟨xa, xc, rfl, hox2, hB, hC.2.2.2.1, fun o => (four_cells ((Below.heap_alloc _ _ _ (by omega)).trans ((hB.block p hpr).trans HA.out.blk))).2.2.2.1⟩
            have e1 : its'.length + 1 ≤ maxLen := by unfold maxLen; omega
            have e2 : (its'.length + 1) * 72 ≤ 140737488355328 := by omega
            obtain ⟨b0, b1, b2, b3, b4, bz⟩ := res_cells (heap_alloc_new wr (.cells #[.int .i64 k, .string t, .int .i64 m, .string b, .slice ia ts.length ic] 38))
            have a3 : (wr.alloc (.cells #[.int .i64 k, .string t, .int .i64 m, .string b, .slice ia ts.length ic] 38)).cell? ⟨p, 3, none⟩ = some (.slice va its'.length vc) := (four_cells ((Below.heap_alloc _ _ _ hpr).trans HA.out.blk)).2.2.2.1
            have hfew : its'.length < 200 := by omega
            have HNUM := hide0 (And.intro hfew (And.intro hlt hsum))
            have HG2 := hide0 hgood
            clear hc hitem hx hgood hK hEw
            go_wp2_with fail
            clear hfew hl' hlt hwr hpr hsz3 hwp c0 c1 c2 c3 hsum hv hel hel2 hes hold hNp hp2 hzb hl hf d0 d1 d2 d3 d4
            refine wp_region_noPanic ?_
            go_region_law (first
              | (have hq9 := HOX.out
                 have hq8 := HR5.out
                 refine step_append_keptL _ rfl _ _ 33 rfl N 38 i0 (.agg #[.int .i64 0, .string ⟨#[]⟩, .int .i64 0, .string ⟨#[]⟩, .slice none 0 0]) 5 72 Tryz.underlying33 hi hz0 hz1 hz2 rfl (by decide) (.slice va its'.length vc) its'.length (fives its') rfl (hq8.alloc _) ⟨w5.heap.size, 0, none⟩ 1 1 (Item.five ⟨⟨k, t, m, b, ts⟩, xa, xc⟩) rfl rfl (five_new w5 ⟨⟨k, t, m, b, ts⟩, xa, xc⟩) (five_one _) Nat.one_pos e1 e2 (e3 _) _ rfl ?_
                 clear hq9 hq8
                 intro gg gcap wa hown9 hold9 hgr9 hat9 hlt9
                 have hpa := hpa5 _ _ hgr9
                 obtain ⟨q0, q1, q2, q3, qz⟩ := four_cells hpa
                 have HN9 := hide0 hown9
                 have HD9 := hide0 hold9
                 clear hown9 hold9)
              | (go_simp; go_at_call 35; refine hCP.mono ?_; rintro e w5 ⟨xa, xc, rfl, HOX, HB5, k3, k3'⟩; have HA5 := hide0 (HA.out.below HB5.out); have HR5 := hide0 HA5.out.evs.row; have e3 : ∀ o, N ≤ (w5.alloc o).heap.size := (fun o => by have := HA5.out.pN; have := (HA5.out.lt p (.inl rfl)).2; simp; omega); have hpa5 : ∀ (o : Obj) (wz : World), (w5.alloc o).grownBy wz (Value.ownBlock (.slice va its'.length vc)) → wz.heap[p]? = some (.cells #[.int .i32 1, .int .u32 0, nfv, .slice va its'.length vc] 87) := (fun o wz hg => (hg.block p (by have := (HA5.out.lt p (.inl rfl)).2; simp; omega) (fun e => HA5.out.pe e.symm)).trans ((Below.heap_alloc _ _ _ (HA5.out.lt p (.inl rfl)).2).trans HA5.out.blk))))
            all_goals
              have HF9 := hide0 (HA.out.added (i := ⟨⟨k, t, m, b, ts⟩, xa, xc⟩) HB5.out HOX.out hgr9 HN9.out hat9 HG2.out HNUM.out.1)
              have hlt := HNUM.out.2.1
              have hsum := HNUM.out.2.2
              have HS9 : Hid (evs (its' ++ [⟨⟨k, t, m, b, ts⟩, xa, xc⟩]) = evs its ++ (evs ls).take (n + 1)) := by
                show _ = _
                have e : evs (its' ++ [⟨⟨k, t, m, b, ts⟩, xa, xc⟩]) = evs its' ++ [⟨k, t, m, b, ts⟩] := by simp [evs]
                rw [e, HS.out, List.take_add_one, HX.out, List.append_assoc]; rfl
              have HM9 := hide0 (HM.out.trans HF9.out.2)
              have HO9 := hide0 (old_added (i := ⟨⟨k, t, m, b, ts⟩, xa, xc⟩) HA.out HB5.out HOX.out hgr9 HD9.out hat9 HF9.out.1 HF9.out.2 HO.out)
              clear hgr9 hat9 HN9 hpa q0 q1 q2 q3 qz
              refine NoPanic.normal ?_
              go_wp2
              go_roundw
              case rel => exact ⟨n + 1, its' ++ [⟨⟨k, t, m, b, ts⟩, xa, xc⟩], some ⟨gg, 0, none⟩, gcap, hlt, by go_num, hide0 HF9.out.1, HS9, HM9, HO9⟩
              case measure => simp [intOf]; omega
          · have HT : Hid ((evs ls).take n = evs ls) := by show _ = _; rw [List.take_of_length_le (by omega)]
            go_wp2
            refine leaves_cons (f := 38) (args := #[.pointer (some ⟨p, 0, none⟩)]) (by simp) (by simp [go_sem]) ?_
            refine (unlock_deferred Tryz.muLib ⟨p, 0, none⟩ .returning _ c0 (cz 0)).mono ?_
            rintro e u' w'' ⟨rfl, rfl, rfl⟩
            obtain ⟨hA9, hm9, _⟩ := HA.out.state 0
            exact ⟨_, results_tmp rfl _ _ _, by rw [HRR.out]; rfl, _, _, its', by rw [HFI.out.1]; exact hA9, by rw [HFI.out.2, HS.out, HT.out], HM.out.trans hm9, HO.out.step (ms := []) hm9 hA9 (by simp) (.inl rfl)⟩
  · have HFI : Hid (appFile v file (evs its) (evs ls) = file ∧ appEvs v (evs its) (evs ls) = evs its) := by
      refine ⟨if_neg (fun h => hr (by rw [← hes]; exact h.1)), if_neg (fun h => hr (by rw [← hes]; exact h))⟩
    have hrb : (refB v its.length (evs ls) == 0) = false := by simp [hr]
    generalize hrr : refB v its.length (evs ls) = rr at *
    have HRR := hide0 hrr
    clear hrr
    go_wp2
    refine leaves_cons (f := 38) (args := #[.pointer (some ⟨p, 0, none⟩)]) (by simp) (by simp [go_sem]) ?_
    refine (unlock_deferred Tryz.muLib ⟨p, 0, none⟩ .returning _ c0 (cz 0)).mono ?_
    rintro e u' w'' ⟨rfl, rfl, rfl⟩
    obtain ⟨hA3, hm3, _⟩ := HA2.out.state 0
    exact ⟨_, results_tmp rfl _ _ _, by rw [HRR.out]; rfl, _, _, its, by rw [HFI.out.1]; exact hA3, HFI.out.2.symm, HM2.out.trans hm3, Old.refl hA3⟩
theorem append_any (N p : Nat) (v : Int) (fv ev : Value) (file : List UInt8) (its : List Item) (a : Option Addr) (cap : Nat) (ls : List Item) (w : World) (hA : Hid (ArchO N p w fv ev file its)) (hE : Hid (EvsAt w a ls)) (hl : ls.length ≤ 100000000) (hf : file.length ≤ 100000000)
    (hap : Hid (∀ q, ReadsOf a ls q → ¬ Foot p fv ev its q)) :
    Calls Tryz.prog 26 #[.pointer (some ⟨p, 0, none⟩), .int .i64 v, .slice a ls.length cap] w fun e w' => e = .returned (.int .i64 (refB v its.length (evs ls))) ∧
      ∃ fv' ev' its', ArchO N p w' fv' ev' (appFile v file (evs its) (evs ls)) its' ∧ evs its' = appEvs v (evs its) (evs ls) ∧ Moved w w' (Foot p fv ev its) (Foot p fv' ev' its') :=
  (append_anyK N p v fv ev file its a cap ls w hA hE hl hf hap).mono (fun _ _ ⟨h1, fv', ev', its', h2, h3, h4, _⟩ => ⟨h1, fv', ev', its', h2, h3, h4⟩)
end Go.Proofs.YtdjllnhahhjgmaaGreat
namespace Go.Proofs.YtdjllnhahhjgmaaGreat
open Go.RowKit Chron
/- the reader lies in a block -/
def RdAt (R : Nat) (w : World) (r : Rdr) : Prop := w.heap[R]? = some (.cells #[.string ⟨r.rest.toArray⟩, .bool r.cut, .bool r.wrong] 99)
theorem RdAt.cells {R : Nat} {w : World} {r : Rdr} (h : RdAt R w r) : w.cell? ⟨R, 0, none⟩ = some (.string ⟨r.rest.toArray⟩) ∧ w.cell? ⟨R, 1, none⟩ = some (.bool r.cut) ∧ w.cell? ⟨R, 2, none⟩ = some (.bool r.wrong) ∧ ∀ o, w.frozen? ⟨R, o, none⟩ = false := by
  unfold RdAt at h
  simp [World.cell?, World.frozen?, h]
theorem RdAt.lt {R : Nat} {w : World} {r : Rdr} (h : RdAt R w r) : R < w.heap.size := (Array.getElem?_eq_some_iff.1 h).1
theorem RdAt.more {R : Nat} {w w' : World} {r : Rdr} (h : RdAt R w r) (hb : Below w.heap.size w w') : RdAt R w' r := (hb.block R h.lt).trans h
theorem three_set {w : World} {p : Nat} {a b c u : Value} {t : TypeId} {i : Nat} (h : w.heap[p]? = some (.cells #[a, b, c] t)) : (w.setCell ⟨p, i, none⟩ u).heap[p]? = some (.cells (#[a, b, c].setIfInBounds i u) t) := by
  have hlt := (Array.getElem?_eq_some_iff.1 h).1
  simp only [World.setCell, Array.getElem?_modify, if_true, h, Option.map_some]
  rfl
theorem RdAt.set0 {R : Nat} {w : World} {r : Rdr} (h : RdAt R w r) (l : List UInt8) : RdAt R (w.setCell ⟨R, 0, none⟩ (.string ⟨l.toArray⟩)) ⟨l, r.cut, r.wrong⟩ := three_set h
set_option maxRecDepth 100000 in
theorem aFail_any (R : Nat) (r : Rdr) (w : World) (h : Hid (RdAt R w r)) :
    Calls Tryz.prog 90 #[.pointer (some ⟨R, 0, none⟩)] w fun e w' => e = .returned (.tuple #[]) ∧ Hid (RdAt R w' r.fail) ∧ Hid (Far w w' [some R]) := by
  obtain ⟨c0, c1, c2, cz⟩ := h.out.cells
  go_enter Tryz.func90, Tryz.ntmps90
  go_wp2
  go_end0
  exact ⟨rfl, three_set (three_set h.out), ((Far.refl w _).setCell (.inl (by simp)) _).setCell (.inl (by simp)) _⟩
set_option maxRecDepth 100000 in
theorem aEnd_any (R : Nat) (r : Rdr) (w : World) (h : Hid (RdAt R w r)) :
    Calls Tryz.prog 100 #[.pointer (some ⟨R, 0, none⟩)] w fun e w' => e = .returned (.tuple #[]) ∧ Hid (RdAt R w' r.over) ∧ Hid (Far w w' [some R]) := by
  obtain ⟨c0, c1, c2, cz⟩ := h.out.cells
  go_enter Tryz.func100, Tryz.ntmps100
  go_wp2
  go_end0
  exact ⟨rfl, three_set (three_set h.out), ((Far.refl w _).setCell (.inl (by simp)) _).setCell (.inl (by simp)) _⟩
set_option maxRecDepth 100000 in
theorem aStopped_any (R : Nat) (r : Rdr) (w : World) (h : Hid (RdAt R w r)) :
    Calls Tryz.prog 53 #[.pointer (some ⟨R, 0, none⟩)] w fun e w' => e = .returned (.bool r.stop) ∧ w' = w := by
  obtain ⟨c0, c1, c2, cz⟩ := h.out.cells
  obtain ⟨rest, cut, wrong⟩ := r
  simp only at c0 c1 c2
  cases cut <;> cases wrong
  all_goals
    go_enter Tryz.func53, Tryz.ntmps53
    go_wp2
    go_ret
    exact ⟨rfl, rfl⟩
set_option maxRecDepth 100000 in
set_option maxHeartbeats 1000000 in
theorem aCut_any (R : Nat) (r : Rdr) (most : Int) (w : World) (h : Hid (RdAt R w r)) (hs : r.rest.length ≤ 281474976710656) :
    Calls Tryz.prog 89 #[.pointer (some ⟨R, 0, none⟩), .int .i64 most] w fun e w' => e = .returned (.tuple #[]) ∧ Hid (RdAt R w' (cutNumR most r)) ∧ Hid (Far w w' [some R]) := by
  obtain ⟨c0, c1, c2, cz⟩ := h.out.cells
  have hl1 : (r.rest ++ [1]).length ≤ maxLen := by rw [List.length_append, List.length_singleton]; unfold maxLen; omega
  have hRN := readNumber_any ⟨(r.rest ++ [1]).toArray⟩ w (by show (r.rest ++ [1]).length ≤ maxLen; exact hl1)
  simp only at hRN
  have e1 : (⟨r.rest.toArray⟩ ++ ⟨#[1]⟩ : ByteArray) = ⟨(r.rest ++ [1]).toArray⟩ := mk_append r.rest ⟨#[1]⟩
  have hbig : ¬ 9223372036854775807 < (⟨r.rest.toArray⟩ : ByteArray).size + (⟨#[1]⟩ : ByteArray).size := by show ¬ 9223372036854775807 < r.rest.length + 1; omega
  rcases hq : readNum (r.rest ++ [1]) with _ | ⟨n, q⟩
  · have HC : Hid (cutNumR most r = r.fail) := by show _ = _; unfold cutNumR; rw [hq]
    rw [hq] at hRN
    clear hq
    go_enter Tryz.func89, Tryz.ntmps89
    go_wp2_with fail
    refine hRN.mono ?_
    rintro e w1 ⟨rfl, nq, rfl⟩
    have H1 : Hid (RdAt R (w.drewN nq) r) := h
    simp only [rdVal]
    go_wp2_with fail
    refine (aFail_any R r _ H1).mono ?_
    rintro e w2 ⟨rfl, H2, HF2⟩
    go_wp2
    refine bodyPost_ret (results_none rfl _ _ _) rfl ?_
    exact ⟨rfl, by rw [HC.out]; exact H2, (Far.of_below (below_of_drewN nq) (Nat.le_refl _)).trans HF2.out⟩
  · rw [hq] at hRN
    by_cases hm : most < (n : Int)
    · have HC : Hid (cutNumR most r = r.fail) := by show _ = _; unfold cutNumR; rw [hq]; exact if_pos hm
      clear hq
      go_enter Tryz.func89, Tryz.ntmps89
      go_wp2_with fail
      refine hRN.mono ?_
      rintro e w1 ⟨rfl, nq, rfl⟩
      have H1 : Hid (RdAt R (w.drewN nq) r) := h
      simp only [rdVal]
      go_wp2_with fail
      refine (aFail_any R r _ H1).mono ?_
      rintro e w2 ⟨rfl, H2, HF2⟩
      go_wp2
      refine bodyPost_ret (results_none rfl _ _ _) rfl ?_
      exact ⟨rfl, by rw [HC.out]; exact H2, (Far.of_below (below_of_drewN nq) (Nat.le_refl _)).trans HF2.out⟩
    · have HC : Hid (cutNumR most r = r.over) := by show _ = _; unfold cutNumR; rw [hq]; exact if_neg hm
      clear hq
      go_enter Tryz.func89, Tryz.ntmps89
      go_wp2_with fail
      refine hRN.mono ?_
      rintro e w1 ⟨rfl, nq, rfl⟩
      have H1 : Hid (RdAt R (w.drewN nq) r) := h
      simp only [rdVal]
      go_wp2_with fail
      refine (aEnd_any R r _ H1).mono ?_
      rintro e w2 ⟨rfl, H2, HF2⟩
      go_wp2
      go_end0
      exact ⟨rfl, by rw [HC.out]; exact H2, (Far.of_below (below_of_drewN nq) (Nat.le_refl _)).trans HF2.out⟩
set_option maxRecDepth 100000 in
set_option maxHeartbeats 1000000 in
theorem aNumber_any (R : Nat) (r : Rdr) (least most : Int) (w : World) (h : Hid (RdAt R w r)) (hs : r.rest.length ≤ 281474976710656) :
    Calls Tryz.prog 72 #[.pointer (some ⟨R, 0, none⟩), .int .i64 least, .int .i64 most] w fun e w' => e = .returned (.int .i64 (numR least most r).1) ∧ Hid (RdAt R w' (numR least most r).2) ∧ Hid (Far w w' [some R]) := by
  obtain ⟨c0, c1, c2, cz⟩ := h.out.cells
  by_cases hst : r.stop = true
  · have HC : Hid (numR least most r = (0, r)) := if_pos hst
    go_enter Tryz.func72, Tryz.ntmps72
    go_wp2_with (go_at_call 53; refine (aStopped_any R r _ h).mono ?_; rintro e w' ⟨rfl, rfl⟩)
    go_ret
    exact ⟨by rw [HC.out]; rfl, by rw [HC.out]; exact h, Far.refl _ _⟩
  · have hst' : r.stop = false := by simpa using hst
    have hRN := readNumber_any ⟨r.rest.toArray⟩ w (by show r.rest.length ≤ _; unfold maxLen; omega)
    simp only at hRN
    rcases hq : readNum r.rest with _ | ⟨n, q⟩
    · have HC : Hid (numR least most r = (0, cutNumR most r)) := by show _ = _; unfold numR; rw [if_neg hst, hq]
      rw [hq] at hRN
      clear hq hst
      go_enter Tryz.func72, Tryz.ntmps72
      go_wp2_with (first
        | (go_at_call 53; refine (aStopped_any R r _ h).mono ?_; rintro e w' ⟨rfl, hw'⟩; have hw2 := hw'.symm; subst hw2)
        | (go_at_call 88; refine hRN.mono ?_; rintro e w1 ⟨rfl, nq, rfl⟩; simp only [rdVal]))
      have H1 : Hid (RdAt R (w.drewN nq) r) := h
      refine (aCut_any R r most _ H1 hs).mono ?_
      rintro e w2 ⟨rfl, H2, HF2⟩
      go_wp2
      go_ret
      exact ⟨by rw [HC.out]; rfl, by rw [HC.out]; exact H2, (Far.of_below (below_of_drewN nq) (Nat.le_refl _)).trans HF2.out⟩
    · rw [hq] at hRN
      by_cases hlm : (n : Int) < least ∨ most < (n : Int)
      · have HC : Hid (numR least most r = (0, r.fail)) := by show _ = _; unfold numR; rw [if_neg hst, hq]; exact if_pos hlm
        clear hq hst
        rcases hlm with hlm | hlm
        · go_enter Tryz.func72, Tryz.ntmps72
          go_wp2_with (first
            | (go_at_call 53; refine (aStopped_any R r _ h).mono ?_; rintro e w' ⟨rfl, hw'⟩; have hw2 := hw'.symm; subst hw2)
            | (go_at_call 88; refine hRN.mono ?_; rintro e w1 ⟨rfl, nq, rfl⟩; simp only [rdVal]))
          have H1 : Hid (RdAt R (w.drewN nq) r) := h
          refine (aFail_any R r _ H1).mono ?_
          rintro e w2 ⟨rfl, H2, HF2⟩
          go_wp2
          go_ret
          exact ⟨by rw [HC.out]; rfl, by rw [HC.out]; exact H2, (Far.of_below (below_of_drewN nq) (Nat.le_refl _)).trans HF2.out⟩
        · by_cases hl2 : (n : Int) < least
          · go_enter Tryz.func72, Tryz.ntmps72
            go_wp2_with (first
              | (go_at_call 53; refine (aStopped_any R r _ h).mono ?_; rintro e w' ⟨rfl, hw'⟩; have hw2 := hw'.symm; subst hw2)
              | (go_at_call 88; refine hRN.mono ?_; rintro e w1 ⟨rfl, nq, rfl⟩; simp only [rdVal]))
            have H1 : Hid (RdAt R (w.drewN nq) r) := h
            refine (aFail_any R r _ H1).mono ?_
            rintro e w2 ⟨rfl, H2, HF2⟩
            go_wp2
            go_ret
            exact ⟨by rw [HC.out]; rfl, by rw [HC.out]; exact H2, (Far.of_below (below_of_drewN nq) (Nat.le_refl _)).trans HF2.out⟩
          · go_enter Tryz.func72, Tryz.ntmps72
            go_wp2_with (first
              | (go_at_call 53; refine (aStopped_any R r _ h).mono ?_; rintro e w' ⟨rfl, hw'⟩; have hw2 := hw'.symm; subst hw2)
              | (go_at_call 88; refine hRN.mono ?_; rintro e w1 ⟨rfl, nq, rfl⟩; simp only [rdVal]))
            have H1 : Hid (RdAt R (w.drewN nq) r) := h
            refine (aFail_any R r _ H1).mono ?_
            rintro e w2 ⟨rfl, H2, HF2⟩
            go_wp2
            go_ret
            exact ⟨by rw [HC.out]; rfl, by rw [HC.out]; exact H2, (Far.of_below (below_of_drewN nq) (Nat.le_refl _)).trans HF2.out⟩
      · have HC : Hid (numR least most r = (n, ⟨q, r.cut, r.wrong⟩)) := by show _ = _; unfold numR; rw [if_neg hst, hq]; exact if_neg hlm
        have hl1 : ¬ (n : Int) < least := fun h => hlm (.inl h)
        have hl2 : ¬ most < (n : Int) := fun h => hlm (.inr h)
        clear hq hst hlm
        go_enter Tryz.func72, Tryz.ntmps72
        go_wp2_with (first
          | (go_at_call 53; refine (aStopped_any R r _ h).mono ?_; rintro e w' ⟨rfl, hw'⟩; have hw2 := hw'.symm; subst hw2)
          | (go_at_call 88; refine hRN.mono ?_; rintro e w1 ⟨rfl, nq, rfl⟩; simp only [rdVal]))
        go_ret
        exact ⟨by rw [HC.out]; rfl, by rw [HC.out]; exact RdAt.set0 (w := w.drewN nq) h.out q, (Far.of_below (below_of_drewN nq) (Nat.le_refl _)).setCell (.inl (by simp)) _⟩
set_option maxRecDepth 100000 in
set_option maxHeartbeats 1000000 in
theorem aText_any (R : Nat) (r : Rdr) (most : Int) (w : World) (h : Hid (RdAt R w r)) (hs : r.rest.length ≤ 281474976710656) :
    Calls Tryz.prog 91 #[.pointer (some ⟨R, 0, none⟩), .int .i64 most] w fun e w' => e = .returned (.string ⟨(textR most r).1.toArray⟩) ∧ Hid (RdAt R w' (textR most r).2) ∧ Hid (Far w w' [some R]) := by
  have hN := aNumber_any R r 0 most w h hs
  have hlen : (numR 0 most r).2.rest.length ≤ r.rest.length := by
    unfold numR
    split
    · exact Nat.le_refl _
    · split
      · unfold cutNumR
        split
        · simp [Rdr.fail]
        · split <;> simp [Rdr.fail, Rdr.over]
      · rename_i n rest hq
        split
        · simp [Rdr.fail]
        · exact readNum_len hq
  have HT : Hid (textR most r = if (numR 0 most r).2.rest.length < (numR 0 most r).1 then ([], (numR 0 most r).2.over) else ((numR 0 most r).2.rest.take (numR 0 most r).1, ⟨(numR 0 most r).2.rest.drop (numR 0 most r).1, (numR 0 most r).2.cut, (numR 0 most r).2.wrong⟩)) := rfl
  generalize numR 0 most r = nr at *
  obtain ⟨n, r1⟩ := nr
  simp only at hN hlen HT
  by_cases hn : r1.rest.length < n
  · have HC : Hid (textR most r = ([], r1.over)) := HT.out.trans (if_pos hn)
    have hni : (r1.rest.length : Int) < (n : Int) := by omega
    go_enter Tryz.func91, Tryz.ntmps91
    go_wp2_with fail
    refine hN.mono ?_
    rintro e w1 ⟨rfl, H1, HF1⟩
    obtain ⟨c0, c1, c2, cz⟩ := H1.out.cells
    go_wp2_with fail
    refine (aEnd_any R r1 _ H1).mono ?_
    rintro e w2 ⟨rfl, H2, HF2⟩
    go_wp2
    go_ret
    exact ⟨by rw [HC.out]; rfl, by rw [HC.out]; exact H2, HF1.out.trans HF2.out⟩
  · have HC : Hid (textR most r = (r1.rest.take n, ⟨r1.rest.drop n, r1.cut, r1.wrong⟩)) := HT.out.trans (if_neg hn)
    have hni : ¬ (r1.rest.length : Int) < (n : Int) := by omega
    have hex := extract_mk_take r1.rest n
    have hex2 := extract_mk_drop r1.rest n
    have hsz : (⟨r1.rest.toArray⟩ : ByteArray).size = r1.rest.length := rfl
    rw [hsz] at hex2
    go_enter Tryz.func91, Tryz.ntmps91
    go_wp2_with fail
    refine hN.mono ?_
    rintro e w1 ⟨rfl, H1, HF1⟩
    obtain ⟨c0, c1, c2, cz⟩ := H1.out.cells
    go_wp2
    go_ret
    exact ⟨by rw [HC.out]; rfl, by rw [HC.out]; exact H1.out.set0 _, HF1.out.setCell (.inl (by simp)) _⟩
end Go.Proofs.YtdjllnhahhjgmaaGreat
