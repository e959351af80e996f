/- Walks and plain facts, in the order in which they lean on one another. -/
import Derived.Test.YtdjllnhahhjgmaaGreatDoorW16
import Derived.Deep.RegionHeld3
import Derived.Deep.RegionLaw
import Derived.Deep.CutRange
namespace Go.Proofs.YtdjllnhahhjgmaaGreatDoor
open Go.RowKit Go.MuLone Chron
structure ArchS (s : Int) (N p : Nat) (w : World) (fv ev : Value) (file : List UInt8) (its : List Item) : Prop where
  blk : w.heap[p]? = some (.cells #[.int .i32 s, .int .u32 0, fv, ev] 78)
  fil : OwnB w N 5 fv file.length (Lib.byteCells file)
  evs : MadeO N w ev its
  pN : N ≤ p
  pf : fv.ownBlock ≠ some p
  pe : ev.ownBlock ≠ some p
  pt : p ∉ tagBs its
  fe : ∀ q, fv.ownBlock = some q → ev.ownBlock ≠ some q ∧ q ∉ tagBs its
  good : ∀ it ∈ its, isB it.ev = true
  few : its.length ≤ 200
abbrev ArchO (N p : Nat) (w : World) (fv ev : Value) (file : List UInt8) (its : List Item) : Prop := ArchS 0 N p w fv ev file its
/- the blocks that are an archive's -/
def Foot (p : Nat) (fv ev : Value) (its : List Item) (q : Nat) : Prop := q = p ∨ fv.ownBlock = some q ∨ ev.ownBlock = some q ∨ q ∈ tagBs its
/- nothing but some blocks, and new ones, was changed; what is behind lies in them -/
structure Moved (w w' : World) (F F' : Nat → Prop) : Prop where
  os : w'.os = w.os
  tape : w'.tape = w.tape
  output : w'.output = w.output
  size : w.heap.size ≤ w'.heap.size
  block : ∀ q, q < w.heap.size → ¬ F q → w'.heap[q]? = w.heap[q]?
  sub : ∀ q, F' q → F q ∨ w.heap.size ≤ q
theorem Moved.refl (w : World) (F : Nat → Prop) : Moved w w F F := ⟨rfl, rfl, rfl, Nat.le_refl _, fun _ _ _ => rfl, fun _ h => .inl h⟩
theorem Moved.of_below {w w' : World} {F : Nat → Prop} (h : Below w.heap.size w w') : Moved w w' F F := ⟨h.os, h.tape, h.output, h.size, fun q hq _ => h.block q hq, fun _ h => .inl h⟩
theorem Moved.trans {a b c : World} {F G H : Nat → Prop} (h : Moved a b F G) (k : Moved b c G H) : Moved a c F H := by
  refine ⟨k.os.trans h.os, k.tape.trans h.tape, k.output.trans h.output, Nat.le_trans h.size k.size, fun q hq hn => ?_, fun q hq => ?_⟩
  · have hs := h.size
    rw [k.block q (by omega) (fun hg => ?_), h.block q hq hn]
    rcases h.sub q hg with h1 | h1
    · exact hn h1
    · omega
  · rcases k.sub q hq with h1 | h1
    · exact h.sub q h1
    · have := h.size; exact .inr (by omega)
theorem ArchS.lt {s : Int} {N p : Nat} {w : World} {fv ev : Value} {file : List UInt8} {its : List Item} (h : ArchS s N p w fv ev file its) : ∀ q, Foot p fv ev its q → N ≤ q ∧ q < w.heap.size := by
  rintro q (rfl | hq | hq | hq)
  · exact ⟨h.pN, (Array.getElem?_eq_some_iff.1 h.blk).1⟩
  · exact h.fil.lt q hq
  · exact h.evs.row.lt q hq
  · exact h.evs.tag_lt hq
theorem ArchS.keep {s : Int} {N p : Nat} {w w' : World} {fv ev : Value} {file : List UInt8} {its : List Item} (h : ArchS s N p w fv ev file its) (hb : ∀ q, Foot p fv ev its q → w'.heap[q]? = w.heap[q]?) : ArchS s N p w' fv ev file its := by
  refine ⟨(hb p (.inl rfl)).trans h.blk, h.fil.block (fun q hq => hb q (.inr (.inl hq))), ?_, h.pN, h.pf, h.pe, h.pt, h.fe, h.good, h.few⟩
  exact ⟨own_of_block h.evs.row (fun q hq => hb q (.inr (.inr (.inl hq)))), fun it hi => own_of_block (h.evs.tags it hi) (fun q hq => hb q (.inr (.inr (.inr (tagBs_mem.2 ⟨it, hi, hq⟩))))), h.evs.apart, h.evs.dist⟩
theorem ArchS.below {s : Int} {N p : Nat} {w w' : World} {fv ev : Value} {file : List UInt8} {its : List Item} (h : ArchS s N p w fv ev file its) (hb : Below w.heap.size w w') : ArchS s N p w' fv ev file its :=
  h.keep fun q hq => hb.block q (h.lt q hq).2
theorem ArchS.mono {s : Int} {N M p : Nat} {w : World} {fv ev : Value} {file : List UInt8} {its : List Item} (h : ArchS s N p w fv ev file its) (hM : M ≤ N) : ArchS s M p w fv ev file its :=
  ⟨h.blk, h.fil.mono hM, ⟨own_mono h.evs.row hM, fun it hi => own_mono (h.evs.tags it hi) hM, h.evs.apart, h.evs.dist⟩, Nat.le_trans hM h.pN, h.pf, h.pe, h.pt, h.fe, h.good, h.few⟩
theorem few_ok {its : List Item} (h : ∀ it ∈ its, isB it.ev = true) : ∀ it ∈ its, Few 1048576 it.ev := by
  intro it hi
  have k := is_known (h it hi)
  exact ⟨by have := k.few; omega, fun t ht => by have := k.lines t ht; omega, by have := k.task; omega, by have := k.body; omega⟩
theorem MadeO.at {N : Nat} {w : World} {ev : Value} {its : List Item} (h : MadeO N w ev its) (hg : ∀ it ∈ its, isB it.ev = true) : ∃ a cap, ev = .slice a its.length cap ∧ EvsAt w a its ∧ its.length ≤ cap ∧ ∀ b off, a = some ⟨b, off, none⟩ → off = 0 := by
  obtain ⟨a, cap, hv, he⟩ := h.made.evs (few_ok hg)
  subst hv
  have hr := h.row
  refine ⟨a, cap, rfl, he, ?_, ?_⟩
  · rcases hr.2 with ⟨h1, h2⟩ | ⟨g, cap', cur, h1, _, _, h4, _⟩
    · omega
    · simp only [Value.slice.injEq] at h1
      omega
  · intro b off hab
    rcases hr.2 with ⟨h1, _⟩ | ⟨g, cap', cur, h1, _⟩
    · rw [hab] at h1; simp at h1
    · rw [hab] at h1; simp at h1; exact h1.1.2
theorem four_set {w : World} {p : Nat} {a b c d u : Value} {t : TypeId} {i : Nat} (h : w.heap[p]? = some (.cells #[a, b, c, d] t)) : (w.setCell ⟨p, i, none⟩ u).heap[p]? = some (.cells (#[a, b, c, d].setIfInBounds i u) t) := by
  have hlt := (Array.getElem?_eq_some_iff.1 h).1
  simp only [World.setCell, Array.getElem?_modify, if_true, h, Option.map_some]
  rfl
theorem ArchS.state {s : Int} {N p : Nat} {w : World} {fv ev : Value} {file : List UInt8} {its : List Item} (h : ArchS s N p w fv ev file its) (s' : Int) :
    ArchS s' N p (w.setCell ⟨p, 0, none⟩ (.int .i32 s')) fv ev file its ∧ Moved w (w.setCell ⟨p, 0, none⟩ (.int .i32 s')) (Foot p fv ev its) (Foot p fv ev its) ∧ (w.setCell ⟨p, 0, none⟩ (.int .i32 s')).heap.size = w.heap.size := by
  have key : ∀ q, q ≠ p → (w.setCell ⟨p, 0, none⟩ (.int .i32 s')).heap[q]? = w.heap[q]? := fun q hq => Below.heap_setCell _ _ _ _ hq
  refine ⟨⟨four_set h.blk, h.fil.block (fun q hq => key q (fun e => h.pf (by rw [hq, e]))), ⟨own_of_block h.evs.row (fun q hq => key q (fun e => h.pe (by rw [hq, e]))), fun it hi => own_of_block (h.evs.tags it hi) (fun q hq => key q (fun e => h.pt (by rw [← e]; exact tagBs_mem.2 ⟨it, hi, hq⟩))), h.evs.apart, h.evs.dist⟩, h.pN, h.pf, h.pe, h.pt, h.fe, h.good, h.few⟩, ⟨rfl, rfl, rfl, by simp [World.setCell], fun q _ hq => key q (fun e => hq (.inl e)), fun q hq => .inl hq⟩, by simp [World.setCell]⟩
/- what is read of a list of events -/
def ReadsOf (a : Option Addr) (ls : List Item) (q : Nat) : Prop := (∃ off, a = some ⟨q, off, none⟩) ∨ ∃ it ∈ ls, ∃ off, it.at' = some ⟨q, off, none⟩
theorem EvsAt.same {w w' : World} {a : Option Addr} {ls : List Item} (h : EvsAt w a ls) (hb : ∀ q, ReadsOf a ls q → q < w.heap.size → w'.heap[q]? = w.heap[q]?) : EvsAt w' a ls := by
  intro h0
  obtain ⟨b, off, rfl, hc⟩ := h h0
  refine ⟨b, off, rfl, fun k i hi => ?_⟩
  obtain ⟨c, ok⟩ := hc k i hi
  have hB := hb b (.inl ⟨off, rfl⟩) (World.block_lt_of_cell? w _ c.c0)
  refine ⟨⟨(World.cell?_of_block hB).trans c.c0, (World.cell?_of_block hB).trans c.c1, (World.cell?_of_block hB).trans c.c2, (World.cell?_of_block hB).trans c.c3, (World.cell?_of_block hB).trans c.c4⟩, ⟨fun ht => ?_, ok.short, ok.few, ok.task, ok.body⟩⟩
  obtain ⟨q, o, hq, hx⟩ := ok.tags ht
  refine ⟨q, o, hq, fun j hj => ?_⟩
  exact (World.cell?_of_block (hb q (.inr ⟨i, List.mem_of_getElem? hi, o, hq⟩) (World.block_lt_of_cell? w _ (hx j hj)))).trans (hx j hj)
theorem EvsAt.moved {w w' : World} {a : Option Addr} {ls : List Item} {F F' : Nat → Prop} (h : EvsAt w a ls) (hm : Moved w w' F F') (hd : ∀ q, ReadsOf a ls q → ¬ F q) : EvsAt w' a ls := h.same fun q hq hlt => hm.block q hlt (hd q hq)
set_option maxRecDepth 100000 in
set_option maxHeartbeats 1000000 in
theorem migrate_any (N p : Nat) (fv ev : Value) (file : List UInt8) (its : List Item) (w : World) (hA : Hid (ArchO N p w fv ev file its)) :
    Calls Tryz.prog 18 #[.pointer (some ⟨p, 0, none⟩)] w fun e w' => e = .returned (.tuple #[]) ∧ ∃ fv', ArchO N p w' fv' ev (fileB noB (anewC (evs its))) its ∧ Moved w w' (· = p) (fun q => q = p ∨ fv'.ownBlock = some q) := by
  obtain ⟨ea, ec, rfl, hE, hcap, h0⟩ := hA.out.evs.at hA.out.good
  obtain ⟨c0, c1, c2, c3, cz⟩ := four_cells hA.out.blk
  have hb1 : (w.setCell ⟨p, 0, none⟩ (.int .i32 1)).heap[p]? = some (.cells #[.int .i32 1, .int .u32 0, fv, .slice ea its.length ec] 78) := four_set hA.out.blk
  have hM1 : Moved w (w.setCell ⟨p, 0, none⟩ (.int .i32 1)) (· = p) (· = p) := ⟨rfl, rfl, rfl, by simp [World.setCell], fun q _ hq => Below.heap_setCell _ _ _ _ hq, fun q hq => .inl hq⟩
  have hE1 : MadeO N (w.setCell ⟨p, 0, none⟩ (.int .i32 1)) (.slice ea its.length ec) its := by
    have h := hA.out
    have key : ∀ q, q ≠ p → (w.setCell ⟨p, 0, none⟩ (.int .i32 1)).heap[q]? = w.heap[q]? := fun q hq => Below.heap_setCell _ _ _ _ hq
    exact ⟨own_of_block h.evs.row (fun q hq => key q (fun e => h.pe (by rw [hq, e]))), fun it hi => own_of_block (h.evs.tags it hi) (fun q hq => key q (fun e => h.pt (by rw [← e]; exact tagBs_mem.2 ⟨it, hi, hq⟩))), h.evs.apart, h.evs.dist⟩
  obtain ⟨c0', c1', c2', c3', cz'⟩ := four_cells hb1
  have hw1s : (w.setCell ⟨p, 0, none⟩ (.int .i32 1)).heap.size = w.heap.size := by simp [World.setCell]
  go_enter_defers Tryz.func18, Tryz.ntmps18
  go_wp2_with (go_at_call 36; refine (lock_free Tryz.muLib ⟨p, 0, none⟩ _ c0 (cz 0)).mono ?_; rintro e w' ⟨rfl, rfl⟩)
  clear c0 c1 c2 c3 cz
  generalize w.setCell ⟨p, 0, none⟩ (.int .i32 1) = w1 at *
  obtain ⟨ea', ec', hv', hE2, _, _⟩ := hE1.at hA.out.good
  cases hv'
  have hok : ∀ e ∈ Go.Proofs.YtdjllnhahhjgmaaGreatDoor.evs its, isB e = true := fun e he => by
    obtain ⟨it, hi, rfl⟩ := List.mem_map.1 he
    exact hA.out.good it hi
  have HA := hide0 hA.out
  refine (writeAnew_any ea ec its w1 hE2 hok hA.out.few hcap).mono ?_
  rintro e w2 ⟨nv, rfl, HF, hb2⟩
  obtain ⟨na, nc, rfl, _⟩ := HF.out.shape
  have hp1 := (Array.getElem?_eq_some_iff.1 hb1).1
  have hbk2 := (hb2.block p hp1).trans hb1
  obtain ⟨d0, d1, d2, d3, dz⟩ := four_cells hbk2
  have hnp : ∀ q, Value.ownBlock (.slice na (fileB noB (anewC (Go.Proofs.YtdjllnhahhjgmaaGreatDoor.evs its))).length nc) = some q → q ≠ p := fun q hq => by have := (HF.out.lt _ hq).1; omega
  generalize hnf : fileB noB (anewC (Go.Proofs.YtdjllnhahhjgmaaGreatDoor.evs its)) = nf at *
  have HNF := hide0 hnf
  clear hnf
  have hb3 : (w2.setCell ⟨p, 2, none⟩ (.slice na nf.length nc)).heap[p]? = some (.cells #[.int .i32 1, .int .u32 0, .slice na nf.length nc, .slice ea its.length ec] 78) := four_set hbk2
  obtain ⟨f0, f1, f2, f3, fz⟩ := four_cells hb3
  have hb4 : ((w2.setCell ⟨p, 2, none⟩ (.slice na nf.length nc)).setCell ⟨p, 0, none⟩ (.int .i32 0)).heap[p]? = some (.cells #[.int .i32 0, .int .u32 0, .slice na nf.length nc, .slice ea its.length ec] 78) := four_set hb3
  have key : ∀ q, q ≠ p → ((w2.setCell ⟨p, 2, none⟩ (.slice na nf.length nc)).setCell ⟨p, 0, none⟩ (.int .i32 0)).heap[q]? = w2.heap[q]? := fun q hq => (Below.heap_setCell _ _ _ _ hq).trans (Below.heap_setCell _ _ _ _ hq)
  have HFIN : Hid (ArchO N p ((w2.setCell ⟨p, 2, none⟩ (.slice na nf.length nc)).setCell ⟨p, 0, none⟩ (.int .i32 0)) (.slice na nf.length nc) (.slice ea its.length ec) nf its ∧ Moved w ((w2.setCell ⟨p, 2, none⟩ (.slice na nf.length nc)).setCell ⟨p, 0, none⟩ (.int .i32 0)) (· = p) (fun q => q = p ∨ Value.ownBlock (.slice na nf.length nc) = some q)) := by
    have h := HA.out
    refine ⟨⟨hb4, ?_, ?_, h.pN, fun e => hnp p e rfl, h.pe, h.pt, fun q hq => ?_, h.good, h.few⟩, ?_⟩
    · exact (HF.out.block (fun q hq => key q (hnp q hq))).mono (by have := (h.lt p (.inl rfl)); omega)
    · have k2 : ∀ q, q < w1.heap.size → q ≠ p → ((w2.setCell ⟨p, 2, none⟩ (.slice na nf.length nc)).setCell ⟨p, 0, none⟩ (.int .i32 0)).heap[q]? = w1.heap[q]? := fun q hq hne => (key q hne).trans (hb2.block q hq)
      exact ⟨own_of_block hE1.row (fun q hq => k2 q (hE1.row.lt q hq).2 (fun e => h.pe (by rw [hq, e]))), fun it hi => own_of_block (hE1.tags it hi) (fun q hq => k2 q ((hE1.tags it hi).lt q hq).2 (fun e => h.pt (by rw [← e]; exact tagBs_mem.2 ⟨it, hi, hq⟩))), hE1.apart, hE1.dist⟩
    · have hq1 := (HF.out.lt q hq).1
      refine ⟨fun e => ?_, fun e => ?_⟩
      · have := (h.lt q (.inr (.inr (.inl e)))).2; omega
      · have := (h.lt q (.inr (.inr (.inr e)))).2; omega
    · refine ⟨hb2.os.trans hM1.os, hb2.tape.trans hM1.tape, hb2.output.trans hM1.output, ?_, fun q hq hne => ?_, fun q hq => ?_⟩
      · have h1 := hb2.size
        have h2 : ((w2.setCell ⟨p, 2, none⟩ (.slice na nf.length nc)).setCell ⟨p, 0, none⟩ (.int .i32 0)).heap.size = w2.heap.size := by simp [World.setCell]
        omega
      · rw [key q hne, hb2.block q (by omega), hM1.block q hq hne]
      · rcases hq with hq | hq
        · exact .inl hq
        · have := (HF.out.lt q hq).1; exact .inr (by omega)
  clear hE2 hok hb2 HA hA hb1 hM1 hE1 key hb4 c0' c1' c2' c3' cz' hE
  go_wp2
  refine leaves_cons (f := 37) (args := #[.pointer (some ⟨p, 0, none⟩)]) (by simp) (by simp [go_sem]) ?_
  refine (unlock_deferred Tryz.muLib ⟨p, 0, none⟩ .returning _ f0 (fz 0)).mono ?_
  rintro e u' w'' ⟨rfl, rfl, rfl⟩
  exact ⟨_, results_none rfl _ _ _, rfl, _, by rw [HNF.out]; exact HFIN.out.1, HFIN.out.2⟩
end Go.Proofs.YtdjllnhahhjgmaaGreatDoor
namespace Go.Proofs.YtdjllnhahhjgmaaGreatDoor
open Go.RowKit Go.MuLone Chron
/- what is put behind the others, if anything is -/
def appFile (v : Int) (file : List UInt8) (l more : List Ev) : List UInt8 := if refB v l.length more = 0 ∧ more ≠ [] then file ++ entryB v (lastB noB l) more else file
def appEvs (v : Int) (l more : List Ev) : List Ev := if refB v l.length more = 0 then l ++ more else l
/- the file put anew behind an append, and its text -/
theorem ArchS.putFile {s : Int} {N p : Nat} {w wa : World} {fv ev : Value} {file nf : List UInt8} {its : List Item} {fa : Option Addr} {fc : Nat} (h : ArchS s N p w fv ev file its) (hg : w.grownBy wa fv.ownBlock) (ho : OwnB wa N 5 (.slice fa nf.length fc) nf.length (Lib.byteCells nf)) (hat : Value.ownBlock (.slice fa nf.length fc) = fv.ownBlock ∨ Value.ownBlock (.slice fa nf.length fc) = some w.heap.size) :
    ArchS s N p (wa.setCell ⟨p, 2, none⟩ (.slice fa nf.length fc)) (.slice fa nf.length fc) ev nf its ∧ Moved w (wa.setCell ⟨p, 2, none⟩ (.slice fa nf.length fc)) (Foot p fv ev its) (Foot p (.slice fa nf.length fc) ev its) := by
  have hlt := h.lt
  have hnew : ∀ q, Value.ownBlock (.slice fa nf.length fc) = some q → fv.ownBlock = some q ∨ q = w.heap.size := fun q hq => by
    rcases hat with e | e
    · exact .inl (by rw [← e]; exact hq)
    · rw [e] at hq; simp only [Option.some.injEq] at hq; exact .inr hq.symm
  have hpb : wa.heap[p]? = some (.cells #[.int .i32 s, .int .u32 0, fv, ev] 78) := (hg.block p (hlt p (.inl rfl)).2 (fun e => h.pf e.symm)).trans h.blk
  have key : ∀ q, q < w.heap.size → q ≠ p → fv.ownBlock ≠ some q → (wa.setCell ⟨p, 2, none⟩ (.slice fa nf.length fc)).heap[q]? = w.heap[q]? := fun q hq h1 h2 => (Below.heap_setCell _ _ _ _ h1).trans (hg.block q hq (fun e => h2 e.symm))
  have hnp : Value.ownBlock (.slice fa nf.length fc) ≠ some p := fun e => by
    rcases hnew p e with h1 | h1
    · exact h.pf h1
    · have := (hlt p (.inl rfl)).2; omega
  refine ⟨⟨four_set hpb, ho.block (fun q hq => Below.heap_setCell _ _ _ _ (fun e => hnp (by rw [hq, e]))), ⟨own_of_block h.evs.row (fun q hq => key q (h.evs.row.lt q hq).2 (fun e => h.pe (by rw [hq, e])) (fun e => (h.fe q e).1 hq)), fun it hi => own_of_block (h.evs.tags it hi) (fun q hq => key q ((h.evs.tags it hi).lt q hq).2 (fun e => h.pt (by rw [← e]; exact tagBs_mem.2 ⟨it, hi, hq⟩)) (fun e => (h.fe q e).2 (tagBs_mem.2 ⟨it, hi, hq⟩))), h.evs.apart, h.evs.dist⟩, h.pN, hnp, h.pe, h.pt, fun q hq => ?_, h.good, h.few⟩, ⟨hg.os, hg.tape, hg.output, by simpa [World.setCell] using hg.size, fun q hq hn => key q hq (fun e => hn (.inl e)) (fun e => hn (.inr (.inl e))), ?_⟩⟩
  · rcases hnew q hq with h1 | h1
    · exact h.fe q h1
    · refine ⟨fun e => ?_, fun e => ?_⟩
      · have := (hlt q (.inr (.inr (.inl e)))).2; omega
      · have := (hlt q (.inr (.inr (.inr e)))).2; omega
  · rintro q (h1 | h1 | h1 | h1)
    · exact .inl (.inl h1)
    · rcases hnew q h1 with h2 | h2
      · exact .inl (.inr (.inl h2))
      · exact .inr (by omega)
    · exact .inl (.inr (.inr (.inl h1)))
    · exact .inl (.inr (.inr (.inr h1)))
theorem ArchS.filed {s : Int} {N p : Nat} {w w7 w8 : World} {fv ev : Value} {file entry : List UInt8} {its : List Item} {fa : Option Addr} {fc : Nat} (h : ArchS s N p w fv ev file its) (hb : Below w.heap.size w w7) (hg : w7.grownBy w8 fv.ownBlock)
    (ho : OwnB w8 N 5 (.slice fa (file.length + entry.length) fc) (file.length + entry.length) (Lib.byteCells file ++ Lib.strCells ⟨entry.toArray⟩)) (hat : Value.ownBlock (.slice fa (file.length + entry.length) fc) = fv.ownBlock ∨ Value.ownBlock (.slice fa (file.length + entry.length) fc) = some w7.heap.size) :
    ∃ fa' fc', ArchS s N p (w8.setCell ⟨p, 2, none⟩ (.slice fa (file.length + entry.length) fc)) (.slice fa' (file ++ entry).length fc') ev (file ++ entry) its ∧ Moved w (w8.setCell ⟨p, 2, none⟩ (.slice fa (file.length + entry.length) fc)) (Foot p fv ev its) (Foot p (.slice fa' (file ++ entry).length fc') ev its) := by
  rw [strCells_bytes, ← List.length_append] at ho
  rw [← List.length_append] at hat ⊢
  obtain ⟨h1, h2⟩ := (h.below hb).putFile hg ho hat
  exact ⟨fa, fc, h1, (Moved.of_below hb).trans h2⟩
/- one more event put behind the others -/
theorem ArchS.putEvent {s : Int} {N p M : Nat} {w wa : World} {fv ev : Value} {file : List UInt8} {its : List Item} {o : Obj} {g cap : Nat} {i : Item} (h : ArchS s N p w fv ev file its) (hi : w.ownsRow M 9 1 i.tv i.ev.tags.length (i.ev.tags.map Value.string)) (hM : ∀ q, Foot p fv ev its q → q < M) (hN : N ≤ M)
    (hg : (w.alloc o).grownBy wa ev.ownBlock) (hown : wa.ownsRow N 29 5 (.slice (some ⟨g, 0, none⟩) (its.length + 1) cap) (its.length + 1) (fives its ++ i.five)) (hat : ev.ownBlock = some g ∨ g = (w.alloc o).heap.size) (hgd : isB i.ev = true) (hfew : its.length < 200) :
    ArchS s N p (wa.setCell ⟨p, 3, none⟩ (.slice (some ⟨g, 0, none⟩) (its.length + 1) cap)) fv (.slice (some ⟨g, 0, none⟩) (its.length + 1) cap) file (its ++ [i]) ∧ (∀ q, q < w.heap.size → ¬ Foot p fv ev its q → (wa.setCell ⟨p, 3, none⟩ (.slice (some ⟨g, 0, none⟩) (its.length + 1) cap)).heap[q]? = w.heap[q]?) ∧
      (∀ q, Foot p fv (.slice (some ⟨g, 0, none⟩) (its.length + 1) cap) (its ++ [i]) q → Foot p fv ev its q ∨ M ≤ q ∨ w.heap.size ≤ q) := by
  have hlt := h.lt
  have hP := h.evs.push hi hN (fun q hq => hM q (.inr (.inr (.inl hq)))) (fun q hq => hM q (.inr (.inr (.inr hq)))) hg hown hat
  have hs := hg.size
  rw [World.size_alloc] at hs hat
  have hgk : ∀ q, q < w.heap.size → ev.ownBlock ≠ some q → wa.heap[q]? = w.heap[q]? := fun q hq hne => (hg.block q (by rw [World.size_alloc]; omega) (fun e => hne e.symm)).trans (Below.heap_alloc _ _ _ hq)
  have hpb : wa.heap[p]? = some (.cells #[.int .i32 s, .int .u32 0, fv, ev] 78) := (hgk p (hlt p (.inl rfl)).2 h.pe).trans h.blk
  have hgp : g ≠ p := fun e => by
    subst e
    rcases hat with e | e
    · exact h.pe e
    · have := (hlt g (.inl rfl)).2; omega
  have hone : ∀ q, q ∈ tagBs (its ++ [i]) ↔ q ∈ tagBs its ∨ i.tv.ownBlock = some q := fun q => by
    rw [tagBs_mem, tagBs_mem]
    constructor
    · rintro ⟨it, hit, hq⟩
      rcases List.mem_append.1 hit with h1 | h1
      · exact .inl ⟨it, h1, hq⟩
      · simp at h1; subst h1; exact .inr hq
    · rintro (⟨it, hit, hq⟩ | hq)
      · exact ⟨it, List.mem_append_left _ hit, hq⟩
      · exact ⟨i, by simp, hq⟩
  have hkp : ∀ q, q ≠ p → (wa.setCell ⟨p, 3, none⟩ (.slice (some ⟨g, 0, none⟩) (its.length + 1) cap)).heap[q]? = wa.heap[q]? := fun q hq => Below.heap_setCell _ _ _ _ hq
  have hpt : p ∉ tagBs (its ++ [i]) := fun e => by
    rcases (hone p).1 e with h1 | h1
    · exact h.pt h1
    · have := (hi.lt p h1).1; have := hM p (.inl rfl); omega
  refine ⟨⟨four_set hpb, h.fil.block (fun q hq => (hkp q (fun e => h.pf (by rw [hq, e]))).trans (hgk q (h.fil.lt q hq).2 (h.fe q hq).1)), ⟨own_of_block hP.row (fun q hq => hkp q (fun e => by simp only [Value.ownBlock, Option.some.injEq] at hq; exact hgp (by omega))), fun it hit => own_of_block (hP.tags it hit) (fun q hq => hkp q (fun e => hpt (by rw [← e]; exact tagBs_mem.2 ⟨it, hit, hq⟩))), hP.apart, hP.dist⟩, h.pN, h.pf, fun e => by simp only [Value.ownBlock, Option.some.injEq] at e; exact hgp e, hpt, fun q hq => ⟨fun e => ?_, fun e => ?_⟩, fun it hit => ?_, by simp; omega⟩, fun q hq hn => ?_, ?_⟩
  · simp only [Value.ownBlock, Option.some.injEq] at e
    subst e
    rcases hat with e | e
    · exact (h.fe g hq).1 e
    · have := (h.fil.lt g hq).2; omega
  · rcases (hone q).1 e with h1 | h1
    · exact (h.fe q hq).2 h1
    · have := (hi.lt q h1).1; have := hM q (.inr (.inl hq)); omega
  · rcases List.mem_append.1 hit with h1 | h1
    · exact h.good it h1
    · simp at h1; subst h1; exact hgd
  · exact (hkp q (fun e => hn (.inl e))).trans (hgk q hq (fun e => hn (.inr (.inr (.inl e)))))
  · rintro q (h1 | h1 | h1 | h1)
    · exact .inl (.inl h1)
    · exact .inl (.inr (.inl h1))
    · simp only [Value.ownBlock, Option.some.injEq] at h1
      rcases hat with e | e
      · exact .inl (.inr (.inr (.inl (by rw [e, h1]))))
      · exact .inr (.inr (by omega))
    · rcases (hone q).1 h1 with h2 | h2
      · exact .inl (.inr (.inr (.inr h2)))
      · exact .inr (.inl (hi.lt q h2).1)
theorem ArchS.added {s : Int} {N p : Nat} {w w5 wa : World} {fv ev : Value} {file : List UInt8} {its : List Item} {o : Obj} {g cap : Nat} {i : Item} (h : ArchS s N p w fv ev file its) (hb : Below w.heap.size w w5) (hi : w5.ownsRow (w.heap.size + 1) 9 1 i.tv i.ev.tags.length (i.ev.tags.map Value.string))
    (hg : (w5.alloc o).grownBy wa ev.ownBlock) (hown : wa.ownsRow N 29 5 (.slice (some ⟨g, 0, none⟩) (its.length + 1) cap) (its.length + 1) (fives its ++ i.five)) (hat : ev.ownBlock = some g ∨ g = (w5.alloc o).heap.size) (hgd : isB i.ev = true) (hfew : its.length < 200) :
    ArchS s N p (wa.setCell ⟨p, 3, none⟩ (.slice (some ⟨g, 0, none⟩) (its.length + 1) cap)) fv (.slice (some ⟨g, 0, none⟩) (its ++ [i]).length cap) file (its ++ [i]) ∧ Moved w (wa.setCell ⟨p, 3, none⟩ (.slice (some ⟨g, 0, none⟩) (its.length + 1) cap)) (Foot p fv ev its) (Foot p fv (.slice (some ⟨g, 0, none⟩) (its ++ [i]).length cap) (its ++ [i])) := by
  have hl : (its ++ [i]).length = its.length + 1 := by simp
  rw [hl]
  have hlt := h.lt
  have hs := hb.size
  have hp := (hlt p (.inl rfl)).1
  have hp2 := (hlt p (.inl rfl)).2
  obtain ⟨h1, h2, h3⟩ := (h.below hb).putEvent hi (fun q hq => by have := (hlt q hq).2; omega) (by omega) hg hown hat hgd hfew
  have hgs := hg.size
  rw [World.size_alloc] at hgs
  refine ⟨h1, hg.os.trans hb.os, hg.tape.trans hb.tape, hg.output.trans hb.output, ?_, fun q hq hn => (h2 q (by omega) hn).trans (hb.block q hq), fun q hq => ?_⟩
  · have : (wa.setCell ⟨p, 3, none⟩ (.slice (some ⟨g, 0, none⟩) (its.length + 1) cap)).heap.size = wa.heap.size := by simp [World.setCell]
    omega
  · rcases h3 q hq with h4 | h4 | h4
    · exact .inl h4
    · exact .inr (by omega)
    · exact .inr (by omega)
end Go.Proofs.YtdjllnhahhjgmaaGreatDoor
namespace Go.Proofs.YtdjllnhahhjgmaaGreatDoor
open Go.RowKit Go.MuLone Chron
set_option maxRecDepth 100000 in
set_option maxHeartbeats 4000000 in
theorem append_any (N p : Nat) (v : Int) (fv ev : Value) (file : List UInt8) (its : List Item) (a : Option Addr) (cap : Nat) (ls : List Item) (w : World) (hA : Hid (ArchO N p w fv ev file its)) (hE : Hid (EvsAt w a ls)) (hl : ls.length ≤ 100000000) (hf : file.length ≤ 100000000)
    (hap : Hid (∀ q, ReadsOf a ls q → ¬ Foot p fv ev its q)) :
    Calls Tryz.prog 33 #[.pointer (some ⟨p, 0, none⟩), .int .i64 v, .slice a ls.length cap] w fun e w' => e = .returned (.int .i64 (refB v its.length (evs ls))) ∧
      ∃ fv' ev' its', ArchO N p w' fv' ev' (appFile v file (evs its) (evs ls)) its' ∧ evs its' = appEvs v (evs its) (evs ls) ∧ Moved w w' (Foot p fv ev its) (Foot p fv' ev' its') := by
  obtain ⟨ea, ec, rfl, t1, t2, t3⟩ := hA.out.evs.at hA.out.good
  obtain ⟨c0, t4, t5, t6, cz⟩ := four_cells hA.out.blk
  clear t1 t2 t3 t4 t5 t6
  obtain ⟨hA1, hm1, hs1⟩ := hA.out.state 1
  have hE1 := hE.out.moved hm1 hap.out
  obtain ⟨c0', c1', c2', c3', cz'⟩ := four_cells hA1.blk
  have hes : (evs its).length = its.length := by simp [evs]
  go_enter_defers Tryz.func33, Tryz.ntmps33
  go_wp2_with (go_at_call 36; refine (lock_free Tryz.muLib ⟨p, 0, none⟩ _ c0 (cz 0)).mono ?_; rintro e w' ⟨rfl, rfl⟩)
  clear c0 cz
  generalize w.setCell ⟨p, 0, none⟩ (.int .i32 1) = w1 at *
  refine (arefuse_any p v 1 fv ea its.length ec a cap ls w1 hA1.blk hA.out.few hE1 hl).mono ?_
  rintro e w2 ⟨rfl, hb2⟩
  have HA2 := hide0 (hA1.below hb2)
  have HM2 : Hid (Moved w w2 (Foot p fv (.slice ea its.length ec) its) (Foot p fv (.slice ea its.length ec) its)) := hm1.trans (Moved.of_below hb2)
  have HE2 := hide0 (hE1.below hb2 (Nat.le_refl _))
  clear hA1 hm1 hs1 hE1 c0' c1' c2' c3' cz' hb2
  obtain ⟨c0, c1, c2, c3, cz⟩ := four_cells HA2.out.blk
  have hunlock : ∀ (W : World) (fw ew : Value) (fl : List UInt8) (is : List Item), ArchS 1 N p W fw ew fl is → W.cell? ⟨p, 0, none⟩ = some (.int .i32 1) ∧ W.frozen? ⟨p, 0, none⟩ = false := fun W fw ew fl is h => ⟨(four_cells h.blk).1, (four_cells h.blk).2.2.2.2 0⟩
  by_cases hr : refB v its.length (evs ls) = 0
  · by_cases hz : ls.length = 0
    · have hn : ls = [] := List.eq_nil_of_length_eq_zero hz
      subst hn
      have HFI : Hid (appFile v file (evs its) (evs []) = file ∧ appEvs v (evs its) (evs []) = evs its) := by
        refine ⟨if_neg (fun h => h.2 rfl), ?_⟩
        unfold appEvs; split <;> simp [evs]
      have HRR := hide0 hr
      rw [hr]
      clear hr
      go_wp2
      refine leaves_cons (f := 37) (args := #[.pointer (some ⟨p, 0, none⟩)]) (by simp) (by simp [go_sem]) ?_
      refine (unlock_deferred Tryz.muLib ⟨p, 0, none⟩ .returning _ c0 (cz 0)).mono ?_
      rintro e u' w'' ⟨rfl, rfl, rfl⟩
      obtain ⟨hA3, hm3, _⟩ := HA2.out.state 0
      exact ⟨_, results_tmp rfl _ _ _, by rw [HRR.out]; rfl, _, _, its, by rw [HFI.out.1]; exact hA3, HFI.out.2.symm, HM2.out.trans hm3⟩
    · have hgo : ∀ e ∈ evs ls, goesB v e = true := by
        intro e he
        unfold refB at hr
        split at hr
        · simp at hr
        · split at hr
          · simp at hr
          · split at hr
            · rename_i h; exact List.all_eq_true.1 h e he
            · simp at hr
      have hsum : its.length + ls.length ≤ 200 := by
        unfold refB at hr
        split at hr
        · simp at hr
        · split at hr
          · simp at hr
          · have : (evs ls).length = ls.length := by simp [evs]
            omega
      have hv : 1 ≤ v ∧ v ≤ 3 := by
        have : isVer v = true := by
          unfold refB at hr
          split at hr
          · simp at hr
          · simpa using ‹¬ isVer v = false›
        simpa [isVer] using this
      have HRR := hide0 hr
      rw [hr]
      have hzb : ((ls.length : Int) == 0) = false := by simp only [beq_eq_false_iff_ne, ne_eq]; omega
      have hne : ls ≠ [] := fun h => hz (by rw [h]; rfl)
      have HFI : Hid (appFile v file (evs its) (evs ls) = file ++ entryB v (lastB noB (evs its)) (evs ls) ∧ appEvs v (evs its) (evs ls) = evs its ++ evs ls) := by
        refine ⟨if_pos ⟨by rw [hes]; exact hr, fun h => hne (List.map_eq_nil_iff.1 h)⟩, if_pos (by rw [hes]; exact hr)⟩
      have hold := lastB_size (old := noB) (by decide) (evs its) (fun e he => by obtain ⟨it, hi, rfl⟩ := List.mem_map.1 he; exact hA.out.good it hi)
      have hel := entryB_len (v := v) (old := lastB noB (evs its)) (l := evs ls) hgo hold
      have hel2 : (evs ls).length = ls.length := by simp [evs]
      obtain ⟨ea2, ec2, hv2, hE2, t1, t2⟩ := HA2.out.evs.at hA.out.good
      cases hv2
      clear t1 t2
      have hp2 := (Array.getElem?_eq_some_iff.1 HA2.out.blk).1
      have hLB : Calls Tryz.prog 54 #[.slice ea its.length ec] w2.drew fun e w'' => e = .returned (.string (lastB noB (evs its))) ∧ w'' = w2.drew := lastBody_any ea ec its w2.drew (hE2.below (Below.refl _ _).drew (Nat.le_refl _)) (by omega)
      have hWR : Calls Tryz.prog 53 #[.int .i64 v, .string (lastB noB (evs its)), .slice a ls.length cap] w2.drew fun e w'' => e = .returned (.string ⟨(entryB v (lastB noB (evs its)) (evs ls)).toArray⟩) ∧ Hid (Below w2.heap.size w2 w'') ∧ w''.cell? ⟨p, 2, none⟩ = some fv ∧ w''.cell? ⟨p, 3, none⟩ = some (.slice ea its.length ec) := by
        refine (write_any v _ a cap ls w2.drew (HE2.out.below (Below.refl _ _).drew (Nat.le_refl _)) hv.1 hv.2 hold hgo (by omega)).mono ?_
        rintro e w'' ⟨rfl, hb''⟩
        have hB : Below w2.heap.size w2 w'' := ((Below.refl _ _).drew).trans hb''
        have hC := four_cells ((hB.block p hp2).trans HA2.out.blk)
        exact ⟨rfl, hB, hC.2.2.1, hC.2.2.2.1⟩
      generalize hold' : lastB noB (evs its) = old at *
      generalize hent : entryB v old (evs ls) = entry at *
      have hn1 : file.length + (⟨entry.toArray⟩ : ByteArray).size ≤ maxLen := by show file.length + entry.length ≤ _; unfold maxLen; omega
      have hn2 : file.length + (⟨entry.toArray⟩ : ByteArray).size ≤ 140737488355328 := by show file.length + entry.length ≤ _; omega
      have HGO := hide0 hgo
      obtain ⟨i0, hi, hz0, hz1, hz2⟩ := info_parts infoByte
      obtain ⟨ffa, ffc, hfv, t1⟩ := HA2.out.fil.shape
      clear t1
      have hNp : N ≤ w2.heap.size := by have := HA2.out.pN; omega
      subst hfv
      clear hr hz hgo hold' hent hE2 hne
      go_upto_region 6 with fail
      go_cut [44] from 29 to 44 (fun _ wx => Hid (∃ fa fc, ArchS 1 N p wx (.slice fa (file ++ entry).length fc) (.slice ea its.length ec) (file ++ entry) its ∧ Moved w2 wx (Foot p (.slice ffa file.length ffc) (.slice ea its.length ec) its) (Foot p (.slice fa (file ++ entry).length fc) (.slice ea its.length ec) its)))
      case first =>
        clear hunlock hsum hv hel hel2 hes hold hp2 hzb hl hf
        refine wp_region_noPanic ?_
        go_region_law (first
          | (have hq9 := HO7.out
             refine step_append_str _ rfl _ _ 63 9 rfl N 5 i0 Tryz.underlying63 Tryz.underlying9 hi hz0 hz1 hz2 (.slice ffa file.length ffc) file.length (Lib.byteCells file) rfl hq9 ⟨entry.toArray⟩ rfl hn1 hn2 hs7 ?_
             clear hq9
             intro fa fc w8 hown8 hgr8 hat8
             have hp8 := (hgr8.block p (Array.getElem?_eq_some_iff.1 HA7.out.blk).1 (fun e => HA7.out.pf e.symm)).trans HA7.out.blk
             obtain ⟨q0, q1, q2, q3, qz⟩ := four_cells hp8
             have HN8 := hide0 hown8
             clear hown8)
          | (go_simp; go_at_call 54; refine hLB.mono ?_; rintro e w' ⟨rfl, rfl⟩)
          | (go_simp; go_at_call 53; refine hWR.mono ?_; rintro e w7 ⟨rfl, HB7, k2, k3⟩; have HA7 := hide0 (HA2.out.below HB7.out); have HO7 := hide0 HA7.out.fil; have hs7 : N ≤ w7.heap.size := Nat.le_trans hNp HB7.out.size))
        all_goals
          have HF8 := hide0 (HA2.out.filed HB7.out hgr8 HN8.out hat8)
          refine NoPanic.normal ?_
          go_wp2_with fail
          go_meet
          case rel => exact HF8
      case rest =>
        obtain ⟨nfa, nfc, HA3, HM3⟩ := hcut.out
        have HA3 := hide0 HA3
        have HM3 := hide0 (HM2.out.trans HM3)
        clear hcut hLB hWR HM2 HA2 HE2 c0 c1 c2 c3 cz hi hz0 hz1 hz2 hn1 hn2 i0 hunlock
        obtain ⟨i0, hi, hz0, hz1, hz2⟩ := info_parts infoEvent5
        generalize hnfv : (Value.slice nfa (file ++ entry).length nfc) = nfv at *
        have hsz3 := HM3.out.size
        have hwp : p < w.heap.size := (hA.out.lt p (.inl rfl)).2
        go_wp2_with fail
        go_loopw [47] (fun iv wx => ∃ (n : Nat) (its' : List Item) (va : Option Addr) (vc : Nat), n ≤ ls.length ∧ iv = .int .i64 n ∧ Hid (ArchS 1 N p wx nfv (.slice va its'.length vc) (file ++ entry) its') ∧ Hid (evs its' = evs its ++ (evs ls).take n) ∧ Hid (Moved w wx (Foot p (.slice ffa file.length ffc) (.slice ea its.length ec) its) (Foot p nfv (.slice va its'.length vc) its'))) (fun i _ => ls.length - (intOf i).toNat)
        case atStart => exact ⟨0, its, ea, ec, Nat.zero_le _, rfl, HA3, by show _ = _; simp, HM3⟩
        case round =>
          obtain ⟨n, its', va, vc, hn, rfl, HA, HS, HM⟩ := hrel
          clear HA3 HM3
          obtain ⟨c0, c1, c2, c3, cz⟩ := four_cells HA.out.blk
          have hl' : its'.length = its.length + n := by
            have := congrArg List.length HS.out
            simp only [evs, List.length_map, List.length_append, List.length_take] at this
            omega
          by_cases hlt : n < ls.length
          · have hEw := hE.out.moved HM.out hap.out
            obtain ⟨g, off, rfl, hc⟩ := hEw (by omega)
            obtain ⟨hcell, hitem⟩ := hc n ls[n] (List.getElem?_eq_getElem hlt)
            have hx : (evs ls)[n]? = some ls[n].ev := by simp [evs, hlt]
            have hgood := goes_is (HGO.out ls[n].ev (List.mem_of_getElem? hx))
            have HX := hide0 hx
            generalize ls[n] = it at hcell hitem hgood HX hx
            obtain ⟨⟨k, t, m, b, ts⟩, ia, ic⟩ := it
            obtain ⟨d0, d1, d2, d3, d4⟩ := hcell
            have hK := is_known hgood
            have HT := hide0 hitem.tags
            simp only at d0 d1 d2 d3 d4 HT
            have hwr := HM.out.size
            have hpr := (Array.getElem?_eq_some_iff.1 HA.out.blk).1
            have hCP : Calls Tryz.prog 55 #[.agg #[.int .i64 k, .string t, .int .i64 m, .string b, .slice ia ts.length ic]] (wr.alloc (.cells #[.int .i64 k, .string t, .int .i64 m, .string b, .slice ia ts.length ic] 29)).drew fun e w'' => ∃ xa xc, e = .returned (.agg #[.int .i64 k, .string t, .int .i64 m, .string b, .slice xa ts.length xc]) ∧ Hid (w''.ownsRow (wr.heap.size + 1) 9 1 (.slice xa ts.length xc) ts.length (ts.map Value.string)) ∧ Hid (Below wr.heap.size wr w'') ∧ (w''.cell? ⟨p, 3, none⟩ = some (.slice va its'.length vc) ∧ ∀ o, (w''.alloc o).cell? ⟨p, 3, none⟩ = some (.slice va its'.length vc)) := by
              refine (copy_any k t m b ia ic ts (wr.alloc (.cells #[.int .i64 k, .string t, .int .i64 m, .string b, .slice ia ts.length ic] 29)).drew (show TagsAt _ _ _ from TagsAt.alloc HT.out _) hK.lines hK.few hK.task hK.body).mono ?_
              rintro e w'' ⟨x, rfl, hox, hb''⟩
              obtain ⟨xa, xc, rfl, _⟩ := own_shape hox
              have hB : Below wr.heap.size wr w'' := (((Below.refl _ _).alloc (Nat.le_refl _) _).drew).trans (hb''.mono (by show wr.heap.size ≤ (wr.alloc _).heap.size; simp))
              have hs'' := hB.size
              have hC := four_cells ((hB.block p hpr).trans HA.out.blk)
              have hox2 : w''.ownsRow (wr.heap.size + 1) 9 1 (.slice xa ts.length xc) ts.length (ts.map Value.string) := own_mono hox (by show wr.heap.size + 1 ≤ (wr.alloc _).heap.size; simp)
              exact ⟨xa, xc, rfl, hox2, hB, hC.2.2.2.1, fun o => (four_cells ((Below.heap_alloc _ _ _ (by omega)).trans ((hB.block p hpr).trans HA.out.blk))).2.2.2.1⟩
            have e1 : its'.length + 1 ≤ maxLen := by unfold maxLen; omega
            have e2 : (its'.length + 1) * 72 ≤ 140737488355328 := by omega
            obtain ⟨b0, b1, b2, b3, b4, bz⟩ := res_cells (heap_alloc_new wr (.cells #[.int .i64 k, .string t, .int .i64 m, .string b, .slice ia ts.length ic] 29))
            have a3 : (wr.alloc (.cells #[.int .i64 k, .string t, .int .i64 m, .string b, .slice ia ts.length ic] 29)).cell? ⟨p, 3, none⟩ = some (.slice va its'.length vc) := (four_cells ((Below.heap_alloc _ _ _ hpr).trans HA.out.blk)).2.2.2.1
            have hfew : its'.length < 200 := by omega
            have HNUM := hide0 (And.intro hfew (And.intro hlt hsum))
            have HG2 := hide0 hgood
            clear hc hitem hx hgood hK hEw
            go_wp2_with fail
            clear hfew hl' hlt hwr hpr hsz3 hwp c0 c1 c2 c3 hsum hv hel hel2 hes hold hNp hp2 hzb hl hf d0 d1 d2 d3 d4
            refine wp_region_noPanic ?_
            go_region_law (first
              | (have hq9 := HOX.out
                 have hq8 := HR5.out
                 refine step_append_lies _ rfl _ _ 23 rfl N 29 i0 (.agg #[.int .i64 0, .string ⟨#[]⟩, .int .i64 0, .string ⟨#[]⟩, .slice none 0 0]) 5 72 Tryz.underlying23 hi hz0 hz1 hz2 rfl (by decide) (.slice va its'.length vc) its'.length (fives its') rfl (hq8.alloc _) ⟨w5.heap.size, 0, none⟩ 1 1 (Item.five ⟨⟨k, t, m, b, ts⟩, xa, xc⟩) rfl rfl (five_new w5 ⟨⟨k, t, m, b, ts⟩, xa, xc⟩) (five_one _) Nat.one_pos e1 e2 (e3 _) _ rfl ?_
                 clear hq9 hq8
                 intro gg gcap wa hown9 hgr9 hat9 hlt9
                 have hpa := hpa5 _ _ hgr9
                 obtain ⟨q0, q1, q2, q3, qz⟩ := four_cells hpa
                 have HN9 := hide0 hown9
                 clear hown9)
              | (go_simp; go_at_call 55; refine hCP.mono ?_; rintro e w5 ⟨xa, xc, rfl, HOX, HB5, k3, k3'⟩; have HA5 := hide0 (HA.out.below HB5.out); have HR5 := hide0 HA5.out.evs.row; have e3 : ∀ o, N ≤ (w5.alloc o).heap.size := (fun o => by have := HA5.out.pN; have := (HA5.out.lt p (.inl rfl)).2; simp; omega); have hpa5 : ∀ (o : Obj) (wz : World), (w5.alloc o).grownBy wz (Value.ownBlock (.slice va its'.length vc)) → wz.heap[p]? = some (.cells #[.int .i32 1, .int .u32 0, nfv, .slice va its'.length vc] 78) := (fun o wz hg => (hg.block p (by have := (HA5.out.lt p (.inl rfl)).2; simp; omega) (fun e => HA5.out.pe e.symm)).trans ((Below.heap_alloc _ _ _ (HA5.out.lt p (.inl rfl)).2).trans HA5.out.blk))))
            all_goals
              have HF9 := hide0 (HA.out.added (i := ⟨⟨k, t, m, b, ts⟩, xa, xc⟩) HB5.out HOX.out hgr9 HN9.out hat9 HG2.out HNUM.out.1)
              have hlt := HNUM.out.2.1
              have hsum := HNUM.out.2.2
              have HS9 : Hid (evs (its' ++ [⟨⟨k, t, m, b, ts⟩, xa, xc⟩]) = evs its ++ (evs ls).take (n + 1)) := by
                show _ = _
                have e : evs (its' ++ [⟨⟨k, t, m, b, ts⟩, xa, xc⟩]) = evs its' ++ [⟨k, t, m, b, ts⟩] := by simp [evs]
                rw [e, HS.out, List.take_add_one, HX.out, List.append_assoc]; rfl
              have HM9 := hide0 (HM.out.trans HF9.out.2)
              clear hgr9 hat9 HN9 hpa q0 q1 q2 q3 qz
              refine NoPanic.normal ?_
              go_wp2
              go_roundw
              case rel => exact ⟨n + 1, its' ++ [⟨⟨k, t, m, b, ts⟩, xa, xc⟩], some ⟨gg, 0, none⟩, gcap, hlt, by go_num, hide0 HF9.out.1, HS9, HM9⟩
              case measure => simp [intOf]; omega
          · have HT : Hid ((evs ls).take n = evs ls) := by show _ = _; rw [List.take_of_length_le (by omega)]
            go_wp2
            refine leaves_cons (f := 37) (args := #[.pointer (some ⟨p, 0, none⟩)]) (by simp) (by simp [go_sem]) ?_
            refine (unlock_deferred Tryz.muLib ⟨p, 0, none⟩ .returning _ c0 (cz 0)).mono ?_
            rintro e u' w'' ⟨rfl, rfl, rfl⟩
            obtain ⟨hA9, hm9, _⟩ := HA.out.state 0
            exact ⟨_, results_tmp rfl _ _ _, by rw [HRR.out]; rfl, _, _, its', by rw [HFI.out.1]; exact hA9, by rw [HFI.out.2, HS.out, HT.out], HM.out.trans hm9⟩
  · have HFI : Hid (appFile v file (evs its) (evs ls) = file ∧ appEvs v (evs its) (evs ls) = evs its) := by
      refine ⟨if_neg (fun h => hr (by rw [← hes]; exact h.1)), if_neg (fun h => hr (by rw [← hes]; exact h))⟩
    have hrb : (refB v its.length (evs ls) == 0) = false := by simp [hr]
    generalize hrr : refB v its.length (evs ls) = rr at *
    have HRR := hide0 hrr
    clear hrr
    go_wp2
    refine leaves_cons (f := 37) (args := #[.pointer (some ⟨p, 0, none⟩)]) (by simp) (by simp [go_sem]) ?_
    refine (unlock_deferred Tryz.muLib ⟨p, 0, none⟩ .returning _ c0 (cz 0)).mono ?_
    rintro e u' w'' ⟨rfl, rfl, rfl⟩
    obtain ⟨hA3, hm3, _⟩ := HA2.out.state 0
    exact ⟨_, results_tmp rfl _ _ _, by rw [HRR.out]; rfl, _, _, its, by rw [HFI.out.1]; exact hA3, HFI.out.2.symm, HM2.out.trans hm3⟩
end Go.Proofs.YtdjllnhahhjgmaaGreatDoor
namespace Go.Proofs.YtdjllnhahhjgmaaGreatDoor
open Go.RowKit Chron
/- the reader lies in a block -/
def RdAt (R : Nat) (w : World) (r : Rdr) : Prop := w.heap[R]? = some (.cells #[.string ⟨r.rest.toArray⟩, .bool r.cut, .bool r.wrong] 103)
theorem RdAt.cells {R : Nat} {w : World} {r : Rdr} (h : RdAt R w r) : w.cell? ⟨R, 0, none⟩ = some (.string ⟨r.rest.toArray⟩) ∧ w.cell? ⟨R, 1, none⟩ = some (.bool r.cut) ∧ w.cell? ⟨R, 2, none⟩ = some (.bool r.wrong) ∧ ∀ o, w.frozen? ⟨R, o, none⟩ = false := by
  unfold RdAt at h
  simp [World.cell?, World.frozen?, h]
theorem RdAt.lt {R : Nat} {w : World} {r : Rdr} (h : RdAt R w r) : R < w.heap.size := (Array.getElem?_eq_some_iff.1 h).1
theorem RdAt.more {R : Nat} {w w' : World} {r : Rdr} (h : RdAt R w r) (hb : Below w.heap.size w w') : RdAt R w' r := (hb.block R h.lt).trans h
theorem three_set {w : World} {p : Nat} {a b c u : Value} {t : TypeId} {i : Nat} (h : w.heap[p]? = some (.cells #[a, b, c] t)) : (w.setCell ⟨p, i, none⟩ u).heap[p]? = some (.cells (#[a, b, c].setIfInBounds i u) t) := by
  have hlt := (Array.getElem?_eq_some_iff.1 h).1
  simp only [World.setCell, Array.getElem?_modify, if_true, h, Option.map_some]
  rfl
theorem RdAt.set0 {R : Nat} {w : World} {r : Rdr} (h : RdAt R w r) (l : List UInt8) : RdAt R (w.setCell ⟨R, 0, none⟩ (.string ⟨l.toArray⟩)) ⟨l, r.cut, r.wrong⟩ := three_set h
set_option maxRecDepth 100000 in
theorem aFail_any (R : Nat) (r : Rdr) (w : World) (h : Hid (RdAt R w r)) :
    Calls Tryz.prog 128 #[.pointer (some ⟨R, 0, none⟩)] w fun e w' => e = .returned (.tuple #[]) ∧ Hid (RdAt R w' r.fail) ∧ Hid (Far w w' [some R]) := by
  obtain ⟨c0, c1, c2, cz⟩ := h.out.cells
  go_enter Tryz.func128, Tryz.ntmps128
  go_wp2
  go_end0
  exact ⟨rfl, three_set (three_set h.out), ((Far.refl w _).setCell (.inl (by simp)) _).setCell (.inl (by simp)) _⟩
set_option maxRecDepth 100000 in
theorem aEnd_any (R : Nat) (r : Rdr) (w : World) (h : Hid (RdAt R w r)) :
    Calls Tryz.prog 154 #[.pointer (some ⟨R, 0, none⟩)] w fun e w' => e = .returned (.tuple #[]) ∧ Hid (RdAt R w' r.over) ∧ Hid (Far w w' [some R]) := by
  obtain ⟨c0, c1, c2, cz⟩ := h.out.cells
  go_enter Tryz.func154, Tryz.ntmps154
  go_wp2
  go_end0
  exact ⟨rfl, three_set (three_set h.out), ((Far.refl w _).setCell (.inl (by simp)) _).setCell (.inl (by simp)) _⟩
set_option maxRecDepth 100000 in
theorem aStopped_any (R : Nat) (r : Rdr) (w : World) (h : Hid (RdAt R w r)) :
    Calls Tryz.prog 61 #[.pointer (some ⟨R, 0, none⟩)] w fun e w' => e = .returned (.bool r.stop) ∧ w' = w := by
  obtain ⟨c0, c1, c2, cz⟩ := h.out.cells
  obtain ⟨rest, cut, wrong⟩ := r
  simp only at c0 c1 c2
  cases cut <;> cases wrong
  all_goals
    go_enter Tryz.func61, Tryz.ntmps61
    go_wp2
    go_ret
    exact ⟨rfl, rfl⟩
set_option maxRecDepth 100000 in
set_option maxHeartbeats 1000000 in
theorem aCut_any (R : Nat) (r : Rdr) (most : Int) (w : World) (h : Hid (RdAt R w r)) (hs : r.rest.length ≤ 281474976710656) :
    Calls Tryz.prog 127 #[.pointer (some ⟨R, 0, none⟩), .int .i64 most] w fun e w' => e = .returned (.tuple #[]) ∧ Hid (RdAt R w' (cutNumR most r)) ∧ Hid (Far w w' [some R]) := by
  obtain ⟨c0, c1, c2, cz⟩ := h.out.cells
  have hl1 : (r.rest ++ [1]).length ≤ maxLen := by rw [List.length_append, List.length_singleton]; unfold maxLen; omega
  have hRN := readNumber_any ⟨(r.rest ++ [1]).toArray⟩ w (by show (r.rest ++ [1]).length ≤ maxLen; exact hl1)
  simp only at hRN
  have e1 : (⟨r.rest.toArray⟩ ++ ⟨#[1]⟩ : ByteArray) = ⟨(r.rest ++ [1]).toArray⟩ := mk_append r.rest ⟨#[1]⟩
  have hbig : ¬ 9223372036854775807 < (⟨r.rest.toArray⟩ : ByteArray).size + (⟨#[1]⟩ : ByteArray).size := by show ¬ 9223372036854775807 < r.rest.length + 1; omega
  rcases hq : readNum (r.rest ++ [1]) with _ | ⟨n, q⟩
  · have HC : Hid (cutNumR most r = r.fail) := by show _ = _; unfold cutNumR; rw [hq]
    rw [hq] at hRN
    clear hq
    go_enter Tryz.func127, Tryz.ntmps127
    go_wp2_with fail
    refine hRN.mono ?_
    rintro e w1 ⟨rfl, nq, rfl⟩
    have H1 : Hid (RdAt R (w.drewN nq) r) := h
    simp only [rdVal]
    go_wp2_with fail
    refine (aFail_any R r _ H1).mono ?_
    rintro e w2 ⟨rfl, H2, HF2⟩
    go_wp2
    refine bodyPost_ret (results_none rfl _ _ _) rfl ?_
    exact ⟨rfl, by rw [HC.out]; exact H2, (Far.of_below (below_of_drewN nq) (Nat.le_refl _)).trans HF2.out⟩
  · rw [hq] at hRN
    by_cases hm : most < (n : Int)
    · have HC : Hid (cutNumR most r = r.fail) := by show _ = _; unfold cutNumR; rw [hq]; exact if_pos hm
      clear hq
      go_enter Tryz.func127, Tryz.ntmps127
      go_wp2_with fail
      refine hRN.mono ?_
      rintro e w1 ⟨rfl, nq, rfl⟩
      have H1 : Hid (RdAt R (w.drewN nq) r) := h
      simp only [rdVal]
      go_wp2_with fail
      refine (aFail_any R r _ H1).mono ?_
      rintro e w2 ⟨rfl, H2, HF2⟩
      go_wp2
      refine bodyPost_ret (results_none rfl _ _ _) rfl ?_
      exact ⟨rfl, by rw [HC.out]; exact H2, (Far.of_below (below_of_drewN nq) (Nat.le_refl _)).trans HF2.out⟩
    · have HC : Hid (cutNumR most r = r.over) := by show _ = _; unfold cutNumR; rw [hq]; exact if_neg hm
      clear hq
      go_enter Tryz.func127, Tryz.ntmps127
      go_wp2_with fail
      refine hRN.mono ?_
      rintro e w1 ⟨rfl, nq, rfl⟩
      have H1 : Hid (RdAt R (w.drewN nq) r) := h
      simp only [rdVal]
      go_wp2_with fail
      refine (aEnd_any R r _ H1).mono ?_
      rintro e w2 ⟨rfl, H2, HF2⟩
      go_wp2
      go_end0
      exact ⟨rfl, by rw [HC.out]; exact H2, (Far.of_below (below_of_drewN nq) (Nat.le_refl _)).trans HF2.out⟩
set_option maxRecDepth 100000 in
set_option maxHeartbeats 1000000 in
theorem aNumber_any (R : Nat) (r : Rdr) (least most : Int) (w : World) (h : Hid (RdAt R w r)) (hs : r.rest.length ≤ 281474976710656) :
    Calls Tryz.prog 94 #[.pointer (some ⟨R, 0, none⟩), .int .i64 least, .int .i64 most] w fun e w' => e = .returned (.int .i64 (numR least most r).1) ∧ Hid (RdAt R w' (numR least most r).2) ∧ Hid (Far w w' [some R]) := by
  obtain ⟨c0, c1, c2, cz⟩ := h.out.cells
  by_cases hst : r.stop = true
  · have HC : Hid (numR least most r = (0, r)) := if_pos hst
    go_enter Tryz.func94, Tryz.ntmps94
    go_wp2_with (go_at_call 61; refine (aStopped_any R r _ h).mono ?_; rintro e w' ⟨rfl, rfl⟩)
    go_ret
    exact ⟨by rw [HC.out]; rfl, by rw [HC.out]; exact h, Far.refl _ _⟩
  · have hst' : r.stop = false := by simpa using hst
    have hRN := readNumber_any ⟨r.rest.toArray⟩ w (by show r.rest.length ≤ _; unfold maxLen; omega)
    simp only at hRN
    rcases hq : readNum r.rest with _ | ⟨n, q⟩
    · have HC : Hid (numR least most r = (0, cutNumR most r)) := by show _ = _; unfold numR; rw [if_neg hst, hq]
      rw [hq] at hRN
      clear hq hst
      go_enter Tryz.func94, Tryz.ntmps94
      go_wp2_with (first
        | (go_at_call 61; refine (aStopped_any R r _ h).mono ?_; rintro e w' ⟨rfl, hw'⟩; have hw2 := hw'.symm; subst hw2)
        | (go_at_call 126; refine hRN.mono ?_; rintro e w1 ⟨rfl, nq, rfl⟩; simp only [rdVal]))
      have H1 : Hid (RdAt R (w.drewN nq) r) := h
      refine (aCut_any R r most _ H1 hs).mono ?_
      rintro e w2 ⟨rfl, H2, HF2⟩
      go_wp2
      go_ret
      exact ⟨by rw [HC.out]; rfl, by rw [HC.out]; exact H2, (Far.of_below (below_of_drewN nq) (Nat.le_refl _)).trans HF2.out⟩
    · rw [hq] at hRN
      by_cases hlm : (n : Int) < least ∨ most < (n : Int)
      · have HC : Hid (numR least most r = (0, r.fail)) := by show _ = _; unfold numR; rw [if_neg hst, hq]; exact if_pos hlm
        clear hq hst
        rcases hlm with hlm | hlm
        · go_enter Tryz.func94, Tryz.ntmps94
          go_wp2_with (first
            | (go_at_call 61; refine (aStopped_any R r _ h).mono ?_; rintro e w' ⟨rfl, hw'⟩; have hw2 := hw'.symm; subst hw2)
            | (go_at_call 126; refine hRN.mono ?_; rintro e w1 ⟨rfl, nq, rfl⟩; simp only [rdVal]))
          have H1 : Hid (RdAt R (w.drewN nq) r) := h
          refine (aFail_any R r _ H1).mono ?_
          rintro e w2 ⟨rfl, H2, HF2⟩
          go_wp2
          go_ret
          exact ⟨by rw [HC.out]; rfl, by rw [HC.out]; exact H2, (Far.of_below (below_of_drewN nq) (Nat.le_refl _)).trans HF2.out⟩
        · by_cases hl2 : (n : Int) < least
          · go_enter Tryz.func94, Tryz.ntmps94
            go_wp2_with (first
              | (go_at_call 61; refine (aStopped_any R r _ h).mono ?_; rintro e w' ⟨rfl, hw'⟩; have hw2 := hw'.symm; subst hw2)
              | (go_at_call 126; refine hRN.mono ?_; rintro e w1 ⟨rfl, nq, rfl⟩; simp only [rdVal]))
            have H1 : Hid (RdAt R (w.drewN nq) r) := h
            refine (aFail_any R r _ H1).mono ?_
            rintro e w2 ⟨rfl, H2, HF2⟩
            go_wp2
            go_ret
            exact ⟨by rw [HC.out]; rfl, by rw [HC.out]; exact H2, (Far.of_below (below_of_drewN nq) (Nat.le_refl _)).trans HF2.out⟩
          · go_enter Tryz.func94, Tryz.ntmps94
            go_wp2_with (first
              | (go_at_call 61; refine (aStopped_any R r _ h).mono ?_; rintro e w' ⟨rfl, hw'⟩; have hw2 := hw'.symm; subst hw2)
              | (go_at_call 126; refine hRN.mono ?_; rintro e w1 ⟨rfl, nq, rfl⟩; simp only [rdVal]))
            have H1 : Hid (RdAt R (w.drewN nq) r) := h
            refine (aFail_any R r _ H1).mono ?_
            rintro e w2 ⟨rfl, H2, HF2⟩
            go_wp2
            go_ret
            exact ⟨by rw [HC.out]; rfl, by rw [HC.out]; exact H2, (Far.of_below (below_of_drewN nq) (Nat.le_refl _)).trans HF2.out⟩
      · have HC : Hid (numR least most r = (n, ⟨q, r.cut, r.wrong⟩)) := by show _ = _; unfold numR; rw [if_neg hst, hq]; exact if_neg hlm
        have hl1 : ¬ (n : Int) < least := fun h => hlm (.inl h)
        have hl2 : ¬ most < (n : Int) := fun h => hlm (.inr h)
        clear hq hst hlm
        go_enter Tryz.func94, Tryz.ntmps94
        go_wp2_with (first
          | (go_at_call 61; refine (aStopped_any R r _ h).mono ?_; rintro e w' ⟨rfl, hw'⟩; have hw2 := hw'.symm; subst hw2)
          | (go_at_call 126; refine hRN.mono ?_; rintro e w1 ⟨rfl, nq, rfl⟩; simp only [rdVal]))
        go_ret
        exact ⟨by rw [HC.out]; rfl, by rw [HC.out]; exact RdAt.set0 (w := w.drewN nq) h.out q, (Far.of_below (below_of_drewN nq) (Nat.le_refl _)).setCell (.inl (by simp)) _⟩
set_option maxRecDepth 100000 in
set_option maxHeartbeats 1000000 in
theorem aText_any (R : Nat) (r : Rdr) (most : Int) (w : World) (h : Hid (RdAt R w r)) (hs : r.rest.length ≤ 281474976710656) :
    Calls Tryz.prog 129 #[.pointer (some ⟨R, 0, none⟩), .int .i64 most] w fun e w' => e = .returned (.string ⟨(textR most r).1.toArray⟩) ∧ Hid (RdAt R w' (textR most r).2) ∧ Hid (Far w w' [some R]) := by
  have hN := aNumber_any R r 0 most w h hs
  have hlen : (numR 0 most r).2.rest.length ≤ r.rest.length := by
    unfold numR
    split
    · exact Nat.le_refl _
    · split
      · unfold cutNumR
        split
        · simp [Rdr.fail]
        · split <;> simp [Rdr.fail, Rdr.over]
      · rename_i n rest hq
        split
        · simp [Rdr.fail]
        · exact readNum_len hq
  have HT : Hid (textR most r = if (numR 0 most r).2.rest.length < (numR 0 most r).1 then ([], (numR 0 most r).2.over) else ((numR 0 most r).2.rest.take (numR 0 most r).1, ⟨(numR 0 most r).2.rest.drop (numR 0 most r).1, (numR 0 most r).2.cut, (numR 0 most r).2.wrong⟩)) := rfl
  generalize numR 0 most r = nr at *
  obtain ⟨n, r1⟩ := nr
  simp only at hN hlen HT
  by_cases hn : r1.rest.length < n
  · have HC : Hid (textR most r = ([], r1.over)) := HT.out.trans (if_pos hn)
    have hni : (r1.rest.length : Int) < (n : Int) := by omega
    go_enter Tryz.func129, Tryz.ntmps129
    go_wp2_with fail
    refine hN.mono ?_
    rintro e w1 ⟨rfl, H1, HF1⟩
    obtain ⟨c0, c1, c2, cz⟩ := H1.out.cells
    go_wp2_with fail
    refine (aEnd_any R r1 _ H1).mono ?_
    rintro e w2 ⟨rfl, H2, HF2⟩
    go_wp2
    go_ret
    exact ⟨by rw [HC.out]; rfl, by rw [HC.out]; exact H2, HF1.out.trans HF2.out⟩
  · have HC : Hid (textR most r = (r1.rest.take n, ⟨r1.rest.drop n, r1.cut, r1.wrong⟩)) := HT.out.trans (if_neg hn)
    have hni : ¬ (r1.rest.length : Int) < (n : Int) := by omega
    have hex := extract_mk_take r1.rest n
    have hex2 := extract_mk_drop r1.rest n
    have hsz : (⟨r1.rest.toArray⟩ : ByteArray).size = r1.rest.length := rfl
    rw [hsz] at hex2
    go_enter Tryz.func129, Tryz.ntmps129
    go_wp2_with fail
    refine hN.mono ?_
    rintro e w1 ⟨rfl, H1, HF1⟩
    obtain ⟨c0, c1, c2, cz⟩ := H1.out.cells
    go_wp2
    go_ret
    exact ⟨by rw [HC.out]; rfl, by rw [HC.out]; exact H1.out.set0 _, HF1.out.setCell (.inl (by simp)) _⟩
end Go.Proofs.YtdjllnhahhjgmaaGreatDoor
