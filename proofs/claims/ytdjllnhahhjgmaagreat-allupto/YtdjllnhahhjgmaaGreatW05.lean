/- Walks and plain facts, in the order in which they lean on one another. -/
import Derived.Test.YtdjllnhahhjgmaaGreatW02
import Derived.Test.YtdjllnhahhjgmaaGreatW04
import Derived.Lib.LaidTab
import Derived.Lib.AppendIntMem
import Derived.WalkSmall
import Derived.Deep.DeepAppendRoom
namespace Go.Proofs.YtdjllnhahhjgmaaGreat
open Go.RowKit Chron
def Pows (w : World) : Prop := Lib.TabIs Tryz.prog w "internal/strconv.uint64pow10" .u64 Lib.pow10Tab
structure EvBox (N : Nat) (w wx : World) (k : Int) (t : ByteArray) (m : Int) (b : ByteArray) (x : Value) : Prop where
  bel : Below N w wx
  box : wx.heap[N]? = some (.cells #[.int .i64 k, .string t, .int .i64 m, .string b, x] 38)
theorem EvBox.more {N : Nat} {w wx wy : World} {k : Int} {t : ByteArray} {m : Int} {b : ByteArray} {x : Value} (h : EvBox N w wx k t m b x) (hb : Below wx.heap.size wx wy) : EvBox N w wy k t m b x := by
  have hlt := (Array.getElem?_eq_some_iff.1 h.box).1
  exact ⟨h.bel.trans (hb.mono (by omega)), (hb.block N hlt).trans h.box⟩
theorem catted (a b : ByteArray) (l r : List UInt8) (ha : Hid (a.data.toList = l)) (hb : b.data.toList = r) (h : l.length + r.length ≤ 1000000) : ∃ S : ByteArray, (∀ W : World, (Op.stringOp .add a b).run Tryz.prog W = .ok (.string S) W) ∧ Hid (S.data.toList = l ++ r) := by
  refine ⟨a ++ b, fun W => run_string_add_sum W a b ?_, ?_⟩
  · have h1 : a.size = l.length := by rw [← ha.out]; simp
    have h2 : b.size = r.length := by rw [← hb]; simp
    omega
  · show (a ++ b).data.toList = l ++ r
    rw [← ha.out, ← hb]; simp
theorem bytes_mk (l : List UInt8) : (⟨l.toArray⟩ : ByteArray).data.toList = l := by simp
end Go.Proofs.YtdjllnhahhjgmaaGreat
namespace Go.Proofs.YtdjllnhahhjgmaaGreat
open Go.RowKit Chron
/- an event, and where its tags lie -/
structure Item where
  ev : Ev
  at' : Option Addr
  cap : Nat
def Item.val (i : Item) : Value := .agg #[.int .i64 i.ev.kind, .string i.ev.task, .int .i64 i.ev.time, .string i.ev.body, .slice i.at' i.ev.tags.length i.cap]
structure ItemOk (w : World) (i : Item) : Prop where
  tags : TagsAt w i.at' i.ev.tags
  short : Short i.ev.tags
  few : i.ev.tags.length * 16 ≤ 140737488351232
  task : i.ev.task.size ≤ maxLen
  body : i.ev.body.size ≤ maxLen
structure CellsAt (w : World) (b o : Nat) (i : Item) : Prop where
  c0 : w.cell? ⟨b, o, none⟩ = some (.int .i64 i.ev.kind)
  c1 : w.cell? ⟨b, o + 1, none⟩ = some (.string i.ev.task)
  c2 : w.cell? ⟨b, o + 2, none⟩ = some (.int .i64 i.ev.time)
  c3 : w.cell? ⟨b, o + 3, none⟩ = some (.string i.ev.body)
  c4 : w.cell? ⟨b, o + 4, none⟩ = some (.slice i.at' i.ev.tags.length i.cap)
def EvsAt (w : World) (a : Option Addr) (l : List Item) : Prop :=
  0 < l.length → ∃ b off, a = some ⟨b, off, none⟩ ∧ ∀ k i, l[k]? = some i → CellsAt w b (off + k * 5) i ∧ ItemOk w i
def evs (l : List Item) : List Ev := l.map (·.ev)
theorem ItemOk.below {w w' : World} {i : Item} {B : Nat} (h : ItemOk w i) (hb : Below B w w') (hB : w.heap.size ≤ B) : ItemOk w' i := ⟨h.tags.below hb hB, h.short, h.few, h.task, h.body⟩
theorem CellsAt.below {w w' : World} {b o : Nat} {i : Item} {B : Nat} (h : CellsAt w b o i) (hb : Below B w w') (hB : w.heap.size ≤ B) : CellsAt w' b o i := by
  have hlt := Nat.lt_of_lt_of_le (World.block_lt_of_cell? w _ h.c0) hB
  exact ⟨(hb.cell (p := ⟨b, o, none⟩) hlt).trans h.c0, (hb.cell (p := ⟨b, o + 1, none⟩) hlt).trans h.c1, (hb.cell (p := ⟨b, o + 2, none⟩) hlt).trans h.c2, (hb.cell (p := ⟨b, o + 3, none⟩) hlt).trans h.c3, (hb.cell (p := ⟨b, o + 4, none⟩) hlt).trans h.c4⟩
theorem EvsAt.below {w w' : World} {a : Option Addr} {l : List Item} {B : Nat} (h : EvsAt w a l) (hb : Below B w w') (hB : w.heap.size ≤ B) : EvsAt w' a l := by
  intro h0
  obtain ⟨b, off, rfl, hc⟩ := h h0
  exact ⟨b, off, rfl, fun k i hi => ⟨(hc k i hi).1.below hb hB, (hc k i hi).2.below hb hB⟩⟩
end Go.Proofs.YtdjllnhahhjgmaaGreat
namespace Go.Proofs.YtdjllnhahhjgmaaGreat
open Go.RowKit Chron
def told (l : List Item) : List (List UInt8) := (evs l).map tellB
theorem told_len (l : List Item) : (told l).length = l.length := by simp [told, evs]
theorem told_short {l : List Item} (h : ∀ x ∈ evs l, isB x = true) : ∀ x ∈ told l, x.length ≤ 1000 := by
  intro x hx
  simp only [told, List.mem_map] at hx
  obtain ⟨e, he, rfl⟩ := hx
  exact tell_len (h e he)
theorem told_cut {l : List Item} (h : ∀ x ∈ evs l, isB x = true) (hn : l.length ≤ 200) (k : Nat) : (91 :: jn ((told l).take k) : List UInt8).length ≤ 200300 := by
  have h1 := jn_len (l := (told l).take k) (m := 1000) (fun y hy => told_short h y (List.mem_of_mem_take hy))
  rw [List.length_take, told_len] at h1
  have h2 : min k l.length * 1001 ≤ 200 * 1001 := Nat.mul_le_mul_right _ (by omega)
  simp only [List.length_cons]
  omega
theorem expB_told {l : List Item} (hn : l.length ≤ 200) (h : ∀ x ∈ evs l, isB x = true) : expB (evs l) = (listB (told l), 0) := by
  rw [expB, if_neg (by simp [evs]; omega), if_pos (by rw [List.all_eq_true]; exact h)]; rfl
theorem expB_zero {l : List Item} (h : (expB (evs l)).2 = 0) : l.length ≤ 200 ∧ ∀ x ∈ evs l, isB x = true := by
  rw [expB] at h
  split at h
  · simp at h
  · split at h
    · rename_i h1 h2
      exact ⟨by simp [evs] at h1; omega, by rwa [List.all_eq_true] at h2⟩
    · simp at h
theorem expB_none {l : List Item} (h : ¬ (expB (evs l)).2 = 0) : (expB (evs l)).1 = [] := by
  rw [expB] at h ⊢
  split
  · rfl
  · split
    · rename_i h1 h2; simp [h1, h2] at h
    · rfl
end Go.Proofs.YtdjllnhahhjgmaaGreat
namespace Go.Proofs.YtdjllnhahhjgmaaGreat
open Go.RowKit Chron
theorem cut_one (s : ByteArray) (k : Nat) (h : k < s.size) : (s.data.toList.drop k).take 1 = [s[k]] := by
  have hl : k < s.data.toList.length := by simpa using h
  rw [List.drop_eq_getElem_cons hl]; rfl
def wordCells : Array Value := #[.string ⟨#[98, 101, 103, 117, 110]⟩, .string ⟨#[100, 111, 110, 101]⟩, .string ⟨#[102, 97, 105, 108, 101, 100]⟩, .string ⟨#[110, 111, 116, 101, 100]⟩]
end Go.Proofs.YtdjllnhahhjgmaaGreat
namespace Go.Proofs.YtdjllnhahhjgmaaGreat
open Go.RowKit Chron
theorem held_mono {P : Program} {md : Region.Mode} {ops : Array Oper} {Q : Exit → Act → World → Prop} {S T : World → Prop} (h : ∀ w, T w → S w) : ∀ (fuel : Nat) (listed : Array Bool) (a : Act) (w : World), wpAnyH P md ops Q T fuel listed a w → wpAnyH P md ops Q S fuel listed a w
  | 0, _, _, _, H => H
  | fuel + 1, _, _, _, H => ⟨H.1, fun i hi => wpOp_mono (fun a' w' h' => ⟨h w' h'.1, held_mono h fuel _ a' w' h'.2⟩) (H.2 i hi)⟩
theorem word_cell (X : World) {i : Nat} {k : Int} (hk : (i : Int) + 1 = k) (hi : i < 4) : (X.alloc (.cells #[.string ⟨#[98, 101, 103, 117, 110]⟩, .string ⟨#[100, 111, 110, 101]⟩, .string ⟨#[102, 97, 105, 108, 101, 100]⟩, .string ⟨#[110, 111, 116, 101, 100]⟩] 9)).cell? ⟨X.heap.size, i, none⟩ = some (.string ⟨(wordB k).toArray⟩) := by
  subst hk
  have hh := heap_alloc_new X (.cells #[.string ⟨#[98, 101, 103, 117, 110]⟩, .string ⟨#[100, 111, 110, 101]⟩, .string ⟨#[102, 97, 105, 108, 101, 100]⟩, .string ⟨#[110, 111, 116, 101, 100]⟩] 9)
  have h4 : i = 0 ∨ i = 1 ∨ i = 2 ∨ i = 3 := by omega
  rcases h4 with rfl | rfl | rfl | rfl <;> (simp only [World.cell?, hh]; rfl)
end Go.Proofs.YtdjllnhahhjgmaaGreat
namespace Go.Proofs.YtdjllnhahhjgmaaGreat
open Go.RowKit Chron
def badBd : ByteArray := ⟨#[116, 104, 101, 32, 99, 97, 108, 108, 101, 114, 39, 115]⟩
def badE : Ev := ⟨-1000, ⟨#[]⟩, 0, badBd, []⟩
def badI : Item := ⟨badE, none, 0⟩
set_option maxRecDepth 100000 in
set_option maxHeartbeats 400000 in
theorem badEvent_zero (w : World) : Calls Tryz.prog 20 #[.int .i64 0] w fun e w' => e = .returned (.agg #[.int .i64 (-1000), .string ⟨#[]⟩, .int .i64 0, .string badBd, .slice none 0 0]) ∧ Below w.heap.size w w' := by
  go_enter Tryz.func20, Tryz.ntmps20
  go_wp2
  obtain ⟨c0, c1, c2, c3, c4, _⟩ := res_cells (heap_alloc_new w (.cells #[.int .i64 (-1000), .string ⟨#[]⟩, .int .i64 0, .string ⟨#[116, 104, 101, 32, 99, 97, 108, 108, 101, 114, 39, 115]⟩, .slice none 0 0] 38))
  refine bodyPost_ret (v := .agg #[.int .i64 (-1000), .string ⟨#[]⟩, .int .i64 0, .string badBd, .slice none 0 0]) (by simp [results, Tryz.results20, go_sem, c0, c1, c2, c3, c4, badBd]) rfl ⟨rfl, (Below.refl _ _).alloc (Nat.le_refl _) _⟩
set_option maxRecDepth 100000 in
set_option maxHeartbeats 1000000 in
theorem sameAll_any (a1 a2 : Option Addr) (cap1 cap2 : Nat) (l1 l2 : List Item) (w : World) (h1 : Hid (EvsAt w a1 l1)) (h2 : Hid (EvsAt w a2 l2)) (he : Hid (evs l1 = evs l2)) (hn : l1.length * 72 ≤ 140737488355328) :
    Calls Tryz.prog 46 #[.slice a1 l1.length cap1, .slice a2 l2.length cap2] w fun e w' => e = .returned (.bool true) ∧ Below w.heap.size w w' := by
  have hlen : l1.length = l2.length := by have := congrArg List.length he.out; simpa [evs] using this
  rw [← hlen]
  have HLE := hide0 hlen
  clear hlen
  go_enter Tryz.func46, Tryz.ntmps46
  go_wp2
  go_loopw [5] (fun i wx => ∃ k : Nat, k ≤ l1.length ∧ i = .int .i64 k ∧ Hid (Below w.heap.size w wx)) (fun i _ => l1.length - (intOf i).toNat)
  case atStart => exact ⟨0, Nat.zero_le _, rfl, Below.refl _ _⟩
  case round =>
    obtain ⟨k, hk, rfl, HW⟩ := hrel
    by_cases hlt : k < l1.length
    · obtain ⟨b1, o1, rfl, hc1⟩ := h1.out.below HW.out (Nat.le_refl _) (by omega)
      obtain ⟨b2, o2, rfl, hc2⟩ := h2.out.below HW.out (Nat.le_refl _) (by have := HLE.out; omega)
      obtain ⟨⟨⟨kd, tk, tm, bd, ts⟩, ta, tc⟩, hx⟩ : ∃ x, l1[k]? = some x := ⟨_, List.getElem?_eq_getElem hlt⟩
      obtain ⟨⟨ev, ta2, tc2⟩, hy⟩ : ∃ x, l2[k]? = some x := ⟨_, List.getElem?_eq_getElem (by rw [← HLE.out]; exact hlt)⟩
      have hev : ev = ⟨kd, tk, tm, bd, ts⟩ := by
        have := congrArg (fun l => l[k]?) he.out
        simp only [evs, List.getElem?_map, hx, hy, Option.map_some, Option.some.injEq] at this
        exact this.symm
      subst hev
      obtain ⟨⟨c0, c1, c2, c3, c4⟩, hok⟩ := hc1 k _ hx
      obtain ⟨⟨d0, d1, d2, d3, d4⟩, hok2⟩ := hc2 k _ hy
      simp only at c0 c1 c2 c3 c4 d0 d1 d2 d3 d4
      have HOK := hide0 hok
      have HOK2 := hide0 hok2
      have hki : (k : Int) < (l1.length : Int) := by omega
      have hS := same_law ⟨kd, tk, tm, bd, ts⟩ ⟨kd, tk, tm, bd, ts⟩ ta ta2 tc tc2 wr.drew HOK.out.tags HOK2.out.tags (by have := HOK.out.few; unfold maxLen; simp only at this ⊢; omega) (by have := HOK.out.few; unfold maxLen; simp only at this ⊢; omega)
      simp only [evVal, (sameEv_iff (e := ⟨kd, tk, tm, bd, ts⟩) (f := ⟨kd, tk, tm, bd, ts⟩)).2 rfl] at hS
      have lt1 : b1 < wr.drew.heap.size := World.block_lt_of_cell? wr _ c0
      have lt2 : b2 < wr.drew.heap.size := World.block_lt_of_cell? wr _ d0
      have hsz := HW.out.size
      clear hc1 hc2 hok hok2 hx hy
      go_wp2_with fail
      go_region_held (fun w' => w'.cell? ⟨b1, o1 + k * 5, none⟩ = some (.int .i64 kd) ∧ w'.cell? ⟨b1, o1 + k * 5 + 1, none⟩ = some (.string tk) ∧ w'.cell? ⟨b1, o1 + k * 5 + 2, none⟩ = some (.int .i64 tm) ∧ w'.cell? ⟨b1, o1 + k * 5 + 3, none⟩ = some (.string bd) ∧ w'.cell? ⟨b1, o1 + k * 5 + 4, none⟩ = some (.slice ta ts.length tc) ∧ w'.cell? ⟨b2, o2 + k * 5, none⟩ = some (.int .i64 kd) ∧ w'.cell? ⟨b2, o2 + k * 5 + 1, none⟩ = some (.string tk) ∧ w'.cell? ⟨b2, o2 + k * 5 + 2, none⟩ = some (.int .i64 tm) ∧ w'.cell? ⟨b2, o2 + k * 5 + 3, none⟩ = some (.string bd) ∧ w'.cell? ⟨b2, o2 + k * 5 + 4, none⟩ = some (.slice ta2 ts.length tc2)) (go_keep)
        (first | (go_at_call 19; refine hS.mono ?_; rintro e w1 ⟨rfl, hb1⟩; have p0 := (hb1.cell (p := ⟨b1, o1 + k * 5, none⟩) lt1).trans c0; have p1 := (hb1.cell (p := ⟨b1, o1 + k * 5 + 1, none⟩) lt1).trans c1; have p2 := (hb1.cell (p := ⟨b1, o1 + k * 5 + 2, none⟩) lt1).trans c2; have p3 := (hb1.cell (p := ⟨b1, o1 + k * 5 + 3, none⟩) lt1).trans c3; have p4 := (hb1.cell (p := ⟨b1, o1 + k * 5 + 4, none⟩) lt1).trans c4; have q0 := (hb1.cell (p := ⟨b2, o2 + k * 5, none⟩) lt2).trans d0; have q1 := (hb1.cell (p := ⟨b2, o2 + k * 5 + 1, none⟩) lt2).trans d1; have q2 := (hb1.cell (p := ⟨b2, o2 + k * 5 + 2, none⟩) lt2).trans d2; have q3 := (hb1.cell (p := ⟨b2, o2 + k * 5 + 3, none⟩) lt2).trans d3; have q4 := (hb1.cell (p := ⟨b2, o2 + k * 5 + 4, none⟩) lt2).trans d4))
      all_goals
        have HW1 := hide0 (HW.out.drew.trans (hb1.mono (by show w.heap.size ≤ wr.heap.size; exact hsz)))
        clear hb1 p0 p1 p2 p3 p4 q0 q1 q2 q3 q4 c0 c1 c2 c3 c4 d0 d1 d2 d3 d4 hS
        go_wp2
        go_roundw
        case rel => exact ⟨k + 1, by omega, by go_num, HW1⟩
        case measure => simp [intOf]; omega
    · go_wp2
      go_ret
      exact ⟨rfl, HW.out⟩
end Go.Proofs.YtdjllnhahhjgmaaGreat
namespace Go.Proofs.YtdjllnhahhjgmaaGreat
open Go.RowKit Chron
set_option maxRecDepth 100000 in
set_option maxHeartbeats 2000000 in
theorem kept_any (b G n : Nat) (tv cv : Value) (a : Option Addr) (cap : Nat) (ls : List (Nat × Nat)) (its l : List Item) (w : World)
    (HL : Hid (LoanAt b tv cv (.slice (some ⟨G, 0, none⟩) (n + 8) (n + 8)) (.int .i64 n) (.slice a n cap) ls.length (lentV ls) ls.length (lentN ls) w)) (HK : Hid (LentOk ls w)) (hl : ls.length * 24 ≤ 140737488355328)
    (hn : n * 72 ≤ 140737488351232) (HE : Hid (EvsAt w (some ⟨G, 0, none⟩) its)) (hin : its.length = n) (HB : Hid (∀ k, n ≤ k → k < n + 8 → CellsAt w G (k * 5) badI)) (HA : Hid (EvsAt w a l)) (hln : l.length = n) (heq : Hid (evs its = evs l)) :
    Calls Tryz.prog 28 #[.pointer (some ⟨b, 0, none⟩)] w fun e w' => e = .returned (.bool true) ∧ Below w.heap.size w w' := by
  obtain ⟨d0, d1, d2, d3, d4, df⟩ := res_cells HL.out.blk
  obtain ⟨ta, tc, rfl, htc, _, hT⟩ := row_at HL.out.tags
  obtain ⟨ca, cc, rfl, hcc, _, hC⟩ := row_at HL.out.counts
  have HT := hide0 hT
  have HC := hide0 hC
  clear hT hC
  go_enter Tryz.func28, Tryz.ntmps28
  go_wp2
  go_loopw [3] (fun i wx => ∃ k nq : Nat, k ≤ ls.length ∧ i = .int .i64 k ∧ wx = w.drewN nq) (fun i _ => ls.length - (intOf i).toNat)
  case atStart => exact ⟨0, 0, Nat.zero_le _, rfl, rfl⟩
  case round =>
    obtain ⟨k, nq, hk, rfl, rfl⟩ := hrel
    by_cases hlt : k < ls.length
    · obtain ⟨M, n', hMn⟩ : ∃ M n, ls[k]? = some (M, n) := ⟨ls[k].1, ls[k].2, by simp [hlt]⟩
      obtain ⟨g1, rfl, c1⟩ := HT.out k (.slice (some ⟨M, 0, none⟩) (n' + 8) (n' + 8)) (by simp [lentV, hMn])
      obtain ⟨g2, rfl, c2⟩ := HC.out k (.int .i64 n') (by simp [lentN, hMn])
      obtain ⟨hn', hcells⟩ := HK.out k M n' hMn
      have HCL := hide0 hcells
      have hki : (k : Int) < (ls.length : Int) := by omega
      clear hMn hcells
      go_wp2
      go_loopw [4] (fun i wx => ∃ p nq : Nat, n' ≤ p ∧ p ≤ n' + 8 ∧ i = .int .i64 p ∧ wx = w.drewN nq) (fun i _ => n' + 8 - (intOf i).toNat)
      case atStart => exact ⟨n', nq, Nat.le_refl _, by omega, rfl, rfl⟩
      case round =>
        obtain ⟨p, nq', hp1, hp2, rfl, rfl⟩ := hrel
        by_cases hq : p < n' + 8
        · have cq := HCL.out p hp1 hq
          have hpi : (p : Int) < (n' : Int) + 8 := by omega
          have hbb : (badT.toList == badT.toList) = true := by simp
          go_wp2_with fail
          go_quiet (first | (go_at_call 18; refine quiet_more (badTag_zero _)))
          go_wp2
          go_roundw
          case rel => exact ⟨p + 1, _, by omega, by omega, by go_num, rfl⟩
          case measure => simp [intOf]; omega
        · have hpi : (n' : Int) + 8 ≤ (p : Int) := by omega
          go_wp2
          go_roundw
          case rel => exact ⟨k + 1, nq', by omega, by go_num, rfl⟩
          case measure => simp [intOf]; omega
    · have hki : (ls.length : Int) ≤ (k : Int) := by omega
      go_wp2
      go_loopw [5] (fun i wx => ∃ p : Nat, n ≤ p ∧ p ≤ n + 8 ∧ i = .int .i64 p ∧ Hid (Below w.heap.size w wx)) (fun i _ => n + 8 - (intOf i).toNat)
      case atStart => exact ⟨n, Nat.le_refl _, by omega, rfl, below_drewN (Below.refl _ _) nq⟩
      case round =>
        obtain ⟨p, hp1, hp2, rfl, HW⟩ := hrel
        have HLw : Hid (LoanAt b (.slice ta ls.length tc) (.slice ca ls.length cc) (.slice (some ⟨G, 0, none⟩) (n + 8) (n + 8)) (.int .i64 n) (.slice a n cap) ls.length (lentV ls) ls.length (lentN ls) wr) := HL.out.kept HW.out (Nat.le_refl _)
        obtain ⟨f0, f1, f2, f3, f4, ff⟩ := res_cells HLw.out.blk
        have hsz := HW.out.size
        by_cases hq : p < n + 8
        · obtain ⟨c0, c1, c2, c3, c4⟩ := (HB.out p hp1 hq).below HW.out (Nat.le_refl _)
          simp only [badI, badE, List.length_nil] at c0 c1 c2 c3 c4
          have hpi : (p : Int) < (n : Int) + 8 := by omega
          have hcells : ∀ X, Below w.heap.size w X → X.cell? ⟨b, 2, none⟩ = some (.slice (some ⟨G, 0, none⟩) (n + 8) (n + 8)) ∧ X.cell? ⟨G, p * 5, none⟩ = some (.int .i64 (-1000)) ∧ X.cell? ⟨G, p * 5 + 1, none⟩ = some (.string ⟨#[]⟩) ∧ X.cell? ⟨G, p * 5 + 2, none⟩ = some (.int .i64 0) ∧ X.cell? ⟨G, p * 5 + 3, none⟩ = some (.string badBd) ∧ X.cell? ⟨G, p * 5 + 4, none⟩ = some (.slice none 0 0) := by
            intro X hX
            obtain ⟨_, _, e2, _, _, _⟩ := res_cells (HL.out.kept hX (Nat.le_refl _)).blk
            obtain ⟨c0, c1, c2, c3, c4⟩ := (HB.out p hp1 hq).below hX (Nat.le_refl _)
            exact ⟨e2, c0, c1, c2, c3, c4⟩
          have hBE : ∀ X, Hid (Below w.heap.size w X) → Calls Tryz.prog 20 #[.int .i64 0] X fun e X' => e = .returned (.agg #[.int .i64 (-1000), .string ⟨#[]⟩, .int .i64 0, .string badBd, .slice none 0 0]) ∧ Hid (Below w.heap.size w X') ∧ X'.cell? ⟨b, 2, none⟩ = some (.slice (some ⟨G, 0, none⟩) (n + 8) (n + 8)) ∧ X'.cell? ⟨G, p * 5, none⟩ = some (.int .i64 (-1000)) ∧ X'.cell? ⟨G, p * 5 + 1, none⟩ = some (.string ⟨#[]⟩) ∧ X'.cell? ⟨G, p * 5 + 2, none⟩ = some (.int .i64 0) ∧ X'.cell? ⟨G, p * 5 + 3, none⟩ = some (.string badBd) ∧ X'.cell? ⟨G, p * 5 + 4, none⟩ = some (.slice none 0 0) := by
            intro X hX
            refine (badEvent_zero X).mono ?_
            rintro e X' ⟨rfl, hb⟩
            have h2 := hX.out.trans (hb.mono hX.out.size)
            exact ⟨rfl, h2, hcells _ h2⟩
          have hSM : ∀ X, Hid (Below w.heap.size w X) → Calls Tryz.prog 19 #[.agg #[.int .i64 (-1000), .string ⟨#[]⟩, .int .i64 0, .string badBd, .slice none 0 0], .agg #[.int .i64 (-1000), .string ⟨#[]⟩, .int .i64 0, .string badBd, .slice none 0 0]] X fun e X' => e = .returned (.bool true) ∧ Hid (Below w.heap.size w X') ∧ X'.cell? ⟨b, 2, none⟩ = some (.slice (some ⟨G, 0, none⟩) (n + 8) (n + 8)) ∧ X'.cell? ⟨G, p * 5, none⟩ = some (.int .i64 (-1000)) ∧ X'.cell? ⟨G, p * 5 + 1, none⟩ = some (.string ⟨#[]⟩) ∧ X'.cell? ⟨G, p * 5 + 2, none⟩ = some (.int .i64 0) ∧ X'.cell? ⟨G, p * 5 + 3, none⟩ = some (.string badBd) ∧ X'.cell? ⟨G, p * 5 + 4, none⟩ = some (.slice none 0 0) := by
            intro X hX
            have hS := same_law badE badE none none 0 0 X (fun h => by cases h) (fun h => by cases h) (by decide) (by decide)
            rw [(sameEv_iff (e := badE) (f := badE)).2 rfl] at hS
            refine Calls.mono hS ?_
            rintro e X' ⟨rfl, hb⟩
            have h2 := hX.out.trans (hb.mono hX.out.size)
            exact ⟨rfl, h2, hcells _ h2⟩
          have HWd : Hid (Below w.heap.size w wr.drew) := HW.out.drew
          clear hcells
          go_wp2_with fail
          go_region_held (fun X => X.cell? ⟨b, 2, none⟩ = some (.slice (some ⟨G, 0, none⟩) (n + 8) (n + 8)) ∧ X.cell? ⟨G, p * 5, none⟩ = some (.int .i64 (-1000)) ∧ X.cell? ⟨G, p * 5 + 1, none⟩ = some (.string ⟨#[]⟩) ∧ X.cell? ⟨G, p * 5 + 2, none⟩ = some (.int .i64 0) ∧ X.cell? ⟨G, p * 5 + 3, none⟩ = some (.string badBd) ∧ X.cell? ⟨G, p * 5 + 4, none⟩ = some (.slice none 0 0)) (go_keep)
            (first
              | (go_at_call 20; refine (hBE _ (by first | assumption | exact HWd)).mono ?_; rintro e w1 ⟨rfl, HW1, q0, q1, q2, q3, q4, q5⟩)
              | (go_at_call 19; refine (hSM _ (by first | assumption | exact HWd)).mono ?_; rintro e w2 ⟨rfl, HW2, r0, r1, r2, r3, r4, r5⟩))
          all_goals
            clear q0 q1 q2 q3 q4 q5 r0 r1 r2 r3 r4 r5 c0 c1 c2 c3 c4 f0 f1 f2 f3 f4 ff
            go_wp2
            go_roundw
            case rel => exact ⟨p + 1, by omega, by omega, by go_num, HW2⟩
            case measure => simp [intOf]; omega
        · have hpi : (n : Int) + 8 ≤ (p : Int) := by omega
          have hsl : (n : Int) ≤ (n : Int) + 8 := by omega
          have hcells : ∀ X, Below w.heap.size w X → X.cell? ⟨b, 2, none⟩ = some (.slice (some ⟨G, 0, none⟩) (n + 8) (n + 8)) ∧ X.cell? ⟨b, 3, none⟩ = some (.int .i64 n) ∧ X.cell? ⟨b, 4, none⟩ = some (.slice a n cap) := by
            intro X hX
            obtain ⟨_, _, e2, e3, e4, _⟩ := res_cells (HL.out.kept hX (Nat.le_refl _)).blk
            exact ⟨e2, e3, e4⟩
          have hSA : ∀ X, Hid (Below w.heap.size w X) → Calls Tryz.prog 46 #[.slice (some ⟨G, 0, none⟩) n (n + 8), .slice a n cap] X fun e X' => e = .returned (.bool true) ∧ Hid (Below w.heap.size w X') ∧ X'.cell? ⟨b, 2, none⟩ = some (.slice (some ⟨G, 0, none⟩) (n + 8) (n + 8)) ∧ X'.cell? ⟨b, 3, none⟩ = some (.int .i64 n) ∧ X'.cell? ⟨b, 4, none⟩ = some (.slice a n cap) := by
            intro X hX
            have hS := sameAll_any (some ⟨G, 0, none⟩) a (n + 8) cap its l X (HE.out.below hX.out (Nat.le_refl _)) (HA.out.below hX.out (Nat.le_refl _)) heq (by omega)
            rw [hin, hln] at hS
            refine hS.mono ?_
            rintro e X' ⟨rfl, hb⟩
            have h2 := hX.out.trans (hb.mono hX.out.size)
            exact ⟨rfl, h2, hcells _ h2⟩
          have HWd : Hid (Below w.heap.size w wr.drew) := HW.out.drew
          clear hcells
          go_wp2_with fail
          go_region_held (fun X => X.cell? ⟨b, 2, none⟩ = some (.slice (some ⟨G, 0, none⟩) (n + 8) (n + 8)) ∧ X.cell? ⟨b, 3, none⟩ = some (.int .i64 n) ∧ X.cell? ⟨b, 4, none⟩ = some (.slice a n cap)) (go_keep)
            (first
              | (go_at_call 46; refine (hSA _ (by first | assumption | exact HWd)).mono ?_; rintro e w2 ⟨rfl, HW2, r0, r1, r2⟩))
          all_goals
            go_wp2
            go_ret
            exact ⟨rfl, HW2.out⟩
end Go.Proofs.YtdjllnhahhjgmaaGreat
namespace Go.Proofs.YtdjllnhahhjgmaaGreat
open Go.RowKit Chron
structure RowIt (cur : Array Value) (o : Nat) (i : Item) : Prop where
  c0 : cur[o]? = some (.int .i64 i.ev.kind)
  c1 : cur[o + 1]? = some (.string i.ev.task)
  c2 : cur[o + 2]? = some (.int .i64 i.ev.time)
  c3 : cur[o + 3]? = some (.string i.ev.body)
  c4 : cur[o + 4]? = some (.slice i.at' i.ev.tags.length i.cap)
theorem RowIt.cells {w : World} {G o : Nat} {cur : Array Value} {t : TypeId} {fr : Nat × Nat} {i : Item} (h : RowIt cur o i) (hg : w.heap[G]? = some (.cells cur t fr)) : CellsAt w G o i :=
  ⟨by simpa [World.cell?, hg] using h.c0, by simpa [World.cell?, hg] using h.c1, by simpa [World.cell?, hg] using h.c2, by simpa [World.cell?, hg] using h.c3, by simpa [World.cell?, hg] using h.c4⟩
def set5 (w : World) (G o : Nat) (x0 x1 x2 x3 x4 : Value) : World := ((((w.setCell ⟨G, o, none⟩ x0).setCell ⟨G, o + 1, none⟩ x1).setCell ⟨G, o + 2, none⟩ x2).setCell ⟨G, o + 3, none⟩ x3).setCell ⟨G, o + 4, none⟩ x4
theorem set5_other {w : World} {G o q : Nat} {x0 x1 x2 x3 x4 : Value} (h : q ≠ G) : (set5 w G o x0 x1 x2 x3 x4).heap[q]? = w.heap[q]? := by
  unfold set5
  rw [Below.heap_setCell _ _ _ _ h, Below.heap_setCell _ _ _ _ h, Below.heap_setCell _ _ _ _ h, Below.heap_setCell _ _ _ _ h, Below.heap_setCell _ _ _ _ h]
theorem set1_heap {w : World} {G o : Nat} {cur : Array Value} {t : TypeId} {fr : Nat × Nat} {u : Value} (h : w.heap[G]? = some (.cells cur t fr)) : (w.setCell ⟨G, o, none⟩ u).heap[G]? = some (.cells (cur.setIfInBounds o u) t fr) := by
  rw [setCell_eq_setRow w G o cur t fr u h, setRow_heap w G _ _ t fr h]
theorem set5_heap {w : World} {G o : Nat} {cur : Array Value} {t : TypeId} {fr : Nat × Nat} {x0 x1 x2 x3 x4 : Value} (h : w.heap[G]? = some (.cells cur t fr)) :
    (set5 w G o x0 x1 x2 x3 x4).heap[G]? = some (.cells (((((cur.setIfInBounds o x0).setIfInBounds (o + 1) x1).setIfInBounds (o + 2) x2).setIfInBounds (o + 3) x3).setIfInBounds (o + 4) x4) t fr) :=
  set1_heap (set1_heap (set1_heap (set1_heap (set1_heap h))))
theorem set5_size {w : World} {G o : Nat} {x0 x1 x2 x3 x4 : Value} : (set5 w G o x0 x1 x2 x3 x4).heap.size = w.heap.size := by simp [set5, World.setCell]
theorem set5_below {w w' : World} {B G o : Nat} {x0 x1 x2 x3 x4 : Value} (h : Below B w w') (hG : B ≤ G) : Below B w (set5 w' G o x0 x1 x2 x3 x4) :=
  ((((h.setCell (p := ⟨G, o, none⟩) hG _).setCell (p := ⟨G, o + 1, none⟩) hG _).setCell (p := ⟨G, o + 2, none⟩) hG _).setCell (p := ⟨G, o + 3, none⟩) hG _).setCell (p := ⟨G, o + 4, none⟩) hG _
theorem set5_new {cur : Array Value} {o : Nat} (h : o + 5 ≤ cur.size) (i : Item) : RowIt (((((cur.setIfInBounds o (.int .i64 i.ev.kind)).setIfInBounds (o + 1) (.string i.ev.task)).setIfInBounds (o + 2) (.int .i64 i.ev.time)).setIfInBounds (o + 3) (.string i.ev.body)).setIfInBounds (o + 4) (.slice i.at' i.ev.tags.length i.cap)) o i := by
  constructor <;> (simp [Array.getElem?_setIfInBounds]; try omega)
theorem set5_old {cur : Array Value} {o p : Nat} {i : Item} {x0 x1 x2 x3 x4 : Value} (h : RowIt cur p i) (hp : p + 5 ≤ o ∨ o + 5 ≤ p) : RowIt (((((cur.setIfInBounds o x0).setIfInBounds (o + 1) x1).setIfInBounds (o + 2) x2).setIfInBounds (o + 3) x3).setIfInBounds (o + 4) x4) p i := by
  have key : ∀ j, j < 5 → (((((cur.setIfInBounds o x0).setIfInBounds (o + 1) x1).setIfInBounds (o + 2) x2).setIfInBounds (o + 3) x3).setIfInBounds (o + 4) x4)[p + j]? = cur[p + j]? := by
    intro j hj
    rw [Array.getElem?_setIfInBounds_ne (by omega), Array.getElem?_setIfInBounds_ne (by omega), Array.getElem?_setIfInBounds_ne (by omega), Array.getElem?_setIfInBounds_ne (by omega), Array.getElem?_setIfInBounds_ne (by omega)]
  exact ⟨(key 0 (by omega)).trans h.c0, (key 1 (by omega)).trans h.c1, (key 2 (by omega)).trans h.c2, (key 3 (by omega)).trans h.c3, (key 4 (by omega)).trans h.c4⟩
/- a row of events, its first ones known -/
def EvRow (w : World) (G m : Nat) (its : List Item) : Prop := ∃ cur, w.heap[G]? = some (.cells cur 38 (0, 0)) ∧ cur.size = m * 5 ∧ ∀ k i, its[k]? = some i → RowIt cur (k * 5) i
theorem EvRow.same {w w' : World} {G m : Nat} {its : List Item} (h : EvRow w G m its) (hg : w'.heap[G]? = w.heap[G]?) : EvRow w' G m its := by
  obtain ⟨cur, h1, h2, h3⟩ := h
  exact ⟨cur, hg.trans h1, h2, h3⟩
theorem EvRow.store {w : World} {G m : Nat} {its : List Item} (h : EvRow w G m its) {p : Nat} (hp : p < m) (hl : p ≤ its.length) (i : Item) :
    EvRow (set5 w G (p * 5) (.int .i64 i.ev.kind) (.string i.ev.task) (.int .i64 i.ev.time) (.string i.ev.body) (.slice i.at' i.ev.tags.length i.cap)) G m (its.take p ++ [i]) := by
  obtain ⟨cur, h1, h2, h3⟩ := h
  have hp5 : p * 5 + 5 ≤ cur.size := by
    have : (p + 1) * 5 ≤ m * 5 := Nat.mul_le_mul_right _ hp
    omega
  refine ⟨_, set5_heap h1, by simp [h2], fun k x hk => ?_⟩
  have hlen : (its.take p).length = p := by rw [List.length_take]; omega
  rcases Nat.lt_trichotomy k p with hkp | rfl | hkp
  · rw [List.getElem?_append_left (by omega), List.getElem?_take_of_lt hkp] at hk
    exact set5_old (h3 k x hk) (.inl (by have : (k + 1) * 5 ≤ p * 5 := Nat.mul_le_mul_right _ hkp; omega))
  · rw [List.getElem?_append_right (by omega), hlen, Nat.sub_self] at hk
    simp only [List.getElem?_cons_zero, Option.some.injEq] at hk
    subst hk
    exact set5_new hp5 i
  · rw [List.getElem?_eq_none (by simp; omega)] at hk
    cases hk
theorem EvRow.there {w : World} {G m : Nat} {its : List Item} (h : EvRow w G m its) {p : Nat} (hp : p < m * 5) : ∃ x, w.cell? ⟨G, p, none⟩ = some x ∧ w.frozen? ⟨G, p, none⟩ = false := by
  obtain ⟨cur, h1, h2, _⟩ := h
  exact ⟨cur[p], by simp [World.cell?, h1, h2, hp], by simp [World.frozen?, h1]⟩
theorem EvRow.at {w : World} {G m : Nat} {its : List Item} (h : EvRow w G m its) {k : Nat} {i : Item} (hk : its[k]? = some i) : CellsAt w G (k * 5) i := by
  obtain ⟨cur, h1, _, h3⟩ := h
  exact (h3 k i hk).cells h1
/- the loan, while its lists are made -/
structure AllAt (b G n : Nat) (a : Option Addr) (cap : Nat) (l : List Item) (w0 wx : World) (tv cv : Value) (ls : List (Nat × Nat)) (its : List Item) : Prop where
  loan : LoanAt b tv cv (.slice (some ⟨G, 0, none⟩) (n + 8) (n + 8)) (.int .i64 n) (.slice a n cap) ls.length (lentV ls) ls.length (lentN ls) wx
  bel : Below b w0 wx
  row : EvRow wx G (n + 8) its
  lists : ∀ (k M c : Nat), ls[k]? = some (M, c) → ∃ e, l[k]? = some e ∧ c = e.ev.tags.length ∧ its[k]? = some ⟨e.ev, some ⟨M, 0, none⟩, c + 8⟩ ∧ wx.heap[M]? = some (.cells (lent e.ev.tags 8).toArray 9 (0, 0)) ∧ M ≠ G ∧ b < M ∧ tv.ownBlock ≠ some M ∧ cv.ownBlock ≠ some M
  bads : ∀ k, n ≤ k → k < its.length → its[k]? = some badI
  gb : b < G
  gt : tv.ownBlock ≠ some G
  gc : cv.ownBlock ≠ some G
theorem LoanAt.not_new {b : Nat} {tv cv ev nv lv : Value} {nT : Nat} {xs : List Value} {nC : Nat} {cs : List Value} {w : World} (h : LoanAt b tv cv ev nv lv nT xs nC cs w) {q : Nat} (hq : w.heap.size ≤ q) : tv.ownBlock ≠ some q ∧ cv.ownBlock ≠ some q := by
  constructor <;> intro e
  · have := (h.tags.lt q e).2; omega
  · have := (h.counts.lt q e).2; omega
theorem AllAt.store {b G n : Nat} {a : Option Addr} {cap : Nat} {l : List Item} {w0 wx : World} {tv cv : Value} {ls : List (Nat × Nat)} {its : List Item} (h : AllAt b G n a cap l w0 wx tv cv ls its) {p : Nat} (hp : p < n + 8) (hl : p ≤ its.length) (hls : ls.length ≤ p) (i : Item) (hb : n ≤ p → i = badI) :
    AllAt b G n a cap l w0 (set5 wx G (p * 5) (.int .i64 i.ev.kind) (.string i.ev.task) (.int .i64 i.ev.time) (.string i.ev.body) (.slice i.at' i.ev.tags.length i.cap)) tv cv ls (its.take p ++ [i]) := by
  have hlen : (its.take p).length = p := by rw [List.length_take]; omega
  have hgb := h.gb
  refine ⟨h.loan.same fun q hq => set5_other ?_, set5_below h.bel (by omega), h.row.store hp hl i, fun k M c hk => ?_, fun k h1 h2 => ?_, h.gb, h.gt, h.gc⟩
  · rintro rfl
    rcases hq with e | e | e
    · omega
    · exact h.gt e
    · exact h.gc e
  · obtain ⟨e, h1, h2, h3, h4, h5, h6⟩ := h.lists k M c hk
    have hkl := (List.getElem?_eq_some_iff.1 hk).1
    exact ⟨e, h1, h2, by rw [List.getElem?_append_left (by omega), List.getElem?_take_of_lt (by omega)]; exact h3, (set5_other h5).trans h4, h5, h6⟩
  · rw [List.length_append, hlen, List.length_singleton] at h2
    rcases Nat.lt_or_ge k p with hkp | hkp
    · rw [List.getElem?_append_left (by omega), List.getElem?_take_of_lt hkp]
      exact h.bads k h1 (by omega)
    · have : k = p := by omega
      subst this
      rw [List.getElem?_append_right (by omega), hlen, Nat.sub_self, hb h1]; rfl
theorem AllAt.below {b G n : Nat} {a : Option Addr} {cap : Nat} {l : List Item} {w0 wx wy : World} {tv cv : Value} {ls : List (Nat × Nat)} {its : List Item} (h : AllAt b G n a cap l w0 wx tv cv ls its) (hb : Below wx.heap.size wx wy) : AllAt b G n a cap l w0 wy tv cv ls its := by
  have hG : G < wx.heap.size := by obtain ⟨cur, h1, _⟩ := h.row; exact (Array.getElem?_eq_some_iff.1 h1).1
  have hblt := h.loan.lt
  refine ⟨h.loan.kept hb (Nat.le_refl _), h.bel.trans (hb.mono (by omega)), h.row.same (hb.block G hG), fun k M c hk => ?_, h.bads, h.gb, h.gt, h.gc⟩
  obtain ⟨e, h1, h2, h3, h4, h5⟩ := h.lists k M c hk
  exact ⟨e, h1, h2, h3, (hb.block M (Array.getElem?_eq_some_iff.1 h4).1).trans h4, h5⟩
theorem AllAt.cut {b G n : Nat} {a : Option Addr} {cap : Nat} {l : List Item} {w0 wx : World} {tv cv : Value} {ls : List (Nat × Nat)} {its : List Item} (h : AllAt b G n a cap l w0 wx tv cv ls its) {p : Nat} (hp : ls.length ≤ p) (hl : p ≤ its.length) : AllAt b G n a cap l w0 wx tv cv ls (its.take p) := by
  refine ⟨h.loan, h.bel, ?_, fun k M c hk => ?_, fun k h1 h2 => ?_, h.gb, h.gt, h.gc⟩
  · obtain ⟨cur, h1, h2, h3⟩ := h.row
    refine ⟨cur, h1, h2, fun k i hk => h3 k i ?_⟩
    have := (List.getElem?_eq_some_iff.1 hk).1
    rwa [List.getElem?_take_of_lt (by rw [List.length_take] at this; omega)] at hk
  · obtain ⟨e, h1, h2, h3, h4⟩ := h.lists k M c hk
    have hkl := (List.getElem?_eq_some_iff.1 hk).1
    exact ⟨e, h1, h2, by rw [List.getElem?_take_of_lt (by omega)]; exact h3, h4⟩
  · rw [List.length_take] at h2
    rw [List.getElem?_take_of_lt (by omega)]
    exact h.bads k h1 (by omega)
theorem AllAt.one {b G n : Nat} {a : Option Addr} {cap : Nat} {l : List Item} {w0 wx wy : World} {tv cv tv' cv' : Value} {ls : List (Nat × Nat)} {its : List Item} {M : Nat} {e : Item} (h : AllAt b G n a cap l w0 wx tv cv ls its)
    (he : l[ls.length]? = some e) (hM : wx.heap.size ≤ M) (hrow : wy.heap[M]? = some (.cells (lent e.ev.tags 8).toArray 9 (0, 0)))
    (hloan : LoanAt b tv' cv' (.slice (some ⟨G, 0, none⟩) (n + 8) (n + 8)) (.int .i64 n) (.slice a n cap) (ls.length + 1) (lentV ls ++ [.slice (some ⟨M, 0, none⟩) (e.ev.tags.length + 8) (e.ev.tags.length + 8)]) (ls.length + 1) (lentN ls ++ [.int .i64 e.ev.tags.length]) wy)
    (htv : ∀ q, tv'.ownBlock = some q → q ≠ M ∧ (tv.ownBlock = some q ∨ wx.heap.size ≤ q)) (hcv : ∀ q, cv'.ownBlock = some q → q ≠ M ∧ (cv.ownBlock = some q ∨ wx.heap.size ≤ q)) (hfar : Far wx wy [some b, tv.ownBlock, cv.ownBlock])
    (hlen : its.length = ls.length) (hn : ls.length < n) :
    EvRow wy G (n + 8) its ∧ AllAt b G n a cap l w0 (set5 wy G (ls.length * 5) (.int .i64 e.ev.kind) (.string e.ev.task) (.int .i64 e.ev.time) (.string e.ev.body) (.slice (some ⟨M, 0, none⟩) e.ev.tags.length (e.ev.tags.length + 8))) tv' cv' (ls ++ [(M, e.ev.tags.length)]) (its ++ [⟨e.ev, some ⟨M, 0, none⟩, e.ev.tags.length + 8⟩]) := by
  have hgb := h.gb
  have hG : G < wx.heap.size := by obtain ⟨cur, h1, _⟩ := h.row; exact (Array.getElem?_eq_some_iff.1 h1).1
  have hblt := h.loan.lt
  have hblk : ∀ q, q < wx.heap.size → q ≠ b → tv.ownBlock ≠ some q → cv.ownBlock ≠ some q → wy.heap[q]? = wx.heap[q]? := fun q hq h1 h2 h3 => hfar.block q hq (fun r hr e => by
    subst e
    simp only [List.mem_cons, List.mem_nil_iff, or_false, Option.some.injEq] at hr
    rcases hr with hr | hr | hr
    · exact h1 hr
    · exact h2 hr.symm
    · exact h3 hr.symm)
  have hnew : ∀ (q : Nat), q < wx.heap.size → tv.ownBlock ≠ some q → cv.ownBlock ≠ some q → tv'.ownBlock ≠ some q ∧ cv'.ownBlock ≠ some q := fun q hq h1 h2 => ⟨fun e => by
      rcases (htv q e).2 with h | h
      · exact h1 h
      · omega, fun e => by
      rcases (hcv q e).2 with h | h
      · exact h2 h
      · omega⟩
  have hr := h.row.same (hblk G hG (by omega) h.gt h.gc)
  have hst := hr.store (p := ls.length) (by omega) (by omega) ⟨e.ev, some ⟨M, 0, none⟩, e.ev.tags.length + 8⟩
  rw [← hlen, List.take_length, hlen] at hst
  refine ⟨hr, ?_, set5_below (h.bel.trans (hfar.below (by omega) (fun q hq => ?_))) (by omega), hst, fun k M' c hk => ?_, fun k h1 h2 => ?_, h.gb, (hnew G hG h.gt h.gc).1, (hnew G hG h.gt h.gc).2⟩
  · have e1 : (ls ++ [(M, e.ev.tags.length)]).length = ls.length + 1 := by simp
    have e2 : lentV (ls ++ [(M, e.ev.tags.length)]) = lentV ls ++ [.slice (some ⟨M, 0, none⟩) (e.ev.tags.length + 8) (e.ev.tags.length + 8)] := by simp [lentV]
    have e3 : lentN (ls ++ [(M, e.ev.tags.length)]) = lentN ls ++ [.int .i64 e.ev.tags.length] := by simp [lentN]
    rw [e1, e2, e3]
    refine hloan.same fun q hq => set5_other ?_
    rintro rfl
    rcases hq with e | e | e
    · omega
    · exact (hnew _ hG h.gt h.gc).1 e
    · exact (hnew _ hG h.gt h.gc).2 e
  · simp only [List.mem_cons, List.mem_nil_iff, or_false, Option.some.injEq] at hq
    rcases hq with hq | hq | hq
    · omega
    · have := (h.loan.tags.lt q hq.symm).1; omega
    · have := (h.loan.counts.lt q hq.symm).1; omega
  · rcases Nat.lt_or_ge k ls.length with hkl | hkl
    · rw [List.getElem?_append_left hkl] at hk
      obtain ⟨x, h1, h2, h3, h4, h5, h6, h7, h8⟩ := h.lists k M' c hk
      have hM' := (Array.getElem?_eq_some_iff.1 h4).1
      exact ⟨x, h1, h2, by rw [List.getElem?_append_left (by omega)]; exact h3, (set5_other h5).trans ((hblk M' hM' (by omega) h7 h8).trans h4), h5, h6, (hnew M' hM' h7 h8).1, (hnew M' hM' h7 h8).2⟩
    · have hk0 : k = ls.length := by
        have := (List.getElem?_eq_some_iff.1 hk).1
        simp at this; omega
      subst hk0
      simp only [List.getElem?_append_right (Nat.le_refl _), Nat.sub_self, List.getElem?_cons_zero, Option.some.injEq, Prod.mk.injEq] at hk
      obtain ⟨rfl, rfl⟩ := hk
      refine ⟨e, he, rfl, ?_, (set5_other (by omega)).trans hrow, by omega, by omega, fun e => (htv _ e).1 rfl, fun e => (hcv _ e).1 rfl⟩
      rw [← hlen, List.getElem?_append_right (Nat.le_refl _), Nat.sub_self]; rfl
  · rw [List.length_append, List.length_singleton] at h2
    omega
end Go.Proofs.YtdjllnhahhjgmaaGreat
namespace Go.Proofs.YtdjllnhahhjgmaaGreat
open Go.RowKit Chron
theorem infoEvent : (Tryz.prog.info? 38).map (fun i => (i.zero, i.size, i.bytes)) = some (some (.agg #[.int .i64 0, .string ⟨#[]⟩, .int .i64 0, .string ⟨#[]⟩, .slice none 0 0]), 5, 72) := by kernel_rfl
theorem own_five {w : World} {base : Nat} {g n : Nat} {xs : List Value} (h : w.ownsRow base 38 5 (.slice (some ⟨g, 0, none⟩) n n) n xs) : EvRow w g n [] := by
  rcases h.2 with ⟨h0, _⟩ | ⟨g', cap, cur, hv, hb, hg, h1, h2, h3, h4⟩
  · cases h0
  · simp only [Value.slice.injEq, Option.some.injEq, Addr.mk.injEq] at hv
    obtain ⟨⟨rfl, _⟩, _, rfl⟩ := hv
    exact ⟨cur, hg, h3, fun k i hk => by simp at hk⟩
theorem all_start {b G : Nat} {a : Option Addr} {cap : Nat} {l : List Item} {w0 w w1 : World} (_hw0 : w0.heap.size ≤ b) (HB0 : Below b w0 w) (HL : LoanAt b (.slice none 0 0) (.slice none 0 0) (.slice none 0 0) (.int .i64 0) (.slice none 0 0) 0 [] 0 [] w)
    (hG : ((w.setCell ⟨b, 4, none⟩ (.slice a l.length cap)).setCell ⟨b, 3, none⟩ (.int .i64 l.length)).heap.size = G)
    (hown : w1.ownsRow (b + 1) 38 5 (.slice (some ⟨G, 0, none⟩) (l.length + 8) (l.length + 8)) (l.length + 8) (madeCells (Value.agg #[.int .i64 0, .string ⟨#[]⟩, .int .i64 0, .string ⟨#[]⟩, .slice none 0 0]).cells ((l.length + 8) * 5)).toList)
    (hgr : ((w.setCell ⟨b, 4, none⟩ (.slice a l.length cap)).setCell ⟨b, 3, none⟩ (.int .i64 l.length)).grownBy w1 none) :
    w1.heap[b]? = some (.cells #[.slice none 0 0, .slice none 0 0, .slice none 0 0, .int .i64 l.length, .slice a l.length cap] 67) ∧
    AllAt b G l.length a cap l w0 (w1.setCell ⟨b, 2, none⟩ (.slice (some ⟨G, 0, none⟩) (l.length + 8) (l.length + 8))) (.slice none 0 0) (.slice none 0 0) [] [] := by
  have hblt := HL.lt
  rw [size_set, size_set] at hG
  have h1 := loan_set (i := 4) (u := .slice a l.length cap) HL.blk
  have h2 := loan_set (i := 3) (u := .int .i64 l.length) h1
  have h3 : w1.heap[b]? = some (.cells #[.slice none 0 0, .slice none 0 0, .slice none 0 0, .int .i64 l.length, .slice a l.length cap] 67) := by
    rw [hgr.block b (by rw [size_set, size_set]; exact hblt) (by simp)]; exact h2
  have hbel : Below b w0 w1 := Below.grown ((HB0.setCell (p := ⟨b, 4, none⟩) (Nat.le_refl _) _).setCell (p := ⟨b, 3, none⟩) (Nat.le_refl _) _) hgr (by rw [size_set, size_set]; omega) (fun q hq => by cases hq)
  refine ⟨h3, ⟨loan_set h3, World.ownsRow_nil _ _ _ _, World.ownsRow_nil _ _ _ _, fun q hq => by cases hq⟩, hbel.setCell (p := ⟨b, 2, none⟩) (Nat.le_refl _) _, (own_five hown).same (Below.heap_setCell _ _ _ _ (by show G ≠ b; omega)), fun k M c hk => by simp at hk, fun k h1 h2 => by simp at h2, by omega, by simp [Value.ownBlock], by simp [Value.ownBlock]⟩
set_option maxRecDepth 100000 in
set_option maxHeartbeats 2000000 in
theorem all_any (b : Nat) (a : Option Addr) (cap : Nat) (l : List Item) (w0 w : World) (hw0 : w0.heap.size ≤ b) (HB0 : Hid (Below b w0 w))
    (HL : Hid (LoanAt b (.slice none 0 0) (.slice none 0 0) (.slice none 0 0) (.int .i64 0) (.slice none 0 0) 0 [] 0 [] w)) (hl : Hid (EvsAt w0 a l)) (hn : l.length * 72 ≤ 140737488351232) :
    Calls Tryz.prog 25 #[.pointer (some ⟨b, 0, none⟩), .slice a l.length cap] w fun e w' =>
      ∃ G tv cv ls its, e = .returned (.slice (some ⟨G, 0, none⟩) l.length (l.length + 8)) ∧ its.length = l.length + 8 ∧ ls.length = l.length ∧ AllAt b G l.length a cap l w0 w' tv cv ls its := by
  obtain ⟨i0, hi, hz0, hz1, hz2⟩ := info_parts infoEvent
  have hb2 : i0.bytes * (l.length + 8) ≤ 281474976710656 := by rw [hz2]; omega
  have hb3 : l.length + 8 ≤ maxLen := by unfold maxLen; omega
  have hblt := HL.out.lt
  obtain ⟨d0, d1, d2, d3, d4, df⟩ := res_cells HL.out.blk
  go_enter Tryz.func25, Tryz.ntmps25
  go_wp2_with (first
    | (at_make; go_must (refine wpList_make_full _ rfl _ _ 33 rfl (b + 1) 38 i0 (.agg #[.int .i64 0, .string ⟨#[]⟩, .int .i64 0, .string ⟨#[]⟩, .slice none 0 0]) 5 Tryz.underlying33 hi hz0 hz1 .i64 .i64 _ _ (l.length + 8) rfl rfl (by simp) (by simp) hb2 hb3 (by rw [size_set, size_set]; exact hblt) ?_); intro w1 hown1 hgr1
       obtain ⟨G, hG⟩ : ∃ G, ((w.setCell ⟨b, 4, none⟩ (.slice a l.length cap)).setCell ⟨b, 3, none⟩ (.int .i64 l.length)).heap.size = G := ⟨_, rfl⟩
       rw [hG] at hown1
       try rw [hG]
       obtain ⟨hbx, hal⟩ := all_start hw0 HB0.out HL.out hG hown1 hgr1
       obtain ⟨e0, e1, e2, e3, e4, ef⟩ := res_cells hbx
       have HAL := hide0 hal
       clear hown1 hgr1 hbx hal d0 d1 d2 d3 d4 df hG))
  go_loopw [5] (fun i wx => ∃ (k : Nat) (tv cv : Value) (ls : List (Nat × Nat)) (its : List Item), k ≤ l.length + 8 ∧ i = .int .i64 k ∧ its.length = k ∧ ls.length = min k l.length ∧ Hid (AllAt b G l.length a cap l w0 wx tv cv ls its)) (fun i _ => l.length + 8 - (intOf i).toNat)
  case atStart => exact ⟨0, _, _, [], [], by omega, rfl, rfl, by simp, HAL⟩
  case round =>
    obtain ⟨k, tv, cv, ls, its, hk, rfl, hki, hls, HA⟩ := hrel
    obtain ⟨f0, f1, f2, f3, f4, ff⟩ := res_cells HA.out.loan.blk
    by_cases hlt : k < l.length + 8
    · have hkI : (k : Int) < (l.length : Int) + 8 := by omega
      have hgb : G ≠ b := by have := HA.out.gb; omega
      have hBE : Calls Tryz.prog 20 #[.int .i64 0] wr.drew fun e X => e = .returned (.agg #[.int .i64 (-1000), .string ⟨#[]⟩, .int .i64 0, .string badBd, .slice none 0 0]) ∧ Hid (AllAt b G l.length a cap l w0 X tv cv ls its) := by
        refine (badEvent_zero wr.drew).mono ?_
        rintro e X ⟨rfl, hb⟩
        exact ⟨rfl, HA.out.below ((Below.refl _ _).drew.trans hb)⟩
      go_wp2_with fail
      go_region_held (fun X => X.cell? ⟨b, 2, none⟩ = some (.slice (some ⟨G, 0, none⟩) (l.length + 8) (l.length + 8))) (go_keep)
        (first
          | (go_at_call 20; refine hBE.mono ?_; rintro e w2 ⟨rfl, HA1⟩
             have g2 := (res_cells HA1.out.loan.blk).2.2.1
             obtain ⟨y0, t0, z0⟩ := HA1.out.row.there (p := k * 5) (by omega)
             obtain ⟨y1, t1, z1⟩ := HA1.out.row.there (p := k * 5 + 1) (by omega)
             obtain ⟨y2, t2, z2⟩ := HA1.out.row.there (p := k * 5 + 2) (by omega)
             obtain ⟨y3, t3, z3⟩ := HA1.out.row.there (p := k * 5 + 3) (by omega)
             obtain ⟨y4, t4, z4⟩ := HA1.out.row.there (p := k * 5 + 4) (by omega)))
      have HA2' : Hid (AllAt b G l.length a cap l w0 (((((w2.setCell ⟨G, k * 5, none⟩ (.int .i64 (-1000))).setCell ⟨G, k * 5 + 1, none⟩ (.string ⟨#[]⟩)).setCell ⟨G, k * 5 + 2, none⟩ (.int .i64 0)).setCell ⟨G, k * 5 + 3, none⟩ (.string badBd)).setCell ⟨G, k * 5 + 4, none⟩ (.slice none 0 0)) tv cv ls (its.take k ++ [badI])) := HA1.out.store (p := k) hlt (by omega) (by omega) badI (fun _ => rfl)
      generalize (((((w2.setCell ⟨G, k * 5, none⟩ (.int .i64 (-1000))).setCell ⟨G, k * 5 + 1, none⟩ (.string ⟨#[]⟩)).setCell ⟨G, k * 5 + 2, none⟩ (.int .i64 0)).setCell ⟨G, k * 5 + 3, none⟩ (.string badBd)).setCell ⟨G, k * 5 + 4, none⟩ (.slice none 0 0)) = X at HA2' ⊢
      have HA2 := HA2'
      clear HA2' hBE HA1 t0 t1 t2 t3 t4 z0 z1 z2 z3 z4 g2 f0 f1 f2 f3 f4 ff HA
      have hl2 : (its.take k ++ [badI]).length = k + 1 := by rw [List.length_append, List.length_take]; simp; omega
      by_cases hkn : k < l.length
      · have hknI : (k : Int) < (l.length : Int) := by omega
        have hlsk : ls.length = k := by omega
        obtain ⟨b1, o1, rfl, hc1⟩ := hl.out (by omega)
        obtain ⟨⟨⟨kd, tk, tm, bd, ts⟩, ta, tc⟩, hx⟩ : ∃ x, l[k]? = some x := ⟨_, List.getElem?_eq_getElem hkn⟩
        have HC0 := hide0 (hc1 k _ hx)
        have HX := hide0 hx
        clear hc1 hx
        obtain ⟨c0, c1, c2, c3, c4⟩ := HC0.out.1.below HA2.out.bel hw0
        simp only at c0 c1 c2 c3 c4
        have HA2d : Hid (AllAt b G l.length (some ⟨b1, o1, none⟩) cap l w0 X.drew tv cv ls ((its.take k ++ [badI]).take k)) := (HA2.out.below (Below.refl _ _).drew).cut (by omega) (by omega)
        have hlen3 : ((its.take k ++ [badI]).take k).length = ls.length := by rw [List.length_take]; omega
        have hONE : Calls Tryz.prog 40 #[.pointer (some ⟨b, 0, none⟩), .agg #[.int .i64 kd, .string tk, .int .i64 tm, .string bd, .slice ta ts.length tc]] X.drew fun e Y =>
            ∃ M tv' cv', e = .returned (.agg #[.int .i64 kd, .string tk, .int .i64 tm, .string bd, .slice (some ⟨M, 0, none⟩) ts.length (ts.length + 8)]) ∧ Y.cell? ⟨b, 2, none⟩ = some (.slice (some ⟨G, 0, none⟩) (l.length + 8) (l.length + 8)) ∧ CellsAt Y b1 (o1 + k * 5) ⟨⟨kd, tk, tm, bd, ts⟩, ta, tc⟩ ∧ Hid (EvRow Y G (l.length + 8) ((its.take k ++ [badI]).take k)) ∧
              Hid (AllAt b G l.length (some ⟨b1, o1, none⟩) cap l w0 (((((Y.setCell ⟨G, k * 5, none⟩ (.int .i64 kd)).setCell ⟨G, k * 5 + 1, none⟩ (.string tk)).setCell ⟨G, k * 5 + 2, none⟩ (.int .i64 tm)).setCell ⟨G, k * 5 + 3, none⟩ (.string bd)).setCell ⟨G, k * 5 + 4, none⟩ (.slice (some ⟨M, 0, none⟩) ts.length (ts.length + 8))) tv' cv' (ls ++ [(M, ts.length)]) ((its.take k ++ [badI]).take k ++ [⟨⟨kd, tk, tm, bd, ts⟩, some ⟨M, 0, none⟩, ts.length + 8⟩])) := by
          refine (one_any b tv cv _ _ _ ls.length (lentV ls) (lentN ls) kd tk tm bd ta tc ts X.drew HA2d.out.loan (HC0.out.2.tags.below HA2d.out.bel hw0) HC0.out.2.few (by omega)).mono ?_
          rintro e Y ⟨M, tv', cv', rfl, hM, hrow, hloan, htv, hcv, hfar⟩
          obtain ⟨hR, hF⟩ := HA2d.out.one (e := ⟨⟨kd, tk, tm, bd, ts⟩, ta, tc⟩) (by rw [hlsk]; exact HX.out) hM hrow hloan htv hcv hfar hlen3 (by omega)
          rw [hlsk] at hF
          have hbelY : Below b w0 Y := by
            have hb2 := HA2d.out.loan.lt
            refine HA2d.out.bel.trans (hfar.below (by omega) (fun q hq => ?_))
            simp only [List.mem_cons, List.mem_nil_iff, or_false, Option.some.injEq] at hq
            rcases hq with hq | hq | hq
            · omega
            · have := (HA2d.out.loan.tags.lt q hq.symm).1; omega
            · have := (HA2d.out.loan.counts.lt q hq.symm).1; omega
          exact ⟨M, tv', cv', rfl, (res_cells hloan.blk).2.2.1, HC0.out.1.below hbelY hw0, hR, hF⟩
        obtain ⟨f0, f1, f2, f3, f4, ff⟩ := res_cells HA2.out.loan.blk
        have hg1 : G ≠ b1 := by
          have h1 : b1 < w0.heap.size := World.block_lt_of_cell? w0 _ HC0.out.1.c0
          have h2 := HA2.out.gb
          omega
        clear HA2d
        go_wp2_with fail
        go_region_held (fun Z => Z.cell? ⟨b, 2, none⟩ = some (.slice (some ⟨G, 0, none⟩) (l.length + 8) (l.length + 8)) ∧ Z.cell? ⟨b1, o1 + k * 5, none⟩ = some (.int .i64 kd) ∧ Z.cell? ⟨b1, o1 + k * 5 + 1, none⟩ = some (.string tk) ∧ Z.cell? ⟨b1, o1 + k * 5 + 2, none⟩ = some (.int .i64 tm) ∧ Z.cell? ⟨b1, o1 + k * 5 + 3, none⟩ = some (.string bd) ∧ Z.cell? ⟨b1, o1 + k * 5 + 4, none⟩ = some (.slice ta ts.length tc)) (go_keep)
          (first
            | (go_at_call 40; refine hONE.mono ?_; rintro e w4 ⟨M, tv', cv', rfl, g2, ⟨p0, p1, p2, p3, p4⟩, HR, HF⟩
               simp only at p0 p1 p2 p3 p4
               obtain ⟨y0, t0, z0⟩ := HR.out.there (p := k * 5) (by omega)
               obtain ⟨y1, t1, z1⟩ := HR.out.there (p := k * 5 + 1) (by omega)
               obtain ⟨y2, t2, z2⟩ := HR.out.there (p := k * 5 + 2) (by omega)
               obtain ⟨y3, t3, z3⟩ := HR.out.there (p := k * 5 + 3) (by omega)
               obtain ⟨y4, t4, z4⟩ := HR.out.there (p := k * 5 + 4) (by omega)))
        all_goals
          go_wp2
          go_roundw
          case rel => exact ⟨k + 1, tv', cv', ls ++ [(M, ts.length)], _, by omega, by go_num, by rw [List.length_append, hlen3]; simp; omega, by rw [List.length_append]; simp; omega, HF⟩
          case measure => simp [intOf]; omega
      · have hknI : (l.length : Int) ≤ (k : Int) := by omega
        go_wp2
        go_roundw
        case rel => exact ⟨k + 1, tv, cv, ls, _, by omega, by go_num, hl2, by omega, HA2⟩
        case measure => simp [intOf]; omega
    · have hkI : (l.length : Int) + 8 ≤ (k : Int) := by omega
      go_wp2
      go_ret
      exact ⟨G, tv, cv, ls, its, rfl, by omega, by omega, HA.out⟩
end Go.Proofs.YtdjllnhahhjgmaaGreat
namespace Go.Proofs.YtdjllnhahhjgmaaGreat
open Go.RowKit Chron
theorem AllAt.done {b G n : Nat} {a : Option Addr} {cap : Nat} {l : List Item} {w0 wx : World} {tv cv : Value} {ls : List (Nat × Nat)} {its : List Item} (h : AllAt b G n a cap l w0 wx tv cv ls its) (hn : l.length = n) (hi : its.length = n + 8) (hls : ls.length = n) (hl : EvsAt w0 a l) :
    EvsAt wx (some ⟨G, 0, none⟩) (its.take n) ∧ (its.take n).length = n ∧ evs (its.take n) = evs l ∧ LentOk ls wx ∧ ∀ k, n ≤ k → k < n + 8 → CellsAt wx G (k * 5) badI := by
  have hok : ∀ k e, l[k]? = some e → ItemOk w0 e := fun k e he => by
    obtain ⟨_, _, _, hc⟩ := hl (by have := (List.getElem?_eq_some_iff.1 he).1; omega)
    exact (hc k e he).2
  have hlen : (its.take n).length = n := by rw [List.length_take]; omega
  have hat : ∀ k, k < n → ∃ M e, ls[k]? = some (M, e.ev.tags.length) ∧ l[k]? = some e ∧ its[k]? = some ⟨e.ev, some ⟨M, 0, none⟩, e.ev.tags.length + 8⟩ ∧ wx.heap[M]? = some (.cells (lent e.ev.tags 8).toArray 9 (0, 0)) := by
    intro k hk
    obtain ⟨⟨M, c⟩, hM⟩ : ∃ x, ls[k]? = some x := ⟨_, List.getElem?_eq_getElem (by omega)⟩
    obtain ⟨e, h1, h2, h3, h4, _⟩ := h.lists k M c hM
    subst h2
    exact ⟨M, e, hM, h1, h3, h4⟩
  refine ⟨fun _ => ⟨G, 0, rfl, fun k i hk => ?_⟩, hlen, ?_, fun i M c hM => ?_, fun k h1 h2 => h.row.at (h.bads k h1 (by omega))⟩
  · have hkn : k < n := by have := (List.getElem?_eq_some_iff.1 hk).1; omega
    rw [List.getElem?_take_of_lt hkn] at hk
    obtain ⟨M, e, _, he, hI, hr⟩ := hat k hkn
    rw [hI] at hk
    simp only [Option.some.injEq] at hk
    subst hk
    have ho := hok k e he
    exact ⟨by rw [Nat.zero_add]; exact h.row.at hI, lent_tags hr, ho.short, ho.few, ho.task, ho.body⟩
  · apply List.ext_getElem?
    intro k
    rcases Nat.lt_or_ge k n with hk | hk
    · obtain ⟨M, e, _, he, hI, _⟩ := hat k hk
      simp only [evs, List.getElem?_map, List.getElem?_take_of_lt hk, hI, he, Option.map_some]
    · rw [List.getElem?_eq_none (by simp [evs]; omega), List.getElem?_eq_none (by simp [evs]; omega)]
  · obtain ⟨e, h1, rfl, h3, hr, _⟩ := h.lists i M c hM
    refine ⟨(hok i e h1).few, fun q g1 g2 => ?_⟩
    have : (lent e.ev.tags 8)[q]? = some (.string badT) := by
      rw [lent, List.getElem?_append_right (by simpa using g1), List.getElem?_append_left (by simp; omega), List.getElem?_replicate, if_pos (by simp; omega)]
    simpa [World.cell?, hr] using this
theorem expB_nil : expB (evs []) = ([91, 93], 0) := by decide
end Go.Proofs.YtdjllnhahhjgmaaGreat
namespace Go.Proofs.YtdjllnhahhjgmaaGreat
open Go.RowKit Chron
def badF : Nat → Nat → List UInt8
  | 0, _ => []
  | f + 1, n => if n = 0 then [] else UInt8.ofNat (65 + n % 26) :: badF f (n / 26)
def badB (n : Nat) : ByteArray := ⟨(badT.data.toList ++ badF 14 n).toArray⟩
theorem badF_len (f n : Nat) : (badF f n).length ≤ f := by
  induction f generalizing n with
  | zero => simp [badF]
  | succ f ih => unfold badF; split
                 · simp
                 · have := ih (n / 26); simp; omega
theorem badF_more {f n : Nat} (h : 0 < n) : badF (f + 1) n = UInt8.ofNat (65 + n % 26) :: badF f (n / 26) := by rw [badF, if_neg (by omega)]
theorem badF_zero (f : Nat) : badF f 0 = [] := by cases f <;> simp [badF]
theorem append_one (s : ByteArray) (c : UInt8) : (s ++ ⟨#[c]⟩ : ByteArray).data.toList = s.data.toList ++ [c] := by obtain ⟨⟨s⟩⟩ := s; simp
theorem of_65 (k : Nat) : UInt8.ofNat (65 + k % 26) = 65 + UInt8.ofNat (k % 26) := by apply UInt8.toNat_inj.1; simp
theorem wrap_26 {k n : Nat} (h : n < 26 ^ 13) (hk : k ≤ n) : wrap64 ((k : Int) / 26) = ((k / 26 : Nat) : Int) := by
  have h2 : n < 9223372036854775807 := Nat.lt_of_lt_of_le h (by decide +kernel)
  rw [Chron.wrap_small (by omega) (by omega)]; omega
theorem div_26 {k n g : Nat} (h : k < 26 ^ (g + 1) ∧ k ≤ n) : k / 26 < 26 ^ g ∧ k / 26 ≤ n := by
  obtain ⟨h1, h2⟩ := h
  rw [Nat.pow_succ] at h1
  exact ⟨Nat.div_lt_of_lt_mul (by omega), by omega⟩
theorem pos_26 {k n f : Nat} (h : k < 26 ^ f ∧ k ≤ n) (hk : 0 < k) : ∃ g, f = g + 1 := by
  rcases f with _ | g
  · have := h.1; simp at this; omega
  · exact ⟨g, rfl⟩
theorem mod_26 (k : Nat) : 0 ≤ 65 + (k : Int) % 26 ∧ 65 + (k : Int) % 26 < 256 := by omega
theorem badB_start (n : Nat) : badT.data.toList ++ badF (13 + 1) n = (badB n).data.toList := by rw [badB]
theorem badT_size : badT.size + 13 ≤ 27 := by decide
theorem small_13 {n : Nat} (h : n < 26 ^ 13) : n < 9223372036854775807 := Nat.lt_of_lt_of_le h (by decide +kernel)
theorem wrap_28 {k : Int} {n : Nat} (h : n < 26 ^ 13) (h0 : 0 ≤ k) (hk : k.toNat ≤ n) : ∃ D : Int, wrap64 (k.tdiv 26) = D ∧ 0 ≤ D ∧ Hid (D.toNat = k.toNat / 26) := by
  have h2 := small_13 h
  exact ⟨k / 26, by rw [Int.tdiv_eq_ediv_of_nonneg h0]; exact Chron.wrap_small (by omega) (by omega), by omega, by show (k / 26).toNat = _; omega⟩
set_option maxRecDepth 100000 in
set_option maxHeartbeats 400000 in
theorem badTag_any (n : Int) (w : World) (h0 : 0 ≤ n) (hn : Hid (n.toNat < 26 ^ 13)) :
    Calls Tryz.prog 18 #[.int .i64 n] w fun e w' => e = .returned (.string (badB n.toNat)) ∧ Below w.heap.size w w' := by
  go_enter Tryz.func18, Tryz.ntmps18
  go_wp2
  go_loopw [0, 3] (fun i sv wx => ∃ (k : Int) (f : Nat) (s : ByteArray), 0 ≤ k ∧ i = .int .i64 k ∧ sv = .string s ∧ s.size + f ≤ 27 ∧ Hid (k.toNat < 26 ^ f ∧ k.toNat ≤ n.toNat) ∧ Hid (s.data.toList ++ badF (f + 1) k.toNat = (badB n.toNat).data.toList) ∧ Hid (Below w.heap.size w wx)) (fun i _ _ => (intOf i).toNat)
  case atStart => exact ⟨n, 13, badT, h0, rfl, rfl, badT_size, ⟨hn, Nat.le_refl _⟩, badB_start n.toNat, Below.refl _ _⟩
  case round =>
    obtain ⟨k, f, s, hk0, rfl, rfl, hf, HK, HS, HB⟩ := hrel
    by_cases hk : 0 < k
    · obtain ⟨g, rfl⟩ := pos_26 HK.out (by omega)
      obtain ⟨q, hq, hq0, hq1, HQ⟩ : ∃ q : Int, k % 26 = q ∧ 0 ≤ q ∧ q < 26 ∧ Hid (65 + k.toNat % 26 = (65 + q).toNat) := ⟨k % 26, rfl, by omega, by omega, by show 65 + k.toNat % 26 = (65 + k % 26).toNat; omega⟩
      obtain ⟨D, hD, hD0, HD⟩ := wrap_28 hn.out hk0 HK.out.2
      have hcv := conv_one (65 + q) (by omega) (by omega)
      have hsz := HB.out.size
      have HS2 := hide0 (HS.out)
      rw [badF_more (show 0 < k.toNat by omega), HQ.out, ← HD.out] at HS2
      have HD2 := hide0 (div_26 HK.out)
      rw [← HD.out] at HD2
      have HD3 : Hid (D.toNat < k.toNat) := by have := HD.out; show D.toNat < k.toNat; omega
      go_wp2
      go_roundw
      case rel =>
        refine ⟨D, g, _, hD0, by rw [hD], rfl, ?_, HD2, ?_, HB.out.alloc hsz _⟩
        · rw [ByteArray.size_append]; show s.size + 1 + g ≤ 27; omega
        · show _ = _
          rw [append_one, ← HS2.out, List.append_assoc]; rfl
      case measure => rw [hD]; exact HD3.out
    · have hk0 : k = 0 := by omega
      subst hk0
      have HE : Hid (s = badB n.toNat) := by
        apply bytes_inj; rw [← HS.out]; show _ = _ ++ badF (f + 1) 0; rw [badF_zero, List.append_nil]
      go_wp2
      go_ret
      exact ⟨ret_str HE.out, HB.out⟩
end Go.Proofs.YtdjllnhahhjgmaaGreat
