/- Walks of chroniclelaw's badEvent and sameAll. -/
import Derived.Test.YtodlcnbknjldnaaDoorJ5
namespace Go.Proofs.YtodlcnbknjldnaaDoor
open Go.RowKit Chron
def badB : ByteArray := ⟨#[116, 104, 101, 32, 99, 97, 108, 108, 101, 114, 39, 115]⟩
def badE : Ev := ⟨-1000, ⟨#[]⟩, 0, badB, []⟩
def badI : Item := ⟨badE, none, 0⟩
set_option maxRecDepth 100000 in
set_option maxHeartbeats 400000 in
theorem badEvent_zero (w : World) : Calls Tryd.prog 10 #[.int .i64 0] w fun e w' => e = .returned (.agg #[.int .i64 (-1000), .string ⟨#[]⟩, .int .i64 0, .string badB, .slice none 0 0]) ∧ Below w.heap.size w w' := by
  go_enter Tryd.func10, Tryd.ntmps10
  go_wp2
  obtain ⟨c0, c1, c2, c3, c4, _⟩ := res_cells (heap_alloc_new w (.cells #[.int .i64 (-1000), .string ⟨#[]⟩, .int .i64 0, .string ⟨#[116, 104, 101, 32, 99, 97, 108, 108, 101, 114, 39, 115]⟩, .slice none 0 0] 39))
  refine bodyPost_ret (v := .agg #[.int .i64 (-1000), .string ⟨#[]⟩, .int .i64 0, .string badB, .slice none 0 0]) (by simp [results, Tryd.results10, go_sem, c0, c1, c2, c3, c4, badB]) rfl ⟨rfl, (Below.refl _ _).alloc (Nat.le_refl _) _⟩
set_option maxRecDepth 100000 in
set_option maxHeartbeats 1000000 in
theorem sameAll_any (a1 a2 : Option Addr) (cap1 cap2 : Nat) (l1 l2 : List Item) (w : World) (h1 : Hid (EvsAt w a1 l1)) (h2 : Hid (EvsAt w a2 l2)) (he : Hid (evs l1 = evs l2)) (hn : l1.length * 72 ≤ 140737488355328) :
    Calls Tryd.prog 18 #[.slice a1 l1.length cap1, .slice a2 l2.length cap2] w fun e w' => e = .returned (.bool true) ∧ Below w.heap.size w w' := by
  have hlen : l1.length = l2.length := by have := congrArg List.length he.out; simpa [evs] using this
  rw [← hlen]
  have HLE := hide0 hlen
  clear hlen
  go_enter Tryd.func18, Tryd.ntmps18
  go_wp2
  go_loopw [5] (fun i wx => ∃ k : Nat, k ≤ l1.length ∧ i = .int .i64 k ∧ Hid (Below w.heap.size w wx)) (fun i _ => l1.length - (intOf i).toNat)
  case atStart => exact ⟨0, Nat.zero_le _, rfl, Below.refl _ _⟩
  case round =>
    obtain ⟨k, hk, rfl, HW⟩ := hrel
    by_cases hlt : k < l1.length
    · obtain ⟨b1, o1, rfl, hc1⟩ := h1.out.below HW.out (Nat.le_refl _) (by omega)
      obtain ⟨b2, o2, rfl, hc2⟩ := h2.out.below HW.out (Nat.le_refl _) (by have := HLE.out; omega)
      obtain ⟨⟨⟨kd, tk, tm, bd, ts⟩, ta, tc⟩, hx⟩ : ∃ x, l1[k]? = some x := ⟨_, List.getElem?_eq_getElem hlt⟩
      obtain ⟨⟨ev, ta2, tc2⟩, hy⟩ : ∃ x, l2[k]? = some x := ⟨_, List.getElem?_eq_getElem (by rw [← HLE.out]; exact hlt)⟩
      have hev : ev = ⟨kd, tk, tm, bd, ts⟩ := by
        have := congrArg (fun l => l[k]?) he.out
        simp only [evs, List.getElem?_map, hx, hy, Option.map_some, Option.some.injEq] at this
        exact this.symm
      subst hev
      obtain ⟨⟨c0, c1, c2, c3, c4⟩, hok⟩ := hc1 k _ hx
      obtain ⟨⟨d0, d1, d2, d3, d4⟩, hok2⟩ := hc2 k _ hy
      simp only at c0 c1 c2 c3 c4 d0 d1 d2 d3 d4
      have HOK := hide0 hok
      have HOK2 := hide0 hok2
      have hki : (k : Int) < (l1.length : Int) := by omega
      have hS := same_law ⟨kd, tk, tm, bd, ts⟩ ⟨kd, tk, tm, bd, ts⟩ ta ta2 tc tc2 wr.drew HOK.out.tags HOK2.out.tags (by have := HOK.out.few; unfold maxLen; simp only at this ⊢; omega) (by have := HOK.out.few; unfold maxLen; simp only at this ⊢; omega)
      simp only [evVal, (sameEv_iff (e := ⟨kd, tk, tm, bd, ts⟩) (f := ⟨kd, tk, tm, bd, ts⟩)).2 rfl] at hS
      have lt1 : b1 < wr.drew.heap.size := World.block_lt_of_cell? wr _ c0
      have lt2 : b2 < wr.drew.heap.size := World.block_lt_of_cell? wr _ d0
      have hsz := HW.out.size
      clear hc1 hc2 hok hok2 hx hy
      go_wp2_with fail
      go_region_held (fun w' => w'.cell? ⟨b1, o1 + k * 5, none⟩ = some (.int .i64 kd) ∧ w'.cell? ⟨b1, o1 + k * 5 + 1, none⟩ = some (.string tk) ∧ w'.cell? ⟨b1, o1 + k * 5 + 2, none⟩ = some (.int .i64 tm) ∧ w'.cell? ⟨b1, o1 + k * 5 + 3, none⟩ = some (.string bd) ∧ w'.cell? ⟨b1, o1 + k * 5 + 4, none⟩ = some (.slice ta ts.length tc) ∧ w'.cell? ⟨b2, o2 + k * 5, none⟩ = some (.int .i64 kd) ∧ w'.cell? ⟨b2, o2 + k * 5 + 1, none⟩ = some (.string tk) ∧ w'.cell? ⟨b2, o2 + k * 5 + 2, none⟩ = some (.int .i64 tm) ∧ w'.cell? ⟨b2, o2 + k * 5 + 3, none⟩ = some (.string bd) ∧ w'.cell? ⟨b2, o2 + k * 5 + 4, none⟩ = some (.slice ta2 ts.length tc2)) (go_keep)
        (first | (go_at_call 17; refine hS.mono ?_; rintro e w1 ⟨rfl, hb1⟩; have p0 := (hb1.cell (p := ⟨b1, o1 + k * 5, none⟩) lt1).trans c0; have p1 := (hb1.cell (p := ⟨b1, o1 + k * 5 + 1, none⟩) lt1).trans c1; have p2 := (hb1.cell (p := ⟨b1, o1 + k * 5 + 2, none⟩) lt1).trans c2; have p3 := (hb1.cell (p := ⟨b1, o1 + k * 5 + 3, none⟩) lt1).trans c3; have p4 := (hb1.cell (p := ⟨b1, o1 + k * 5 + 4, none⟩) lt1).trans c4; have q0 := (hb1.cell (p := ⟨b2, o2 + k * 5, none⟩) lt2).trans d0; have q1 := (hb1.cell (p := ⟨b2, o2 + k * 5 + 1, none⟩) lt2).trans d1; have q2 := (hb1.cell (p := ⟨b2, o2 + k * 5 + 2, none⟩) lt2).trans d2; have q3 := (hb1.cell (p := ⟨b2, o2 + k * 5 + 3, none⟩) lt2).trans d3; have q4 := (hb1.cell (p := ⟨b2, o2 + k * 5 + 4, none⟩) lt2).trans d4))
      all_goals
        have HW1 := hide0 (HW.out.drew.trans (hb1.mono (by show w.heap.size ≤ wr.heap.size; exact hsz)))
        clear hb1 p0 p1 p2 p3 p4 q0 q1 q2 q3 q4 c0 c1 c2 c3 c4 d0 d1 d2 d3 d4 hS
        go_wp2
        go_roundw
        case rel => exact ⟨k + 1, by omega, by go_num, HW1⟩
        case measure => simp [intOf]; omega
    · go_wp2
      go_ret
      exact ⟨rfl, HW.out⟩
end Go.Proofs.YtodlcnbknjldnaaDoor
