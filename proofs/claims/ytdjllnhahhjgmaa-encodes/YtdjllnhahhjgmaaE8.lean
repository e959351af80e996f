/- Walk of schema.readFields. -/
import Derived.Test.YtdjllnhahhjgmaaE7
import Derived.Deep.AppendLies
import Derived.Deep.RegionLaw
namespace Go.Proofs.Ytdjllnhahhjgmaa
open Go.RowKit Chron
structure Fld (N : Nat) (w wx : World) (s : List UInt8) (k : Int) (t : ByteArray) (m : Int) (b : ByteArray) (v : Value) : Prop where
  f0 : wx.cell? ⟨N + 2, 0, none⟩ = some (.string ⟨s.toArray⟩)
  ff : wx.frozen? ⟨N + 2, 0, none⟩ = false
  c0 : wx.cell? ⟨N + 1, 0, none⟩ = some (.int .i64 k)
  c1 : wx.cell? ⟨N + 1, 1, none⟩ = some (.string t)
  c2 : wx.cell? ⟨N + 1, 2, none⟩ = some (.int .i64 m)
  c3 : wx.cell? ⟨N + 1, 3, none⟩ = some (.string b)
  c4 : wx.cell? ⟨N + 1, 4, none⟩ = some v
  z1 : ∀ o, wx.frozen? ⟨N + 1, o, none⟩ = false
  bel : Below N w wx
  big : N + 3 ≤ wx.heap.size
  res : wx.heap[N]? = some (.cells #[.int .i64 0, .string ⟨#[]⟩, .int .i64 0, .string ⟨#[]⟩, .slice none 0 0] 24)
theorem Fld.held {N : Nat} {w wx wy : World} {s r : List UInt8} {k : Int} {t : ByteArray} {m : Int} {b : ByteArray} {v : Value} (h : Fld N w wx s k t m b v) (hh : Held (N + 2) r wx wy) : Fld N w wy r k t m b v := by
  obtain ⟨h1, h2, hg⟩ := hh
  have hbig := h.big
  have hblk : ∀ q, q ≤ N + 1 → wy.heap[q]? = wx.heap[q]? := fun q hq => hg.block q (by omega) (fun e => by simp only [Option.some.injEq] at e; omega)
  have hc : ∀ q o, q ≤ N + 1 → wy.cell? ⟨q, o, none⟩ = wx.cell? ⟨q, o, none⟩ := fun q o hq => World.cell?_of_block (hblk q hq)
  have hz : ∀ q o, q ≤ N + 1 → wy.frozen? ⟨q, o, none⟩ = wx.frozen? ⟨q, o, none⟩ := fun q o hq => World.frozen?_of_block (hblk q hq)
  exact ⟨h1, h2, (hc _ _ (by omega)).trans h.c0, (hc _ _ (by omega)).trans h.c1, (hc _ _ (by omega)).trans h.c2, (hc _ _ (by omega)).trans h.c3, (hc _ _ (by omega)).trans h.c4,
    fun o => (hz _ o (by omega)).trans (h.z1 o), h.bel.trans ⟨hg.os, hg.tape, hg.output, hg.size, fun q hq => hblk q (by omega)⟩, Nat.le_trans hbig hg.size, (hblk N (by omega)).trans h.res⟩
theorem Fld.put {N : Nat} {w wx : World} {s : List UInt8} {k : Int} {t : ByteArray} {m : Int} {b : ByteArray} {v : Value} (h : Fld N w wx s k t m b v) :
    (∀ k', Fld N w (wx.setCell ⟨N + 1, 0, none⟩ (.int .i64 k')) s k' t m b v) ∧ (∀ t', Fld N w (wx.setCell ⟨N + 1, 1, none⟩ (.string t')) s k t' m b v) ∧
    (∀ m', Fld N w (wx.setCell ⟨N + 1, 2, none⟩ (.int .i64 m')) s k t m' b v) ∧ (∀ b', Fld N w (wx.setCell ⟨N + 1, 3, none⟩ (.string b')) s k t m b' v) ∧ (∀ v', Fld N w (wx.setCell ⟨N + 1, 4, none⟩ v') s k t m b v') := by
  obtain ⟨f0, ff, c0, c1, c2, c3, c4, z1, bel, big, res⟩ := h
  refine ⟨fun x => ?_, fun x => ?_, fun x => ?_, fun x => ?_, fun x => ?_⟩
  all_goals
    constructor
    all_goals first
      | (go_simp; done)
      | (intro o; rw [World.frozen?_setCell]; exact z1 o)
      | exact bel.setCell (by simp) _
      | (rw [Below.heap_setCell _ _ _ _ (by simp)]; exact res)
      | (simp [World.setCell]; exact big)
      | (rw [World.frozen?_setCell]; exact ff)

theorem Fld.drew {N : Nat} {w wx : World} {s : List UInt8} {k : Int} {t : ByteArray} {m : Int} {b : ByteArray} {v : Value} (h : Fld N w wx s k t m b v) : Fld N w wx.drew s k t m b v :=
  ⟨h.f0, h.ff, h.c0, h.c1, h.c2, h.c3, h.c4, h.z1, h.bel.drew, h.big, h.res⟩
theorem Fld.grown {N : Nat} {w wx wy : World} {s : List UInt8} {k : Int} {t : ByteArray} {m : Int} {b : ByteArray} {v : Value} {row : Option Nat} (h : Fld N w wx s k t m b v) (hg : wx.grownBy wy row) (hr : ∀ q, row = some q → N + 3 ≤ q) : Fld N w wy s k t m b v := by
  have hbig := h.big
  have hblk : ∀ q, q ≤ N + 2 → wy.heap[q]? = wx.heap[q]? := fun q hq => hg.block q (by omega) (fun e => by have := hr q e.symm; omega)
  have hc : ∀ q o, q ≤ N + 2 → wy.cell? ⟨q, o, none⟩ = wx.cell? ⟨q, o, none⟩ := fun q o hq => World.cell?_of_block (hblk q hq)
  have hz : ∀ q o, q ≤ N + 2 → wy.frozen? ⟨q, o, none⟩ = wx.frozen? ⟨q, o, none⟩ := fun q o hq => World.frozen?_of_block (hblk q hq)
  exact ⟨(hc _ _ (by omega)).trans h.f0, (hz _ _ (by omega)).trans h.ff, (hc _ _ (by omega)).trans h.c0, (hc _ _ (by omega)).trans h.c1, (hc _ _ (by omega)).trans h.c2, (hc _ _ (by omega)).trans h.c3, (hc _ _ (by omega)).trans h.c4,
    fun o => (hz _ o (by omega)).trans (h.z1 o), h.bel.trans ⟨hg.os, hg.tape, hg.output, hg.size, fun q hq => hblk q (by omega)⟩, Nat.le_trans hbig hg.size, (hblk N (by omega)).trans h.res⟩
theorem Fld.alloc {N : Nat} {w wx : World} {s : List UInt8} {k : Int} {t : ByteArray} {m : Int} {b : ByteArray} {v : Value} (h : Fld N w wx s k t m b v) (o : Obj) : Fld N w (wx.alloc o) s k t m b v :=
  h.grown (World.grownBy_alloc wx o none) (fun q hq => by cases hq)
theorem own_kept {w w' : World} {base : Nat} {e : TypeId} {size : Nat} {v : Value} {n : Nat} {xs : List Value} {p : Nat} (h : w.ownsRow base e size v n xs) (hg : w.grownBy w' (some p)) (hp : p < base) : w'.ownsRow base e size v n xs := by
  refine h.kept hg ?_
  cases hv : v.ownBlock with
  | none => exact .inl rfl
  | some k => exact .inr (fun e => by have := (h.lt k hv).1; simp only [Option.some.injEq] at e; omega)
theorem res_cells {w : World} {N : Nat} {a b c d e : Value} {t : TypeId} (h : w.heap[N]? = some (.cells #[a, b, c, d, e] t)) :
    w.cell? ⟨N, 0, none⟩ = some a ∧ w.cell? ⟨N, 1, none⟩ = some b ∧ w.cell? ⟨N, 2, none⟩ = some c ∧ w.cell? ⟨N, 3, none⟩ = some d ∧ w.cell? ⟨N, 4, none⟩ = some e ∧ ∀ o, w.frozen? ⟨N, o, none⟩ = false := by
  simp [World.cell?, World.frozen?, h]
theorem one_string (x : ByteArray) : ∀ u ∈ [Value.string x], u.oneCell' = true := fun u hu => by simp at hu; subst hu; rfl
theorem own_mono {w : World} {base base' : Nat} {e : TypeId} {size : Nat} {v : Value} {n : Nat} {xs : List Value} (h : w.ownsRow base e size v n xs) (hb : base' ≤ base) : w.ownsRow base' e size v n xs := by
  obtain ⟨h1, h2 | ⟨g, cap, cur, a1, a2, a3⟩⟩ := h
  · exact ⟨h1, .inl h2⟩
  · exact ⟨h1, .inr ⟨g, cap, cur, a1, Nat.le_trans hb a2, a3⟩⟩
def lenAt (q : Nat) (w : World) : Nat := match w.cell? ⟨q, 4, none⟩ with | some (.slice _ n _) => n | _ => 0
theorem lenAt_of {q n cap : Nat} {a : Option Addr} {w : World} (h : w.cell? ⟨q, 4, none⟩ = some (.slice a n cap)) : lenAt q w = n := by simp [lenAt, h]
theorem infoString : (Try.prog.info? 9).map (fun i => (i.zero, i.size, i.bytes)) = some (some (.string ⟨#[]⟩), 1, 16) := by kernel_rfl
theorem next_list (p : Nat) (s : List UInt8) (tag : Nat) (w : World) (hc : w.cell? ⟨p, 0, none⟩ = some (.string ⟨s.toArray⟩)) (hf : w.frozen? ⟨p, 0, none⟩ = false) (h1 : tag ≤ 5) :
    Calls Try.prog 66 #[.pointer (some ⟨p, 0, none⟩), .int .i64 tag] w fun e w' => e = .returned (.bool (hp tag s)) ∧ Hid (Held p (nx tag s) w w') := by
  have := next_any p ⟨s.toArray⟩ (tag : Int) w hc hf (by omega) (by omega)
  rw [Int.toNat_natCast] at this
  exact this
theorem number_list (p : Nat) (s : List UInt8) (w : World) (hc : w.cell? ⟨p, 0, none⟩ = some (.string ⟨s.toArray⟩)) (hf : w.frozen? ⟨p, 0, none⟩ = false) (hs : s.length ≤ maxLen) :
    Calls Try.prog 67 #[.pointer (some ⟨p, 0, none⟩)] w fun e w' => e = .returned (.int .i64 (numOf s)) ∧ Hid (Held p (numRest s) w w') := number_any p ⟨s.toArray⟩ w hc hf hs
theorem text_list (p : Nat) (s : List UInt8) (w : World) (hc : w.cell? ⟨p, 0, none⟩ = some (.string ⟨s.toArray⟩)) (hf : w.frozen? ⟨p, 0, none⟩ = false) (hs : s.length ≤ maxLen) :
    Calls Try.prog 68 #[.pointer (some ⟨p, 0, none⟩)] w fun e w' => e = .returned (.string ⟨(txOf s).toArray⟩) ∧ Hid (Held p (txRest s) w w') := text_any p ⟨s.toArray⟩ w hc hf hs
theorem fld_start (w : World) (s : List UInt8) : Fld w.heap.size w (((w.alloc (.cells #[.int .i64 0, .string ⟨#[]⟩, .int .i64 0, .string ⟨#[]⟩, .slice none 0 0] 24)).alloc (.cells #[.int .i64 0, .string ⟨#[]⟩, .int .i64 0, .string ⟨#[]⟩, .slice none 0 0] 24)).alloc (.cells #[.string ⟨s.toArray⟩] 96)) s 0 ⟨#[]⟩ 0 ⟨#[]⟩ (.slice none 0 0) := by
  constructor
  all_goals first
    | (go_simp; done)
    | (intro o; go_simp; done)
    | exact (((Below.refl _ _).alloc (Nat.le_refl _) _).alloc (by simp) _).alloc (by simp; omega) _
    | (simp; done)
    | (rw [Below.heap_alloc _ _ _ (by simp; omega), Below.heap_alloc _ _ _ (by simp), heap_alloc_new])

set_option maxRecDepth 100000 in
set_option maxHeartbeats 2000000 in
theorem readFields_any (v : Int) (s : List UInt8) (w : World) (hs : s.length ≤ maxLen) :
    Calls Try.prog 58 #[.int .i64 v, .string ⟨s.toArray⟩] w fun e w' =>
      ∃ x, e = .returned (.agg #[.int .i64 (rdFields v s).kind, .string (rdFields v s).task, .int .i64 (rdFields v s).time, .string (rdFields v s).body, x]) ∧
        w'.ownsRow w.heap.size 9 1 x (rdFields v s).tags.length ((rdFields v s).tags.map Value.string) ∧ Below w.heap.size w w' := by
  have HF0 : Hid _ := fld_start w s
  have hl0 : s.length ≤ s.length := Nat.le_refl _
  go_enter Try.func58, Try.ntmps58
  go_wp2_with fail
  refine (next_list _ s 1 _ HF0.out.f0 HF0.out.ff (by omega)).mono ?_
  rintro e w1 ⟨rfl, hh⟩
  have HG1 : Hid _ := HF0.out.held hh.out
  clear hh HF0
  have hl1 := nx_len 1 s
  go_upto_if 9 with fail
  go_cut [9] (fun _ wx => Hid (Fld w.heap.size w wx (behindNum 1 s) (kindOf v s) ⟨#[]⟩ 0 ⟨#[]⟩ (.slice none 0 0)))
  case first =>
    by_cases hq : hp 1 s = true
    · have HK : Hid (behindNum 1 s = numRest (nx 1 s) ∧ kindOf v s = (wrap64 (numOf (nx 1 s) + shift v) : Int)) := ⟨if_pos hq, if_pos hq⟩
      rw [hq]
      obtain ⟨f0, ff, c0, c1, c2, c3, c4, z1, bel, big, res⟩ := HG1.out
      go_wp2_with fail
      refine (number_list _ (nx 1 s) _ f0 ff (by omega)).mono ?_
      rintro e wq ⟨rfl, hh⟩
      have HX : Hid _ := HG1.out.held hh.out
      clear f0 ff c0 c1 c2 c3 c4 z1 bel big res hh
      obtain ⟨f0, ff, c0, c1, c2, c3, c4, z1, bel, big, res⟩ := HX.out
      go_wp2_with (go_at_call 55; refine (kindShift_any _ _).mono ?_; rintro e w' ⟨rfl, rfl⟩)
      go_meet
      case rel => rw [HK.out.1, HK.out.2]; exact HX.out.put.1 _
    · have HK : Hid (behindNum 1 s = nx 1 s ∧ kindOf v s = (0 : Int)) := ⟨if_neg hq, if_neg hq⟩
      have hq' : hp 1 s = false := by simpa using hq
      rw [hq']
      go_wp2_with fail
      go_meet
      case rel => rw [HK.out.1, HK.out.2]; exact HG1.out
  case rest =>
    have HF1 := hcut
    have hb1 := behindNum_len 1 s
    clear hcut HG1
    go_wp2_with fail
    refine (next_list _ (behindNum 1 s) 2 _ HF1.out.f0 HF1.out.ff (by omega)).mono ?_
    rintro e w2 ⟨rfl, hh⟩
    have HG2 : Hid _ := HF1.out.held hh.out
    clear hh HF1
    have hl2 := nx_len 2 (behindNum 1 s)
    go_upto_if 15 with fail
    go_cut [15] (fun _ wx => Hid (Fld w.heap.size w wx (behindText 2 (behindNum 1 s)) (kindOf v s) (textOf 2 (behindNum 1 s)) 0 ⟨#[]⟩ (.slice none 0 0)))
    case first =>
      by_cases hq : hp 2 (behindNum 1 s) = true
      · have HK : Hid (behindText 2 (behindNum 1 s) = txRest (nx 2 (behindNum 1 s)) ∧ textOf 2 (behindNum 1 s) = (⟨(txOf (nx 2 (behindNum 1 s))).toArray⟩ : ByteArray)) := ⟨if_pos hq, if_pos hq⟩
        rw [hq]
        obtain ⟨f0, ff, c0, c1, c2, c3, c4, z1, bel, big, res⟩ := HG2.out
        go_wp2_with fail
        refine (text_list _ (nx 2 (behindNum 1 s)) _ f0 ff (by omega)).mono ?_
        rintro e wq ⟨rfl, hh⟩
        have HX : Hid _ := HG2.out.held hh.out
        clear f0 ff c0 c1 c2 c3 c4 z1 bel big res hh
        obtain ⟨f0, ff, c0, c1, c2, c3, c4, z1, bel, big, res⟩ := HX.out
        go_wp2_with fail
        go_meet
        case rel => rw [HK.out.1, HK.out.2]; exact HX.out.put.2.1 _
      · have HK : Hid (behindText 2 (behindNum 1 s) = nx 2 (behindNum 1 s) ∧ textOf 2 (behindNum 1 s) = (⟨#[]⟩ : ByteArray)) := ⟨if_neg hq, if_neg hq⟩
        have hq' : hp 2 (behindNum 1 s) = false := by simpa using hq
        rw [hq']
        go_wp2_with fail
        go_meet
        case rel => rw [HK.out.1, HK.out.2]; exact HG2.out
    case rest =>
      have HF2 := hcut
      have hb2 := behindText_len 2 (behindNum 1 s)
      clear hcut HG2
      go_wp2_with fail
      refine (next_list _ (behindText 2 (behindNum 1 s)) 3 _ HF2.out.f0 HF2.out.ff (by omega)).mono ?_
      rintro e w3 ⟨rfl, hh⟩
      have HG3 : Hid _ := HF2.out.held hh.out
      clear hh HF2
      have hl3 := nx_len 3 (behindText 2 (behindNum 1 s))
      go_upto_if 18 with fail
      go_cut [18] (fun _ wx => Hid (Fld w.heap.size w wx (behindNum 3 (behindText 2 (behindNum 1 s))) (kindOf v s) (textOf 2 (behindNum 1 s)) (timeOf (behindText 2 (behindNum 1 s))) ⟨#[]⟩ (.slice none 0 0)))
      case first =>
        by_cases hq : hp 3 (behindText 2 (behindNum 1 s)) = true
        · have HK : Hid (behindNum 3 (behindText 2 (behindNum 1 s)) = numRest (nx 3 (behindText 2 (behindNum 1 s))) ∧ timeOf (behindText 2 (behindNum 1 s)) = (numOf (nx 3 (behindText 2 (behindNum 1 s))) : Int)) := ⟨if_pos hq, if_pos hq⟩
          rw [hq]
          obtain ⟨f0, ff, c0, c1, c2, c3, c4, z1, bel, big, res⟩ := HG3.out
          go_wp2_with fail
          refine (number_list _ (nx 3 (behindText 2 (behindNum 1 s))) _ f0 ff (by omega)).mono ?_
          rintro e wq ⟨rfl, hh⟩
          have HX : Hid _ := HG3.out.held hh.out
          clear f0 ff c0 c1 c2 c3 c4 z1 bel big res hh
          obtain ⟨f0, ff, c0, c1, c2, c3, c4, z1, bel, big, res⟩ := HX.out
          go_wp2_with fail
          go_meet
          case rel => rw [HK.out.1, HK.out.2]; exact HX.out.put.2.2.1 _
        · have HK : Hid (behindNum 3 (behindText 2 (behindNum 1 s)) = nx 3 (behindText 2 (behindNum 1 s)) ∧ timeOf (behindText 2 (behindNum 1 s)) = (0 : Int)) := ⟨if_neg hq, if_neg hq⟩
          have hq' : hp 3 (behindText 2 (behindNum 1 s)) = false := by simpa using hq
          rw [hq']
          go_wp2_with fail
          go_meet
          case rel => rw [HK.out.1, HK.out.2]; exact HG3.out
      case rest =>
        have HF3 := hcut
        have hb3 := behindNum_len 3 (behindText 2 (behindNum 1 s))
        clear hcut HG3
        go_wp2_with fail
        refine (next_list _ (behindNum 3 (behindText 2 (behindNum 1 s))) 4 _ HF3.out.f0 HF3.out.ff (by omega)).mono ?_
        rintro e w4 ⟨rfl, hh⟩
        have HG4 : Hid _ := HF3.out.held hh.out
        clear hh HF3
        have hl4 := nx_len 4 (behindNum 3 (behindText 2 (behindNum 1 s)))
        go_upto_if 21 with fail
        go_cut [21] (fun _ wx => Hid (Fld w.heap.size w wx (behindText 4 (behindNum 3 (behindText 2 (behindNum 1 s)))) (kindOf v s) (textOf 2 (behindNum 1 s)) (timeOf (behindText 2 (behindNum 1 s))) (textOf 4 (behindNum 3 (behindText 2 (behindNum 1 s)))) (.slice none 0 0)))
        case first =>
          by_cases hq : hp 4 (behindNum 3 (behindText 2 (behindNum 1 s))) = true
          · have HK : Hid (behindText 4 (behindNum 3 (behindText 2 (behindNum 1 s))) = txRest (nx 4 (behindNum 3 (behindText 2 (behindNum 1 s)))) ∧ textOf 4 (behindNum 3 (behindText 2 (behindNum 1 s))) = (⟨(txOf (nx 4 (behindNum 3 (behindText 2 (behindNum 1 s))))).toArray⟩ : ByteArray)) := ⟨if_pos hq, if_pos hq⟩
            rw [hq]
            obtain ⟨f0, ff, c0, c1, c2, c3, c4, z1, bel, big, res⟩ := HG4.out
            go_wp2_with fail
            refine (text_list _ (nx 4 (behindNum 3 (behindText 2 (behindNum 1 s)))) _ f0 ff (by omega)).mono ?_
            rintro e wq ⟨rfl, hh⟩
            have HX : Hid _ := HG4.out.held hh.out
            clear f0 ff c0 c1 c2 c3 c4 z1 bel big res hh
            obtain ⟨f0, ff, c0, c1, c2, c3, c4, z1, bel, big, res⟩ := HX.out
            go_wp2_with fail
            go_meet
            case rel => rw [HK.out.1, HK.out.2]; exact HX.out.put.2.2.2.1 _
          · have HK : Hid (behindText 4 (behindNum 3 (behindText 2 (behindNum 1 s))) = nx 4 (behindNum 3 (behindText 2 (behindNum 1 s))) ∧ textOf 4 (behindNum 3 (behindText 2 (behindNum 1 s))) = (⟨#[]⟩ : ByteArray)) := ⟨if_neg hq, if_neg hq⟩
            have hq' : hp 4 (behindNum 3 (behindText 2 (behindNum 1 s))) = false := by simpa using hq
            rw [hq']
            go_wp2_with fail
            go_meet
            case rel => rw [HK.out.1, HK.out.2]; exact HG4.out
        case rest =>
          have HF4 := hcut
          have hb4 := behindText_len 4 (behindNum 3 (behindText 2 (behindNum 1 s)))
          clear hcut HG4
          have hSl : (behindText 4 (behindNum 3 (behindText 2 (behindNum 1 s)))).length ≤ s.length := by omega
          have HRD : Hid (rdFields v s = ⟨kindOf v s, textOf 2 (behindNum 1 s), timeOf (behindText 2 (behindNum 1 s)), textOf 4 (behindNum 3 (behindText 2 (behindNum 1 s))), tagsF 4 (behindText 4 (behindNum 3 (behindText 2 (behindNum 1 s))))⟩) := rfl
          clear hl0 hl1 hl2 hl3 hl4 hb1 hb2 hb3 hb4
          generalize behindText 4 (behindNum 3 (behindText 2 (behindNum 1 s))) = S at HF4 hSl HRD
          generalize kindOf v s = K at HF4 HRD
          generalize textOf 2 (behindNum 1 s) = T at HF4 HRD
          generalize timeOf (behindText 2 (behindNum 1 s)) = M at HF4 HRD
          generalize textOf 4 (behindNum 3 (behindText 2 (behindNum 1 s))) = B at HF4 HRD
          obtain ⟨i0, hi, hz0, hz1, hz2⟩ := info_parts infoString
          unfold maxLen at hs
          go_wp2_with fail
          go_loopw [30] (fun _ wx => ∃ (a : Option Addr) (cap : Nat) (acc : List ByteArray) (r : List UInt8), acc.length ≤ 4 ∧ r.length ≤ s.length ∧ Hid (acc ++ tagsF (4 - acc.length) r = tagsF 4 S) ∧ Hid (Fld w.heap.size w wx r K T M B (.slice a acc.length cap)) ∧ Hid (wx.ownsRow (w.heap.size + 3) 9 1 (.slice a acc.length cap) acc.length (acc.map Value.string))) (fun _ wx => 4 - lenAt (w.heap.size + 1) wx)
          case atStart => exact ⟨none, 0, [], S, by simp, hSl, rfl, HF4, World.ownsRow_nil _ _ _ _⟩
          case round =>
            obtain ⟨a, cap, acc, r, hacc, hrl, HS, HF, HO⟩ := hrel
            clear HF4
            obtain ⟨f0, ff, c0, c1, c2, c3, c4, z1, bel, big, res⟩ := HF.out
            by_cases hlt : acc.length < 4
            · go_wp2_with fail
              refine (next_list _ r 5 _ f0 ff (by omega)).mono ?_
              rintro e wq ⟨rfl, hh⟩
              have HX : Hid _ := HF.out.held hh.out
              have HP : Hid (wq.ownsRow (w.heap.size + 3) 9 1 (.slice a acc.length cap) acc.length (acc.map Value.string)) := own_kept HO.out hh.out.2.2 (by omega)
              have hnl := nx_len 5 r
              have htl := txRest_len (nx 5 r)
              clear f0 ff c0 c1 z1 bel res hh c2 c3
              obtain ⟨f0, ff, c0, c1, c2, c3, c4', z1, bel, big', res⟩ := HX.out
              obtain ⟨r0, r1, r2, r3, r4, rz⟩ := res_cells res
              by_cases hq : hp 5 r = true
              · have HT : Hid (tagsF (4 - acc.length) r = ⟨(txOf (nx 5 r)).toArray⟩ :: tagsF (4 - (acc.length + 1)) (txRest (nx 5 r))) := by
                  rw [show 4 - acc.length = (4 - (acc.length + 1)) + 1 by omega]; exact if_pos hq
                have e1 : acc.length + 1 ≤ maxLen := by unfold maxLen; omega
                have hTX : Calls Try.prog 68 #[.pointer (some ⟨w.heap.size + 1 + 1, 0, none⟩)] wq.drew fun e wz => e = .returned (.string ⟨(txOf (nx 5 r)).toArray⟩) ∧ Hid (Fld w.heap.size w wz (txRest (nx 5 r)) K T M B (.slice a acc.length cap)) ∧ Hid (wz.ownsRow (w.heap.size + 3) 9 1 (.slice a acc.length cap) acc.length (acc.map Value.string)) ∧ wz.cell? ⟨w.heap.size + 1, 4, none⟩ = some (.slice a acc.length cap) ∧ ∀ o, (wz.alloc o).cell? ⟨w.heap.size + 1, 4, none⟩ = some (.slice a acc.length cap) := by
                  refine (text_list (w.heap.size + 2) (nx 5 r) wq.drew HX.out.drew.f0 HX.out.drew.ff (by unfold maxLen; omega)).mono ?_
                  rintro e wz ⟨rfl, hhz⟩
                  exact ⟨rfl, HX.out.drew.held hhz.out, own_kept (World.ownsRow.drew HP.out) hhz.out.2.2 (by omega), (HX.out.drew.held hhz.out).c4, fun o => ((HX.out.drew.held hhz.out).alloc o).c4⟩
                have e2 : (acc.length + 1) * 16 ≤ 140737488355328 := by omega
                rw [hq]
                go_wp2_with fail
                go_region_law (first
                  | (have hq9 := HQ.out
                     have e3 : ∀ o, w.heap.size + 3 ≤ (wz.alloc o).heap.size := fun o => by have := HY.out.big; simp; omega
                     refine step_append_lies _ rfl _ _ 22 rfl (w.heap.size + 3) 9 i0 (.string ⟨#[]⟩) 1 16 Try.underlying22 hi hz0 hz1 hz2 rfl Nat.one_pos _ _ _ rfl (hq9.alloc _) ⟨wz.heap.size, 0, none⟩ 1 1 [_] rfl rfl (cell_one_new _ _ _) (one_string _) Nat.one_pos e1 e2 (e3 _) _ rfl ?_
                     clear hq9 e3
                     intro g cap' wa hown' hgrow hat hglt
                     have HA : Hid _ := (HY.out.alloc _).grown hgrow (fun q hq => (HQ.out.lt q hq).1)
                     have HO' : Hid (wa.ownsRow (w.heap.size + 3) 9 1 (.slice (some ⟨g, 0, none⟩) (acc.length + 1) cap') (acc.length + 1) (acc.map Value.string ++ [.string ⟨(txOf (nx 5 r)).toArray⟩])) := hown'
                     have ca := HA.out.c4
                     have za := HA.out.z1
                     clear hgrow hown' hat)
                  | (go_simp; go_at_call 68; refine hTX.mono ?_; rintro e wz ⟨rfl, HY, HQ, cz, czo⟩))
                all_goals
                  go_wp2
                  go_roundw
                  case rel =>
                    refine ⟨some ⟨g, 0, none⟩, cap', acc ++ [⟨(txOf (nx 5 r)).toArray⟩], txRest (nx 5 r), by simp; omega, by omega, ?_, ?_, ?_⟩
                    · show _ = _
                      rw [← HS.out, HT.out]; simp
                    · rw [List.length_append]; exact HA.out.put.2.2.2.2 _
                    · rw [List.length_append, List.map_append]; exact ownsRow_setCell_below HO'.out (by simp) _
                  case measure => rw [lenAt_of c4, lenAt_of (HA.out.put.2.2.2.2 _).c4]; omega
              · have hq' : hp 5 r = false := by simpa using hq
                have HT : Hid (tagsF 4 S = acc) := by
                  show _ = _
                  rw [← HS.out, show 4 - acc.length = (4 - (acc.length + 1)) + 1 by omega, tagsF, if_neg hq, List.append_nil]
                rw [hq']
                go_wp2
                refine bodyPost_ret (v := .agg #[.int .i64 K, .string T, .int .i64 M, .string B, .slice a acc.length cap]) (by simp [results, Try.results58, go_sem, r0, r1, r2, r3, r4]) rfl ⟨.slice a acc.length cap, ?_, ?_, ?_⟩
                · rw [HRD.out]
                · rw [HRD.out]
                  show World.ownsRow _ _ _ _ _ (tagsF 4 S).length ((tagsF 4 S).map Value.string)
                  rw [HT.out]
                  exact own_mono (ownsRow_setCell_below (ownsRow_setCell_below (ownsRow_setCell_below (ownsRow_setCell_below (ownsRow_setCell_below HP.out (by simp) _) (by simp) _) (by simp) _) (by simp) _) (by simp) _) (by omega)
                · exact ((((bel.setCell (by simp) _).setCell (by simp) _).setCell (by simp) _).setCell (by simp) _).setCell (by simp) _
            · have HT : Hid (tagsF 4 S = acc) := by
                show _ = _
                rw [← HS.out, show 4 - acc.length = 0 by omega, tagsF, List.append_nil]
              obtain ⟨r0, r1, r2, r3, r4, rz⟩ := res_cells res
              go_wp2
              refine bodyPost_ret (v := .agg #[.int .i64 K, .string T, .int .i64 M, .string B, .slice a acc.length cap]) (by simp [results, Try.results58, go_sem, r0, r1, r2, r3, r4]) rfl ⟨.slice a acc.length cap, ?_, ?_, ?_⟩
              · rw [HRD.out]
              · rw [HRD.out]
                show World.ownsRow _ _ _ _ _ (tagsF 4 S).length ((tagsF 4 S).map Value.string)
                rw [HT.out]
                exact own_mono (ownsRow_setCell_below (ownsRow_setCell_below (ownsRow_setCell_below (ownsRow_setCell_below (ownsRow_setCell_below HO.out (by simp) _) (by simp) _) (by simp) _) (by simp) _) (by simp) _) (by omega)
              · exact ((((bel.setCell (by simp) _).setCell (by simp) _).setCell (by simp) _).setCell (by simp) _).setCell (by simp) _
end Go.Proofs.Ytdjllnhahhjgmaa
