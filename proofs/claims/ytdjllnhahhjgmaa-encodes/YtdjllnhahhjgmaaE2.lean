/- Walks of package wire's writers. -/
import Derived.Test.YtdjllnhahhjgmaaE1
import Derived.Test.YtdjllnhahhjgmaaShelf
namespace Go.Proofs.Ytdjllnhahhjgmaa
open Go.RowKit Chron
theorem infoByte : (Try.prog.info? 5).map (fun i => (i.zero, i.size, i.bytes)) = some (some (.int .u8 0), 1, 1) := by kernel_rfl
theorem byteCells_snoc (l : List UInt8) (b : UInt8) (x : Int) (h : x = (b.toNat : Int)) : Lib.byteCells l ++ [.int .u8 x] = Lib.byteCells (l ++ [b]) := by
  subst h; simp [Lib.byteCells]
theorem conv_owned {w : World} {B n : Nat} {v : Value} {l : List UInt8} (h : w.ownsRow B 5 1 v n (Lib.byteCells l)) (hne : l ≠ []) :
    (convert 77 9 v).run Try.prog w = .ok (.string ⟨l.toArray⟩) w := by
  obtain ⟨hl, h | ⟨g, cap, cur, rfl, hg, hh, hn, hcap, hsz, htake⟩⟩ := h
  · obtain ⟨rfl, rfl⟩ := h
    simp [Lib.byteCells] at hl; exact absurd hl hne
  · have hn' : n = l.length := by simp [Lib.byteCells] at hl; omega
    subst hn'
    refine run_convert_bytes_back w _ _ 5 ⟨g, 0, none⟩ cap l Try.underlying77 Try.underlying5 Try.underlying9 ?_
    intro j hj
    have h1 : World.ownsRow w B 5 1 (.slice (some ⟨g, 0, none⟩) l.length cap) l.length (Lib.byteCells l) := ⟨hl, .inr ⟨g, cap, cur, rfl, hg, hh, hn, hcap, hsz, htake⟩⟩
    refine h1.cells (g := g) rfl j _ ?_
    simp [Lib.byteCells, hj]
set_option maxRecDepth 100000 in
set_option maxHeartbeats 400000 in
theorem wireNumber_any (n : Int) (w : World) (h0 : 0 ≤ n) (h1 : Hid (n.toNat < 128 ^ 9)) :
    Calls Try.prog 46 #[.int .i64 n] w fun e w' => e = .returned (.string ⟨(num n.toNat).toArray⟩) ∧ Below w.heap.size w w' := by
  obtain ⟨i0, hi, hz0, hz1, hz2⟩ := info_parts infoByte
  go_enter Try.func46, Try.ntmps46
  go_wp2
  go_loopw [0, 3] (fun m v wr => ∃ k : Int, 0 ≤ k ∧ m = .int .i64 k ∧ ∃ acc : List UInt8, ∃ f : Nat, Hid (acc.length + f = 9 ∧ k.toNat < 128 ^ f ∧ acc ++ numF (f + 1) k.toNat = num n.toNat) ∧ wr.ownsRow w.heap.size 5 1 v acc.length (Lib.byteCells acc) ∧ Below w.heap.size w wr) (fun m _ _ => (intOf m).toNat)
  case atStart => exact ⟨n, h0, rfl, [], 9, ⟨rfl, h1, rfl⟩, World.ownsRow_nil _ _ _ _, Below.refl _ _⟩
  case round =>
    obtain ⟨k, hk0, rfl, acc, f, HR, hown, hbl⟩ := hrel
    have hal : acc.length ≤ 9 := by have := HR.out.1; omega
    have hsz := hbl.size
    by_cases hlt : 128 ≤ k
    · go_wp2_with (first | (at_builtin; refine wpList_append_own _ rfl _ _ 77 rfl w.heap.size 5 i0 (.int .u8 0) 1 1 Try.underlying77 hi hz0 hz1 hz2 rfl (by decide) _ _ _ rfl (hown.alloc _) ⟨wr.heap.size, 0, none⟩ 1 1 [_] rfl rfl (cell_one_new _ _ _) ?c2 ?c3 ?c4 ?c5 ?_))
      case c2 => first | (intro u hu; simp at hu; subst hu; rfl) | rfl
      case c3 => unfold maxLen; omega
      case c4 => omega
      case c5 => first | omega | (simp; omega)
      intro v' w1 hown' hgrow _
      rw [byteCells_snoc _ _ _ (or_byte k hk0)] at hown'
      go_wp2
      go_roundw
      case rel =>
        obtain ⟨g, hg1, hg2, hg3⟩ := num_step hlt HR.out.1 HR.out.2.1 HR.out.2.2
        exact ⟨k / 128, by omega, rfl, acc ++ [UInt8.ofNat (128 + k.toNat % 128)], g, ⟨hg1, hg2, hg3⟩, by simpa using hown', Below.grown (hbl.alloc (by omega) _) hgrow (by simp; omega) (fun j hj => by have := (hown.lt _ hj).1; omega)⟩
      case measure => simp [intOf]; omega
    · have hlast := num_last hk0 (by omega) HR.out.2.2
      have HL : Hid (num n.toNat = acc ++ [UInt8.ofNat k.toNat]) := hlast
      clear hlast
      go_wp2_with (first | (at_builtin; refine wpList_append_own _ rfl _ _ 77 rfl w.heap.size 5 i0 (.int .u8 0) 1 1 Try.underlying77 hi hz0 hz1 hz2 rfl (by decide) _ _ _ rfl (hown.alloc _) ⟨wr.heap.size, 0, none⟩ 1 1 [_] rfl rfl (cell_one_new _ _ _) ?c2 ?c3 ?c4 ?c5 ?_))
      case c2 => first | (intro u hu; simp at hu; subst hu; rfl) | rfl
      case c3 => unfold maxLen; omega
      case c4 => omega
      case c5 => first | omega | (simp; omega)
      intro v' w1 hown' hgrow _
      rw [byteCells_snoc _ (UInt8.ofNat k.toNat) _ (by simp; omega)] at hown'
      have hconv := conv_owned hown' (by simp)
      go_wp2
      go_ret
      exact ⟨by rw [HL.out]; rfl, Below.grown (hbl.alloc (by omega) _) hgrow (by simp; omega) (fun j hj => by have := (hown.lt _ hj).1; omega)⟩

set_option maxHeartbeats 400000 in
theorem wireText_any (s : ByteArray) (w : World) (hs : s.size ≤ 65536) :
    Calls Try.prog 52 #[.string s] w fun e w' => e = .returned (.string ⟨(text s.data.toList).toArray⟩) ∧ Below w.heap.size w w' := by
  have hN := wireNumber_any (s.size : Int) w (by omega) (by show (s.size : Int).toNat < 128 ^ 9; omega)
  rw [Int.toNat_natCast] at hN
  have HT : Hid (text s.data.toList = num s.size ++ s.data.toList) := by simp [text, Hid]
  go_enter Try.func52, Try.ntmps52
  go_wp2_with fail
  refine hN.mono ?_
  rintro e w' ⟨rfl, hb⟩
  have hnl := num_len s.size
  go_wp2
  go_ret
  exact ⟨ret_str (by rw [HT.out]; exact mk_append _ _), hb⟩
end Go.Proofs.Ytdjllnhahhjgmaa
