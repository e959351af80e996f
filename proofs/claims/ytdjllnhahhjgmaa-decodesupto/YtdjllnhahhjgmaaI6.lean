/- Walk of chroniclelaw.Decodes. -/
import Derived.Test.YtdjllnhahhjgmaaI5
import Derived.Test.YtdjllnhahhjgmaaF7
namespace Go.Proofs.Ytdjllnhahhjgmaa
open Go.RowKit Chron
theorem first_read : decB 1 [98, 0] = (⟨1, ⟨#[45]⟩, 0, ⟨#[]⟩, []⟩, 0) := by
  have h1 : readTx [0] = some ([], []) := by decide +kernel
  have h2 : isB (dashE 98 []) = true := by decide +kernel
  have h3 : letterKind 98 = 1 := by decide +kernel
  rw [dec_dash h1, if_neg (by simp [h2]), dashE, h3]
def Low (ts : List ByteArray) : Prop := ∀ i, i < ts.length → (ts[i]?.getD ByteArray.empty).size ≤ 1048576
set_option maxRecDepth 100000 in
set_option maxHeartbeats 2000000 in
theorem decodes_any (v : Int) (a : Option Addr) (cap : Nat) (ts : List ByteArray) (w : World) (ht : Hid (TagsAt w a ts)) (hs : Hid (Low ts)) (hl : ts.length ≤ 1048576) :
    Calls Try.prog 4 #[.int .i64 v, .slice a ts.length cap] w fun e w' => e = .returned (.bool true) ∧ Below w.heap.size w w' := by
  have hD0 := fun w' => decode_any 1 [98, 0] w' (by decide)
  rw [first_read] at hD0
  go_enter Try.func4, Try.ntmps4
  go_wp2_with fail
  refine (hD0 _).mono ?_
  rintro e w1 ⟨x, rfl, ho1, hb1⟩
  obtain ⟨xa, xc, hxe, hta⟩ := own_tags ho1
  subst hxe
  simp only [evVal]
  have HT1 := hide0 hta
  clear hD0 ho1 hta
  have hs1 := hb1.size
  go_wp2_with fail
  have hc2 := fun w' h => same_law ⟨1, ⟨#[45]⟩, 0, ⟨#[]⟩, []⟩ ⟨1, ⟨#[45]⟩, 0, ⟨#[]⟩, []⟩ xa none xc 0 w' h (tags_none w') (Nat.zero_le _) (Nat.zero_le _)
  rw [sameEv_iff.2 rfl] at hc2
  refine (hc2 _ (HT1.out.alloc _)).mono ?_
  rintro e w2 ⟨rfl, hb2⟩
  have HW2 := hide0 ((hb1.alloc hs1 _).trans (hb2.mono (by rw [World.size_alloc]; omega)))
  have hs2 := HW2.out.size
  have hb1s := (hb2.block w1.heap.size (by rw [World.size_alloc]; omega)).trans (heap_alloc_new w1 _)
  obtain ⟨c0, c1, c2, c3, c4, cf⟩ := res_cells hb1s
  clear hc2 hb1 hb2 HT1 hb1s hs1
  go_wp2
  clear c0 c1 c2 c3 c4 cf
  go_loopw [7, 9] (fun okv iv wx => ∃ (i : Nat) (tv : Value) (xs : List Value), i ≤ 2 * ts.length ∧ iv = .int .i64 i ∧ okv = .bool true ∧ Hid (xs.length = 4 * i ∧ i ≤ 3000000) ∧ Hid (BookAt w2.heap.size tv xs wx.heap.size wx) ∧ Hid (Below w.heap.size w wx)) (fun _ iv _ => 2 * ts.length - (intOf iv).toNat)
  case atStart => exact ⟨0, .slice none 0 0, [], Nat.zero_le _, rfl, rfl, ⟨rfl, Nat.zero_le _⟩, ⟨heap_alloc_new _ _, World.ownsRow_nil _ _ _ _, (fun i v hv => by simp at hv), (by simp), (fun q hq => by cases hq), Nat.le_refl _⟩, HW2.out.alloc hs2 _⟩
  case round =>
    obtain ⟨i, tv, xs, hi, rfl, rfl, HX, HB, HW⟩ := hrel
    have hsr := HW.out.size
    by_cases hlt : i < 2 * ts.length
    · have hlti : (i : Int) < 2 * (ts.length : Int) := by omega
      have hn0 : ((ts.length : Int) == 0) = false := beq_eq_false_iff_ne.2 (by omega)
      have hn1 : ((ts.length : Int) == -1) = false := beq_eq_false_iff_ne.2 (by omega)
      have hpl : i % ts.length < ts.length := Nat.mod_lt _ (by omega)
      obtain ⟨p, hp, hpn⟩ : ∃ p : Nat, (i : Int) % (ts.length : Int) = p ∧ p < ts.length := ⟨i % ts.length, by simp, hpl⟩
      obtain ⟨q, off, rfl, hcx⟩ := ht.out (by omega)
      have hck := hcx p hpn
      have hqlt := World.block_lt_of_cell? w _ hck
      have hss := hs.out p hpn
      generalize ts[p]?.getD ByteArray.empty = s at hck hss
      have hcs : wr.cell? ⟨q, off + p, none⟩ = some (.string s) := (HW.out.cell (p := ⟨q, off + p, none⟩) hqlt).trans hck
      have hD : ∀ w', Calls Try.prog 14 #[.int .i64 v, .string s] w' _ := fun w' => decode_any v s.data.toList w' (by show s.size ≤ _; unfold maxLen; omega)
      have hR := fun w' => decodeRef_any v s w' (by omega)
      have hfew := dec_few v s.data.toList
      generalize decB v s.data.toList = E at hD hR hfew
      obtain ⟨⟨k, t, m, bd, tg⟩, er⟩ := E
      simp only at hD hR hfew
      clear hcx hck hpl
      go_wp2_with fail
      refine (hD _).mono ?_
      rintro e w3 ⟨x1, rfl, ho3, hb3⟩
      obtain ⟨xa1, xc1, he1, hta1⟩ := own_tags ho3
      subst he1
      simp only [evVal]
      have HO3 := hide0 ho3
      have HB3 := hide0 hb3
      have hs3 := hb3.size
      clear hD ho3 hb3 hta1 hcs
      go_wp2_with fail
      refine (hR _).mono ?_
      rintro e w4 ⟨x2, rfl, ho4, hb4⟩
      obtain ⟨xa2, xc2, he2, hta2⟩ := own_tags ho4
      subst he2
      simp only [evVal]
      have hs4 := hb4.size
      rw [World.size_alloc] at hs4
      have HEV4 := hide0 ((hb4.block w3.heap.size (by rw [World.size_alloc]; omega)).trans (heap_alloc_new w3 _))
      have HO4 := hide0 (own_below (HO3.out.alloc _) hb4)
      have HB4 := hide0 ((HB3.out.alloc hs3 _).trans (hb4.mono (by rw [World.size_alloc]; omega)))
      have HT4 := hide0 (tags_at HO4.out)
      have HT5 := hide0 hta2
      clear hR ho4 hta2 HO3 HB3 hb4
      obtain ⟨c0, c1, c2, c3, c4, cf⟩ := alloc_cells HEV4.out
      have hne : ¬ w3.heap.size = w4.heap.size := by omega
      go_wp2_with fail
      have hc5 := fun w' h1 h2 => same_law ⟨k, t, m, bd, tg⟩ ⟨k, t, m, bd, tg⟩ xa1 xa2 xc1 xc2 w' h1 h2 (by show tg.length ≤ _; unfold maxLen; omega) (by show tg.length ≤ _; unfold maxLen; omega)
      rw [sameEv_iff.2 rfl] at hc5
      refine (hc5 _ (HT4.out.alloc _) (HT5.out.alloc _)).mono ?_
      rintro e w5 ⟨rfl, hb5⟩
      have hs5 := hb5.size
      rw [World.size_alloc] at hs5
      have HEV5 := hide0 ((hb5.block w3.heap.size (by rw [World.size_alloc]; omega)).trans ((Below.heap_alloc _ _ _ (by omega)).trans HEV4.out))
      have HO5 := hide0 (own_below (HO4.out.alloc _) hb5)
      have HB5 := hide0 ((HB4.out.alloc (by omega) _).trans (hb5.mono (by rw [World.size_alloc]; omega)))
      clear hc5 HT4 HT5 HO4 HB4 HEV4 hb5 c0 c1 c2 c3 c4 cf
      obtain ⟨c0, c1, c2, c3, c4, cf⟩ := res_cells HEV5.out
      have HBK5 := hide0 (HB.out.keep HB5.out)
      go_wp2_with fail
      refine (keepTags_any w2.heap.size i tv xs wr.heap.size (.slice xa1 tg.length xc1) tg w5 HBK5 HO5 hfew HX).mono ?_
      rintro e w6 ⟨rfl, tv', xs', hbk6, hx6, hb6⟩
      have HBK6 := hide0 hbk6
      have HX6 := hide0 hx6
      have HB6 := hide0 (hb6.mono hs2)
      clear hbk6 hx6 hb6 c0 c1 c2 c3 c4 cf HBK5 HO5 HEV5
      go_wp2_with fail
      refine (whole_any w2.heap.size tv' xs' w6.heap.size w6 HBK6 (by have := HX6.out; have := HX.out; omega)).mono ?_
      rintro e w7 ⟨rfl, hb7⟩
      have HBK7 := hide0 ((HBK6.out.keep hb7).grow hb7.size (Nat.le_refl _))
      have HW7 := hide0 (((HW.out.trans (HB5.out.mono hsr)).trans HB6.out).trans (hb7.mono (by have h1 := HB5.out.size; have h2 := HB6.out.size; omega)))
      have hfg : (er != er) = false := by simp
      clear hb7 HBK6
      go_wp2
      go_roundw
      case rel => exact ⟨i + 1, tv', xs', by omega, by go_num, rfl, ⟨HX6.out, by omega⟩, HBK7, HW7⟩
      case measure => simp [intOf]; omega
    · have hlti : 2 * (ts.length : Int) ≤ (i : Int) := by omega
      go_wp2_with fail
      refine (whole_any w2.heap.size tv xs wr.heap.size wr HB (by have := HX.out; omega)).mono ?_
      rintro e w9 ⟨rfl, hb9⟩
      go_wp2
      go_ret
      exact ⟨rfl, HW.out.trans (hb9.mono hsr)⟩
end Go.Proofs.Ytdjllnhahhjgmaa
