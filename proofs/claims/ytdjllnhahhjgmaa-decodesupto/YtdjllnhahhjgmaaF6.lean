/- Walk of chronicleref.Decode: the first version, bytes that begin with a letter. -/
import Derived.Test.YtdjllnhahhjgmaaF5
import Derived.Test.YtdjllnhahhjgmaaG2
namespace Go.Proofs.Ytdjllnhahhjgmaa
open Go.RowKit Chron
theorem enc_bad {e : Ev} (h : isB e = false) : encB 1 e = ([], 2) := by
  rw [encB, if_neg (by decide), if_pos (by simp [goesB, h])]
/- which letter was found so far -/
def kU (c : UInt8) : Nat → Int
  | 0 => 0
  | 1 => if c = 98 then 1 else 0
  | 2 => if c = 98 then 1 else if c = 100 then 2 else 0
  | _ => letterKind c
theorem kU_step {c : UInt8} {k : Nat} (hk : k < 3) : kU c (k + 1) = if c = [98, 100, 102][k]'(by simpa using hk) then (k : Int) + 1 else kU c k := by
  match k, hk with
  | 0, _ => rfl
  | 1, _ => simp only [kU]; by_cases h : c = 98 <;> simp [h]
  | 2, _ => simp only [kU, letterKind_eq]; by_cases h : c = 98 <;> by_cases h2 : c = 100 <;> simp [h, h2]
theorem letter_val (k : Nat) (h : k < 3) : (⟨#[98, 100, 102]⟩ : ByteArray)[k]'(by exact h) = [98, 100, 102][k]'(by simpa using h) := by
  match k, h with
  | 0, _ => rfl
  | 1, _ => rfl
  | 2, _ => rfl
theorem Gs.start2 (w : World) (t b : ByteArray) : Gs w.heap.size w ((w.alloc (.cells #[.int .i64 0, .string ⟨#[]⟩, .int .i64 0, .string ⟨#[]⟩, .slice none 0 0] 24)).alloc (.cells #[.int .i64 0, .string t, .int .i64 0, .string b, .slice none 0 0] 24)) ⟨0, t, 0, b, []⟩ (.slice none 0 0) := by
  refine ⟨?_, ?_, World.ownsRow_nil _ _ _ _, ((Below.refl _ _).alloc (Nat.le_refl _) _).alloc (by simp) _⟩
  · rw [Below.heap_alloc _ _ _ (by simp), heap_alloc_new]
  · have := heap_alloc_new (w.alloc (.cells #[.int .i64 0, .string ⟨#[]⟩, .int .i64 0, .string ⟨#[]⟩, .slice none 0 0] 24)) (.cells #[.int .i64 0, .string t, .int .i64 0, .string b, .slice none 0 0] 24)
    rw [World.size_alloc] at this; exact this
set_option maxRecDepth 100000 in
set_option maxHeartbeats 2000000 in
theorem decodeRef_letter (s : ByteArray) (c : UInt8) (r : List UInt8) (w : World) (hs : s.size ≤ 4398046511104) (hcr : s.data.toList = c :: r) (h1 : 1 < s.size) (hc : c ≠ 0) :
    Calls Try.prog 15 #[.int .i64 1, .string s] w fun e w' => ∃ x, e = .returned (.tuple #[evVal (decB 1 s.data.toList).1 x, .int .i64 (decB 1 s.data.toList).2]) ∧ w'.ownsRow w.heap.size 9 1 x (decB 1 s.data.toList).1.tags.length ((decB 1 s.data.toList).1.tags.map Value.string) ∧ Below w.heap.size w w' := by
  have HCR := hide0 hcr
  have h0 : 0 < s.size := by omega
  have hsc : s[0] = c := by
    have := drop_cons s 0 h0
    rw [List.drop_zero, hcr] at this
    simp at this; exact this.symm
  have hz : ((s[0].toNat : Int) != 0) = true := by
    rw [hsc]
    have : ¬ c.toNat = 0 := fun h => hc (UInt8.toNat_inj.1 (by simpa using h))
    simp; omega
  have h1i : (1 : Int) < (s.size : Int) := by omega
  have hT := fun w' => textAt_any s 1 w' (by omega) (by omega)
  rw [show s.data.toList.drop 1 = r by rw [hcr]; rfl] at hT
  have hsd : s.data.toList.length = r.length + 1 := by rw [hcr]; rfl
  have hsz : s.size = r.length + 1 := hsd
  have HSC := hide0 hsc
  have HW0 := hide0 (Gs.start w)
  clear hsc hcr hsd hc
  rcases hq : readTx r with _ | ⟨t, b⟩
  · have HD : Hid (decB 1 s.data.toList = (zeroEv, 3)) := by show _ = _; rw [HCR.out]; exact dec_nothing hq
    have HR := hide0 (enc_bad (e := ⟨letterKind c, ⟨#[]⟩, 0, ⟨#[]⟩, []⟩) (bad_is (by rw [ByteArray.toList_eq])))
    have htm : (⟨#[]⟩ : ByteArray).size ≤ maxLen := Nat.zero_le _
    have hbm : (⟨#[]⟩ : ByteArray).size ≤ maxLen := Nat.zero_le _
    rw [hq] at hT
    simp only [tAtVal] at hT
    clear hq hsz HCR
    go_enter Try.func15, Try.ntmps15
    go_wp2_with fail
    refine (hT _).mono ?_
    rintro e w1 ⟨rfl, hw⟩
    subst hw
    go_wp2
    go_loopw [9] (fun i wx => ∃ k : Nat, k ≤ 3 ∧ i = .int .i64 k ∧ Hid (Gs w.heap.size w wx ⟨kU c k, ⟨#[]⟩, 0, ⟨#[]⟩, []⟩ (.slice none 0 0))) (fun i _ => 3 - (intOf i).toNat)
    case atStart => exact ⟨0, Nat.zero_le _, rfl, HW0⟩
    case round =>
      obtain ⟨k, hk, rfl, HG⟩ := hrel
      obtain ⟨b0, b1, b2, b3, b4, bf⟩ := res_cells HG.out.box
      by_cases hlt : k < 3
      · have hlv : k < (⟨#[98, 100, 102]⟩ : ByteArray).size := hlt
        have hlv2 : k < (#[98, 100, 102] : Array UInt8).size := hlt
        have hlt3 : (k : Int) < 3 := by omega
        by_cases he : c = [98, 100, 102][k]'(by simpa using hlt)
        · have heb : ((s[0].toNat : Int) == ((⟨#[98, 100, 102]⟩ : ByteArray)[k].toNat : Int)) = true := by rw [HSC.out, letter_val k hlt, ← he]; simp
          have HK := hide0 ((kU_step (c := c) hlt).trans (if_pos he))
          clear he
          go_wp2_with fail
          go_quiet (fail)
          go_wp2
          go_roundw
          case rel => exact ⟨k + 1, by omega, by go_num, (HG.out.below (below_of_drewN _)).set rfl (by rw [HK.out]; rfl)⟩
          case measure => simp [intOf]; omega
        · have heb : ((s[0].toNat : Int) == ((⟨#[98, 100, 102]⟩ : ByteArray)[k].toNat : Int)) = false := by rw [HSC.out, letter_val k hlt]; exact byteDiff he
          have HK := hide0 ((kU_step (c := c) hlt).trans (if_neg he))
          clear he
          go_wp2_with fail
          go_quiet (fail)
          go_wp2
          go_roundw
          case rel => exact ⟨k + 1, by omega, by go_num, by rw [HK.out]; exact HG.out.below (below_of_drewN _)⟩
          case measure => simp [intOf]; omega
      · have hk3 : k = 3 := by omega
        subst hk3
        have HW1 : Hid (Gs w.heap.size w wr ⟨letterKind c, ⟨#[]⟩, 0, ⟨#[]⟩, []⟩ (.slice none 0 0)) := HG
        clear HG hlt hk b0 b1 b2 b3 b4 bf
        obtain ⟨b0, b1, b2, b3, b4, bf⟩ := res_cells HW1.out.box
        go_wp2_with fail
        refine (lineOK_any _ _ hbm).mono ?_
        rintro e w2 ⟨rfl, hw⟩
        subst hw
        have hc8 := fun w' => encodeRef_any 1 (letterKind c) ⟨#[]⟩ 0 ⟨#[]⟩ none 0 [] w' (tags_none w') short_none (Nat.zero_le _) htm hbm
        rw [HR.out] at hc8
        go_wp2_with fail
        refine (hc8 _).mono ?_
        clear hc8
        rintro e w8 ⟨rfl, hb8⟩
        have H8 := hide0 (HW1.out.below hb8)
        clear hb8 HW1
        obtain ⟨b0, b1, b2, b3, b4, bf⟩ := res_cells H8.out.box
        obtain ⟨r0, r1, r2, r3, r4, rf⟩ := res_cells H8.out.res
        have n1 : ¬ w.heap.size = w.heap.size + 1 := by omega
        have n2 : ¬ w.heap.size + 1 = w.heap.size := by omega
        go_wp2
        refine bodyPost_ret (v := .tuple #[evVal zeroEv (.slice none 0 0), .int .i64 3]) (by simp [results, Try.results15, go_sem, evVal, zeroEv, r0, r1, r2, r3, r4]) rfl ⟨.slice none 0 0, ?_, ?_, ?_⟩
        · rw [HD.out]
        · rw [HD.out]; exact World.ownsRow_nil _ _ _ _
        · exact below_set5 H8.out.bel (Nat.le_refl _)
  · have hrt := readTx_text hq
    have hsuf := suffix_drop (l := s.data.toList) (x := c :: text t) (r := b) (by rw [HCR.out, hrt]; rfl)
    have hlen : s.data.toList.length = s.size := rfl
    have hbl : b.length ≤ s.size := by rw [hsz, hrt]; simp; omega
    rw [hlen] at hsuf
    have htl : t.length ≤ s.size := by have := readTx_len hq; omega
    obtain ⟨p, hp, hps⟩ : ∃ p : Nat, s.size - b.length = p ∧ p ≤ s.size := ⟨_, rfl, by omega⟩
    rw [hp] at hsuf
    have hex : s.extract p s.size = ⟨b.toArray⟩ := by rw [extract_end, hsuf]
    have htm : (⟨t.toArray⟩ : ByteArray).size ≤ maxLen := by unfold maxLen; show t.length ≤ _; omega
    have hbm : (⟨b.toArray⟩ : ByteArray).size ≤ maxLen := by unfold maxLen; show b.length ≤ _; omega
    have HQ := hide0 hq
    rw [hq] at hT
    simp only [tAtVal, hp] at hT
    clear hq hsz hrt hsuf hlen hp
    go_enter Try.func15, Try.ntmps15
    go_wp2_with fail
    refine (hT _).mono ?_
    rintro e w1 ⟨rfl, hw⟩
    subst hw
    go_wp2
    go_loopw [9] (fun i wx => ∃ k : Nat, k ≤ 3 ∧ i = .int .i64 k ∧ Hid (Gs w.heap.size w wx ⟨kU c k, ⟨t.toArray⟩, 0, ⟨b.toArray⟩, []⟩ (.slice none 0 0))) (fun i _ => 3 - (intOf i).toNat)
    case atStart => exact ⟨0, Nat.zero_le _, rfl, Gs.start2 w ⟨t.toArray⟩ ⟨b.toArray⟩⟩
    case round =>
      obtain ⟨k, hk, rfl, HG⟩ := hrel
      obtain ⟨b0, b1, b2, b3, b4, bf⟩ := res_cells HG.out.box
      by_cases hlt : k < 3
      · have hlv : k < (⟨#[98, 100, 102]⟩ : ByteArray).size := hlt
        have hlv2 : k < (#[98, 100, 102] : Array UInt8).size := hlt
        have hlt3 : (k : Int) < 3 := by omega
        by_cases he : c = [98, 100, 102][k]'(by simpa using hlt)
        · have heb : ((s[0].toNat : Int) == ((⟨#[98, 100, 102]⟩ : ByteArray)[k].toNat : Int)) = true := by rw [HSC.out, letter_val k hlt, ← he]; simp
          have HK := hide0 ((kU_step (c := c) hlt).trans (if_pos he))
          clear he
          go_wp2_with fail
          go_quiet (fail)
          go_wp2
          go_roundw
          case rel => exact ⟨k + 1, by omega, by go_num, (HG.out.below (below_of_drewN _)).set rfl (by rw [HK.out]; rfl)⟩
          case measure => simp [intOf]; omega
        · have heb : ((s[0].toNat : Int) == ((⟨#[98, 100, 102]⟩ : ByteArray)[k].toNat : Int)) = false := by rw [HSC.out, letter_val k hlt]; exact byteDiff he
          have HK := hide0 ((kU_step (c := c) hlt).trans (if_neg he))
          clear he
          go_wp2_with fail
          go_quiet (fail)
          go_wp2
          go_roundw
          case rel => exact ⟨k + 1, by omega, by go_num, by rw [HK.out]; exact HG.out.below (below_of_drewN _)⟩
          case measure => simp [intOf]; omega
      · have hk3 : k = 3 := by omega
        subst hk3
        have HW1 : Hid (Gs w.heap.size w wr ⟨letterKind c, ⟨t.toArray⟩, 0, ⟨b.toArray⟩, []⟩ (.slice none 0 0)) := HG
        clear HG hlt hk b0 b1 b2 b3 b4 bf
        obtain ⟨b0, b1, b2, b3, b4, bf⟩ := res_cells HW1.out.box
        go_wp2_with fail
        refine (lineOK_any _ _ hbm).mono ?_
        rintro e w2 ⟨rfl, hw⟩
        subst hw
        obtain ⟨r0, r1, r2, r3, r4, rf⟩ := res_cells HW1.out.res
        have n1 : ¬ w.heap.size = w.heap.size + 1 := by omega
        have n2 : ¬ w.heap.size + 1 = w.heap.size := by omega
        by_cases ht : t = []
        · subst ht
          by_cases hd : isB (dashE c b) = true
          · have HD : Hid (decB 1 s.data.toList = (dashE c b, 0)) := by show _ = _; rw [HCR.out, dec_dash HQ.out, if_neg (by simp [hd])]
            rw [is_dash] at hd
            simp only [Bool.and_eq_true, decide_eq_true_eq] at hd
            obtain ⟨hk1, hl⟩ := hd
            have hkp : (0 : Int) < letterKind c := by omega
            clear hk1
            go_wp2
            refine bodyPost_ret (v := .tuple #[evVal (dashE c b) (.slice none 0 0), .int .i64 0]) (by simp [results, Try.results15, go_sem, evVal, dashE, r0, r1, r2, r3, r4]) rfl ⟨.slice none 0 0, ?_, ?_, ?_⟩
            · rw [HD.out]
            · rw [HD.out]; exact World.ownsRow_nil _ _ _ _
            · exact below_set5 (HW1.out.bel.setCell (by show w.heap.size ≤ w.heap.size + 1; omega) _) (Nat.le_refl _)
          · have hd' : isB (dashE c b) = false := by simpa using hd
            have HD : Hid (decB 1 s.data.toList = (zeroEv, 3)) := by show _ = _; rw [HCR.out, dec_dash HQ.out, if_pos hd']
            have HR := hide0 (enc_bad (e := ⟨letterKind c, ⟨#[]⟩, 0, ⟨b.toArray⟩, []⟩) (bad_is (by rw [ByteArray.toList_eq])))
            rw [is_dash] at hd'
            clear hd
            by_cases hl : lineB ⟨b.toArray⟩ = true
            · have hkp : ¬ (0 : Int) < letterKind c := by simp [hl] at hd'; omega
              clear hd'
              have hc8 := fun w' => encodeRef_any 1 (letterKind c) ⟨#[]⟩ 0 ⟨b.toArray⟩ none 0 [] w' (tags_none w') short_none (Nat.zero_le _) htm hbm
              rw [HR.out] at hc8
              go_wp2_with fail
              refine (hc8 _).mono ?_
              clear hc8
              rintro e w8 ⟨rfl, hb8⟩
              have H8 := hide0 (HW1.out.below hb8)
              clear hb8 HW1
              obtain ⟨b0, b1, b2, b3, b4, bf⟩ := res_cells H8.out.box
              obtain ⟨r0, r1, r2, r3, r4, rf⟩ := res_cells H8.out.res
              have n1 : ¬ w.heap.size = w.heap.size + 1 := by omega
              have n2 : ¬ w.heap.size + 1 = w.heap.size := by omega
              go_wp2
              refine bodyPost_ret (v := .tuple #[evVal zeroEv (.slice none 0 0), .int .i64 3]) (by simp [results, Try.results15, go_sem, evVal, zeroEv, r0, r1, r2, r3, r4]) rfl ⟨.slice none 0 0, ?_, ?_, ?_⟩
              · rw [HD.out]
              · rw [HD.out]; exact World.ownsRow_nil _ _ _ _
              · exact below_set5 H8.out.bel (Nat.le_refl _)
            · have hl' : lineB ⟨b.toArray⟩ = false := by simpa using hl
              clear hd' hl
              have hc8 := fun w' => encodeRef_any 1 (letterKind c) ⟨#[]⟩ 0 ⟨b.toArray⟩ none 0 [] w' (tags_none w') short_none (Nat.zero_le _) htm hbm
              rw [HR.out] at hc8
              go_wp2_with fail
              refine (hc8 _).mono ?_
              clear hc8
              rintro e w8 ⟨rfl, hb8⟩
              have H8 := hide0 (HW1.out.below hb8)
              clear hb8 HW1
              obtain ⟨b0, b1, b2, b3, b4, bf⟩ := res_cells H8.out.box
              obtain ⟨r0, r1, r2, r3, r4, rf⟩ := res_cells H8.out.res
              have n1 : ¬ w.heap.size = w.heap.size + 1 := by omega
              have n2 : ¬ w.heap.size + 1 = w.heap.size := by omega
              go_wp2
              refine bodyPost_ret (v := .tuple #[evVal zeroEv (.slice none 0 0), .int .i64 3]) (by simp [results, Try.results15, go_sem, evVal, zeroEv, r0, r1, r2, r3, r4]) rfl ⟨.slice none 0 0, ?_, ?_, ?_⟩
              · rw [HD.out]
              · rw [HD.out]; exact World.ownsRow_nil _ _ _ _
              · exact below_set5 H8.out.bel (Nat.le_refl _)
        · have hte : t.isEmpty = false := by simpa using ht
          have hte2 : (⟨t.toArray⟩ : ByteArray).toList.isEmpty = false := by rw [ByteArray.toList_eq]; exact hte
          by_cases hg : goesB 1 (plainE c t b) = true
          · have HR : Hid (encB 1 ⟨letterKind c, ⟨t.toArray⟩, 0, ⟨b.toArray⟩, []⟩ = (s.data.toList, 0)) := by show encB 1 (plainE c t b) = _; rw [enc_plain HQ.out, if_neg (by simp [hg]), HCR.out]
            have HD : Hid (decB 1 s.data.toList = (plainE c t b, 0)) := by show _ = _; rw [HCR.out, dec_plain HQ.out ht, if_neg (by simp [hg])]
            clear hg ht
            have hc8 := fun w' => encodeRef_any 1 (letterKind c) ⟨t.toArray⟩ 0 ⟨b.toArray⟩ none 0 [] w' (tags_none w') short_none (Nat.zero_le _) htm hbm
            rw [HR.out] at hc8
            go_wp2_with fail
            refine (hc8 _).mono ?_
            clear hc8
            rintro e w8 ⟨rfl, hb8⟩
            have H8 := hide0 (HW1.out.below hb8)
            clear hb8 HW1
            obtain ⟨b0, b1, b2, b3, b4, bf⟩ := res_cells H8.out.box
            obtain ⟨r0, r1, r2, r3, r4, rf⟩ := res_cells H8.out.res
            have n1 : ¬ w.heap.size = w.heap.size + 1 := by omega
            have n2 : ¬ w.heap.size + 1 = w.heap.size := by omega
            have hsb : (s.data.toList == s.toList) = true := by rw [ByteArray.toList_eq]; simp
            go_wp2
            refine bodyPost_ret (v := .tuple #[evVal (plainE c t b) (.slice none 0 0), .int .i64 0]) (by simp [results, Try.results15, go_sem, evVal, plainE, r0, r1, r2, r3, r4]) rfl ⟨.slice none 0 0, ?_, ?_, ?_⟩
            · rw [HD.out]
            · rw [HD.out]; exact World.ownsRow_nil _ _ _ _
            · exact below_set5 H8.out.bel (Nat.le_refl _)
          · have hg' : goesB 1 (plainE c t b) = false := by simpa using hg
            have HR : Hid (encB 1 ⟨letterKind c, ⟨t.toArray⟩, 0, ⟨b.toArray⟩, []⟩ = ([], 2)) := by show encB 1 (plainE c t b) = _; rw [enc_plain HQ.out, if_pos hg']
            have HD : Hid (decB 1 s.data.toList = (zeroEv, 3)) := by show _ = _; rw [HCR.out, dec_plain HQ.out ht, if_pos hg']
            clear hg hg' ht
            have hc8 := fun w' => encodeRef_any 1 (letterKind c) ⟨t.toArray⟩ 0 ⟨b.toArray⟩ none 0 [] w' (tags_none w') short_none (Nat.zero_le _) htm hbm
            rw [HR.out] at hc8
            go_wp2_with fail
            refine (hc8 _).mono ?_
            clear hc8
            rintro e w8 ⟨rfl, hb8⟩
            have H8 := hide0 (HW1.out.below hb8)
            clear hb8 HW1
            obtain ⟨b0, b1, b2, b3, b4, bf⟩ := res_cells H8.out.box
            obtain ⟨r0, r1, r2, r3, r4, rf⟩ := res_cells H8.out.res
            have n1 : ¬ w.heap.size = w.heap.size + 1 := by omega
            have n2 : ¬ w.heap.size + 1 = w.heap.size := by omega
            go_wp2
            refine bodyPost_ret (v := .tuple #[evVal zeroEv (.slice none 0 0), .int .i64 3]) (by simp [results, Try.results15, go_sem, evVal, zeroEv, r0, r1, r2, r3, r4]) rfl ⟨.slice none 0 0, ?_, ?_, ?_⟩
            · rw [HD.out]
            · rw [HD.out]; exact World.ownsRow_nil _ _ _ _
            · exact below_set5 H8.out.bel (Nat.le_refl _)
end Go.Proofs.Ytdjllnhahhjgmaa
