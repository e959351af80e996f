/- Walks and plain facts, in the order in which they lean on one another. -/
import Derived.Test.YtdjllnhahhjgmaaGreatW10
import Derived.Test.YtdjllnhahhjgmaaGreatW05
import Derived.Test.YtdjllnhahhjgmaaGreatW09
namespace Go.Proofs.YtdjllnhahhjgmaaGreat
open Go.RowKit Chron
theorem make_long {o c : ByteArray} (h : 65536 < o.size ∨ 65536 < c.size) : makeB o.data.toList c.data.toList = ([], 3) := by
  rw [makeB, if_pos]; simpa using h
theorem make_eq {o c : ByteArray} {f e : Nat} (h1 : o.size ≤ 65536) (h2 : c.size ≤ 65536) (hf : fr o.data.toList c.data.toList = f) (he : en o.data.toList c.data.toList = e) :
    makeB o.data.toList c.data.toList = (num f ++ num e ++ (c.data.toList.drop f).take (c.size - f - e), 0) := by
  rw [makeB, if_neg (by simp; omega), hf, he, mid, hf, he]; rfl
set_option maxRecDepth 100000 in
set_option maxHeartbeats 3000000 in
theorem make_any (o c : ByteArray) (w : World) (ho : o.size ≤ maxLen) (hc : c.size ≤ maxLen) :
    Calls Tryz.prog 58 #[.string o, .string c] w fun e w' => e = .returned (seVal (makeB o.data.toList c.data.toList)) ∧ Below w.heap.size w w' := by
  unfold maxLen at ho hc
  by_cases h1 : 65536 < o.size
  · have HX := hide0 (make_long (o := o) (c := c) (.inl h1))
    go_enter Tryz.func58, Tryz.ntmps58
    go_wp2
    go_ret2
    exact ⟨ret_bad HX.out, Below.refl _ _⟩
  by_cases h2 : 65536 < c.size
  · have HX := hide0 (make_long (o := o) (c := c) (.inr h2))
    go_enter Tryz.func58, Tryz.ntmps58
    go_wp2
    go_ret2
    exact ⟨ret_bad HX.out, Below.refl _ _⟩
  have hF := fun w' => front_any o c w' (by omega) (by omega)
  have hfl := fr_le o.data.toList c.data.toList
  have hel := en_le o.data.toList c.data.toList
  have h3 : o.data.toList.length = o.size := rfl
  have h4 : c.data.toList.length = c.size := rfl
  rw [h3, h4] at hfl hel
  rw [show pre o.data.toList c.data.toList = fr o.data.toList c.data.toList from rfl] at hF
  obtain ⟨f, hf⟩ : ∃ f, fr o.data.toList c.data.toList = f := ⟨_, rfl⟩
  obtain ⟨n, hn⟩ : ∃ n, en o.data.toList c.data.toList = n := ⟨_, rfl⟩
  have HX := hide0 (make_eq (o := o) (c := c) (by omega) (by omega) hf hn)
  have hn2 : pre (o.data.toList.drop f).reverse (c.data.toList.drop f).reverse = n := by rw [← hf]; exact hn
  rw [hf] at hF hfl hel
  rw [hn] at hel
  obtain ⟨O, hO, hOs⟩ : ∃ O : ByteArray, o.extract f o.size = O ∧ O.data.toList = o.data.toList.drop f := ⟨_, rfl, by rw [extract_end]⟩
  obtain ⟨N, hN, hNs⟩ : ∃ N : ByteArray, c.extract f c.size = N ∧ N.data.toList = c.data.toList.drop f := ⟨_, rfl, by rw [extract_end]⟩
  have hOl : O.size = o.size - f := by have := congrArg List.length hOs; rw [List.length_drop] at this; exact this
  have hNl : N.size = c.size - f := by have := congrArg List.length hNs; rw [List.length_drop] at this; exact this
  have hE := fun w' => end_any O N w' (by omega) (by omega)
  rw [hOs, hNs, hn2] at hE
  obtain ⟨q, hq, hq2, HQ⟩ : ∃ q : Nat, IntKind.i64.wrap ((N.size : Int) - (n : Int)) = q ∧ q ≤ N.size ∧ Hid (q = c.size - f - n) := ⟨N.size - n, by rw [wrapI_small (by omega) (by omega)]; omega, by omega, by show _ = _; omega⟩
  have hNk : ∀ (k : Nat) (w' : World), k ≤ 65536 → Hid (Below w.heap.size w w') → Calls Tryz.prog 57 #[.int .i64 k] w' fun e w'' => e = .returned (.string ⟨(num k).toArray⟩) ∧ Hid (Below w.heap.size w w'') := by
    intro k w' hk HB
    refine (wireNumber_any (k : Int) w' (by omega) (by show (k : Int).toNat < 128 ^ 9; omega)).mono ?_
    rintro e w'' ⟨rfl, hb⟩
    exact ⟨by rw [Int.toNat_natCast], HB.out.trans (hb.mono HB.out.size)⟩
  have hfo : f ≤ o.size := hfl.1
  have hfc : f ≤ c.size := hfl.2
  have hl1 := num_len f
  have hl2 := num_len n
  have HNS := hide0 hNs
  have hf6 : f ≤ 65536 := by omega
  have hn6 : n ≤ 65536 := by omega
  have hN6 : N.size ≤ 65536 := by omega
  clear hf hn hn2 hOs hNs hOl hNl
  go_enter Tryz.func58, Tryz.ntmps58
  go_wp2_with fail
  refine (hF _).mono ?_
  rintro e w1 ⟨rfl, nq, rfl⟩
  go_wp2_with fail
  go_quiet (fail)
  go_wp2_with fail
  refine (hE _).mono ?_
  rintro e w1 ⟨rfl, nq2, rfl⟩
  go_wp2_with fail
  clear hF hE h3 h4
  go_region_held (fun _ => True) (go_keep)
    (first
      | (go_at_call 57; refine (hNk _ _ (by assumption) (by first | assumption | exact below_of_drewN _)).mono ?_; rintro e w3 ⟨rfl, HB3⟩))
  all_goals
    go_wp2
    go_ret2
    exact ⟨(ret_se (p := (num f ++ num n ++ (c.data.toList.drop f).take (c.size - f - n), 0)) (by rw [extract_front, HNS.out, HQ.out]; apply bytes_inj; simp) rfl).trans (by rw [HX.out]), HB3.out⟩
end Go.Proofs.YtdjllnhahhjgmaaGreat
namespace Go.Proofs.YtdjllnhahhjgmaaGreat
open Go.RowKit Chron
theorem lastB_get : ∀ (old : ByteArray) (l : List Ev) (n : Nat) (e : Ev), l[n]? = some e → lastB old (l.take (n + 1)) = e.body
  | _, [], _, _, h => by simp at h
  | old, x :: r, 0, e, h => by simp at h; subst h; simp [lastB]
  | old, x :: r, n + 1, e, h => by
    simp only [List.getElem?_cons_succ] at h
    rw [List.take_succ_cons, lastB]
    exact lastB_get x.body r n e h
theorem lastB_end (old : ByteArray) (l : List Ev) (e : Ev) (h : l[l.length - 1]? = some e) : lastB old l = e.body := by
  have hl := (List.getElem?_eq_some_iff.1 h).1
  have := lastB_get old l (l.length - 1) e h
  rw [show l.length - 1 + 1 = l.length by omega, List.take_length] at this
  exact this
theorem evsB_get (v : Int) : ∀ (old : ByteArray) (l : List Ev) (n : Nat) (e : Ev), l[n]? = some e → evsB v old (l.take (n + 1)) = evsB v old (l.take n) ++ evB v (lastB old (l.take n)) e
  | _, [], _, _, h => by simp at h
  | old, x :: r, 0, e, h => by simp at h; subst h; simp [evsB, lastB]
  | old, x :: r, n + 1, e, h => by
    simp only [List.getElem?_cons_succ] at h
    rw [List.take_succ_cons, List.take_succ_cons, evsB, evsB, lastB, evsB_get v x.body r n e h, List.append_assoc]
theorem text_small {l : List UInt8} (h : l.length ≤ 321) : (text l).length ≤ l.length + 2 := by
  have := num_fuel (f := 2) (k := l.length) (by omega) (by omega) (by omega)
  simp only [text, List.length_append]; omega
theorem evB_len {v : Int} {old : ByteArray} {e : Ev} (h : goesB v e = true) (ho : old.size ≤ 60) : (evB v old e).length ≤ 400 := by
  have h1 := (bare_len h).2
  have h2 := chg_len ho (is_known (goes_is h)).body
  have h3 := text_small h1
  have h4 := text_small (l := chgB old e.body) (by omega)
  simp only [evB, List.length_append]; omega
theorem evsB_len (v : Int) : ∀ (old : ByteArray) (l : List Ev), (∀ e ∈ l, goesB v e = true) → old.size ≤ 60 → (evsB v old l).length ≤ 400 * l.length
  | _, [], _, _ => by simp [evsB]
  | old, e :: r, h, ho => by
    have h1 := evB_len (h e List.mem_cons_self) ho
    have h2 := evsB_len v e.body r (fun x hx => h x (List.mem_cons_of_mem _ hx)) (is_known (goes_is (h e List.mem_cons_self))).body
    simp only [evsB, List.length_append, List.length_cons]; omega
theorem entryB_len {v : Int} {old : ByteArray} {l : List Ev} (h : ∀ e ∈ l, goesB v e = true) (ho : old.size ≤ 60) : (entryB v old l).length ≤ 400 * l.length + 20 := by
  have h1 := evsB_len v old l h ho
  have h2 := num_len v.toNat
  have h3 := num_len l.length
  simp only [entryB, headB, List.length_append]; omega
set_option maxRecDepth 100000 in
set_option maxHeartbeats 400000 in
theorem lastBody_any (a : Option Addr) (cap : Nat) (its : List Item) (w : World) (hE : Hid (EvsAt w a its)) (hl : its.length ≤ 1000000) :
    Calls Tryz.prog 43 #[.slice a its.length cap] w fun e w' => e = .returned (.string (lastB noB (evs its))) ∧ w' = w := by
  by_cases h0 : its.length = 0
  · have hn : its = [] := List.eq_nil_of_length_eq_zero h0
    subst hn
    go_enter Tryz.func43, Tryz.ntmps43
    go_wp2
    go_ret
    exact ⟨rfl, rfl⟩
  · obtain ⟨b, off, rfl, hc⟩ := hE.out (by omega)
    have hlt : its.length - 1 < its.length := by omega
    obtain ⟨hcell, _⟩ := hc (its.length - 1) its[its.length - 1] (List.getElem?_eq_getElem hlt)
    have HL : Hid (lastB noB (evs its) = its[its.length - 1].ev.body) := lastB_end noB (evs its) _ (by simp [evs, hlt])
    have hc3 := hcell.c3
    clear hc hcell
    generalize its[its.length - 1].ev.body = x at HL hc3
    obtain ⟨m, hm⟩ : ∃ m : Nat, its.length = m + 1 := ⟨its.length - 1, by omega⟩
    rw [hm] at hc3 ⊢
    simp only [Nat.add_sub_cancel] at hc3
    go_enter Tryz.func43, Tryz.ntmps43
    go_wp2
    go_ret
    exact ⟨by rw [HL.out]; rfl, rfl⟩
set_option maxRecDepth 100000 in
theorem bput_any (b : Nat) (l : List UInt8) (s : ByteArray) (w : World) (h : Hid (Lib.IsBuilderF 102 5 b b (Lib.byteCells l) w)) (hl : l.length + s.size ≤ 1000000) :
    Calls Tryz.prog 56 #[.pointer (some ⟨b, 0, none⟩), .string s] w fun e w' => (∃ r, e = .returned r) ∧ Hid (Lib.IsBuilderF 102 5 b b (Lib.byteCells (l ++ s.data.toList)) w') ∧ Below b w w' := by
  have hlt := builder_lt h.out
  refine (Tryz.Builder_WriteString_k b b _ s w h.out (by rw [Lib.byteCells_length]; omega) (by omega)).mono ?_
  rintro e w2 ⟨rfl, hB2, hb2, _⟩
  rw [strCells_bytes] at hB2
  exact ⟨⟨_, rfl⟩, Or.inr hB2, hb2⟩
/- where a writing stands: the builder, and all that was there before -/
structure Wr (w wx : World) (l : List UInt8) : Prop where
  bld : Lib.IsBuilderF 102 5 w.heap.size w.heap.size (Lib.byteCells l) wx
  bel : Below w.heap.size w wx
theorem Wr.more {w wx wy : World} {l : List UInt8} (h : Wr w wx l) (hb : Below wx.heap.size wx wy) : Wr w wy l := ⟨builder_below h.bld hb, h.bel.trans (hb.mono h.bel.size)⟩
theorem Wr.lt {w wx : World} {l : List UInt8} (h : Wr w wx l) : w.heap.size < wx.heap.size := builder_lt h.bld
theorem wput_any (w wx : World) (l : List UInt8) (s : ByteArray) (h : Hid (Wr w wx l)) (hl : l.length + s.size ≤ 1000000) :
    Calls Tryz.prog 56 #[.pointer (some ⟨w.heap.size, 0, none⟩), .string s] wx fun e w' => (∃ r, e = .returned r) ∧ Hid (Wr w w' (l ++ s.data.toList)) ∧ Below w.heap.size wx w' := by
  refine (bput_any w.heap.size l s wx h.out.bld hl).mono ?_
  rintro e w2 ⟨hr, hB, hb⟩
  exact ⟨hr, ⟨hB.out, h.out.bel.trans hb⟩, hb⟩
set_option maxRecDepth 100000 in
set_option maxHeartbeats 4000000 in
theorem write_any (v : Int) (body : ByteArray) (a : Option Addr) (cap : Nat) (its : List Item) (w : World) (hE : Hid (EvsAt w a its)) (hv1 : 1 ≤ v) (hv3 : v ≤ 3) (hb : body.size ≤ 60) (hok : Hid (∀ e ∈ evs its, goesB v e = true)) (hl : its.length ≤ 200) :
    Calls Tryz.prog 42 #[.int .i64 v, .string body, .slice a its.length cap] w fun e w' => e = .returned (.string ⟨(entryB v body (evs its)).toArray⟩) ∧ Below w.heap.size w w' := by
  have HW0 : Hid (Wr w (w.alloc (.cells #[.pointer none, .slice none 0 0] 102)) []) := ⟨builder_new _ _ w, (Below.refl _ _).alloc (Nat.le_refl _) _⟩
  have hn1 := num_len v.toNat
  have hn2 := num_len its.length
  have hN2 : ∀ w', Calls Tryz.prog 57 #[.int .i64 (its.length : Int)] w' fun e w'' => e = .returned (.string ⟨(num its.length).toArray⟩) ∧ Below w'.heap.size w' w'' := by
    intro w'
    have := wireNumber_any (its.length : Int) w' (by omega) (by show (its.length : Int).toNat < 128 ^ 9; omega)
    rw [Int.toNat_natCast] at this
    exact this
  go_enter Tryz.func42, Tryz.ntmps42
  go_wp2_with fail
  refine (wireNumber_any v _ (by omega) (by show v.toNat < 128 ^ 9; omega)).mono ?_
  rintro e w1 ⟨rfl, hb1⟩
  have HW1 := hide0 (HW0.out.more hb1)
  clear HW0 hb1
  go_wp2_with fail
  refine (wput_any w w1 _ _ HW1 (by show 0 + (num v.toNat).length ≤ _; omega)).mono ?_
  rintro e w2 ⟨⟨r2, rfl⟩, HW2, _⟩
  clear HW1
  go_wp2_with fail
  refine (hN2 _).mono ?_
  rintro e w3 ⟨rfl, hb3⟩
  have HW3 := hide0 (HW2.out.more hb3)
  clear HW2 hb3
  go_wp2_with fail
  refine (wput_any w w3 _ _ HW3 (by show ([] ++ num v.toNat).length + (num its.length).length ≤ _; simp only [List.nil_append]; omega)).mono ?_
  rintro e w4 ⟨⟨r4, rfl⟩, HW4, _⟩
  have HW5 : Hid (Wr w w4 (headB v its.length ++ evsB v body ((evs its).take 0))) := by
    have e : headB v its.length ++ evsB v body ((evs its).take 0) = [] ++ (⟨(num v.toNat).toArray⟩ : ByteArray).data.toList ++ (⟨(num its.length).toArray⟩ : ByteArray).data.toList := by simp [headB, evsB]
    rw [e]; exact HW4
  clear HW3 HW4 hN2
  have hes : (evs its).length = its.length := by simp [evs]
  go_wp2_with fail
  go_loopw [1, 23] (fun bv iv wx => ∃ n : Nat, n ≤ its.length ∧ iv = .int .i64 n ∧ bv = .string (lastB body ((evs its).take n)) ∧ Hid (Wr w wx (headB v its.length ++ evsB v body ((evs its).take n)))) (fun _ i _ => its.length - (intOf i).toNat)
  case atStart => exact ⟨0, Nat.zero_le _, rfl, rfl, HW5⟩
  case round =>
    obtain ⟨n, hn, rfl, rfl, HW⟩ := hrel
    clear HW5
    have hgd : ∀ e ∈ (evs its).take n, goesB v e = true := fun e he => hok.out e (List.mem_of_mem_take he)
    have hbn := lastB_size hb ((evs its).take n) (fun e he => goes_is (hgd e he))
    have hsz := evsB_len v body ((evs its).take n) hgd hb
    have htk : ((evs its).take n).length ≤ 200 := by rw [List.length_take]; omega
    have hhd : (headB v its.length).length ≤ 20 := by simp only [headB, List.length_append]; omega
    clear hgd
    by_cases hlt : n < its.length
    · have hEw := hE.out.below HW.out.bel (Nat.le_refl _)
      obtain ⟨g, off, rfl, hc⟩ := hEw (by omega)
      obtain ⟨hcell, hitem⟩ := hc n its[n] (List.getElem?_eq_getElem hlt)
      have hx : (evs its)[n]? = some its[n].ev := by simp [evs, hlt]
      have hgood := hok.out its[n].ev (List.mem_of_getElem? hx)
      have HX := hide0 hx
      generalize its[n] = it at hcell hitem hgood HX hx
      obtain ⟨⟨k, t, m, b, ts⟩, ia, ic⟩ := it
      obtain ⟨c0, c1, c2, c3, c4⟩ := hcell
      have hK := is_known (goes_is hgood)
      have hlines := hK.lines
      have hSh : Short ts := fun i hi => by rw [List.getElem?_eq_getElem hi]; exact Nat.le_trans (hlines _ (List.getElem_mem hi)) (by decide)
      have hbl := bare_len hgood
      have hcl := chg_len hbn hK.body
      have HG := hide0 hgood
      have ht0 := hK.task
      have hb0 := hK.body
      have hf0 := hK.few
      simp only at c0 c1 c2 c3 c4 ht0 hb0 hf0 hcl
      have htags := hitem.tags
      simp only at htags
      have HNX : Hid (headB v its.length ++ evsB v body ((evs its).take (n + 1)) = headB v its.length ++ evsB v body ((evs its).take n) ++ evB v (lastB body ((evs its).take n)) ⟨k, t, m, b, ts⟩ ∧ lastB body ((evs its).take (n + 1)) = b) := ⟨by rw [evsB_get v body (evs its) n _ hx, List.append_assoc], lastB_get body (evs its) n _ hx⟩
      have hacc : (headB v its.length ++ evsB v body ((evs its).take n)).length ≤ 90000 := by rw [List.length_append]; omega
      clear hc hK hlines hitem hx hgood hEw
      generalize lastB body ((evs its).take n) = old at *
      generalize headB v its.length ++ evsB v body ((evs its).take n) = acc at *
      have hs0 := HW.out.lt
      go_wp2_with fail
      have hM := make_any old b (wr.alloc (.cells #[.int .i64 k, .string t, .int .i64 m, .string b, .slice ia ts.length ic] 38)) (by unfold maxLen; omega) (by unfold maxLen; omega)
      refine hM.mono ?_
      rintro e w1 ⟨rfl, hb1⟩
      simp only [seVal]
      have hs1 := hb1.size
      rw [World.size_alloc] at hs1
      have hbx := (hb1.block wr.heap.size (by rw [World.size_alloc]; omega)).trans (heap_alloc_new wr _)
      obtain ⟨k0, k1, k2, k3, k4, kz⟩ := res_cells hbx
      have hB1 : Below wr.heap.size wr (w1.setCell ⟨wr.heap.size, 3, none⟩ (.string ⟨#[]⟩)) := (((Below.refl _ _).alloc (Nat.le_refl _) _).trans (hb1.mono (by simp))).setCell (Nat.le_refl _) _
      have HW1 := hide0 (HW.out.more hB1)
      have hT1 := htags.below hB1 (Nat.le_refl _)
      clear hM hB1 hb1 HW htags c0 c1 c2 c3 c4
      go_wp2_with fail
      refine (encode_any v k t m ⟨#[]⟩ ia ic ts _ hT1 hSh (by unfold maxLen; omega) (by unfold maxLen; omega) (by decide)).mono ?_
      rintro e w2 ⟨rfl, hb2⟩
      have HW2 := hide0 (HW1.out.more hb2)
      clear HW1 hT1 hb2 hbx k0 k1 k2 k3 k4 kz hSh
      have hbe : (encB v ⟨k, t, m, ⟨#[]⟩, ts⟩).1.length ≤ 321 := hbl.2
      have HEV : Hid (evB v old ⟨k, t, m, b, ts⟩ = text (encB v ⟨k, t, m, ⟨#[]⟩, ts⟩).1 ++ text (makeB old.data.toList b.data.toList).1) := rfl
      have hce : (makeB old.data.toList b.data.toList).1.length ≤ 62 := hcl
      clear hbl hcl
      generalize (encB v ⟨k, t, m, ⟨#[]⟩, ts⟩).1 = bare at *
      generalize (makeB old.data.toList b.data.toList).1 = chg at *
      have htb := text_small hbe
      have htc := text_small (l := chg) (by omega)
      go_wp2_with fail
      refine (wireText_any ⟨bare.toArray⟩ _ (by show bare.length ≤ _; omega)).mono ?_
      rintro e w3 ⟨rfl, hb3⟩
      have HW3 := hide0 (HW2.out.more hb3)
      clear HW2 hb3
      go_wp2_with fail
      refine (wput_any w w3 _ _ HW3 (by show acc.length + (text bare).length ≤ _; omega)).mono ?_
      rintro e w4 ⟨⟨r5, rfl⟩, HW4, _⟩
      clear HW3
      go_wp2_with fail
      refine (wireText_any ⟨chg.toArray⟩ _ (by show chg.length ≤ _; omega)).mono ?_
      rintro e w5 ⟨rfl, hb5⟩
      have HW5 := hide0 (HW4.out.more hb5)
      clear HW4 hb5
      go_wp2_with fail
      refine (wput_any w w5 _ _ HW5 (by show (acc ++ text bare).length + (text chg).length ≤ _; rw [List.length_append]; omega)).mono ?_
      rintro e w6 ⟨⟨r6, rfl⟩, HW6, _⟩
      clear HW5
      go_wp2
      go_roundw
      case rel => exact ⟨n + 1, by omega, by go_num, by rw [HNX.out.2], by rw [HNX.out.1, HEV.out, ← List.append_assoc]; exact HW6⟩
      case measure => simp [intOf]; omega
    · have hnn : n = its.length := by omega
      have HFIN : Hid (headB v its.length ++ evsB v body ((evs its).take n) = entryB v body (evs its)) := by
        have : (evs its).take n = evs its := by rw [hnn, ← hes, List.take_length]
        show headB v its.length ++ evsB v body ((evs its).take n) = _
        rw [this, entryB, hes]
      rw [HFIN.out] at HW
      have hs0 := HW.out.lt
      go_wp2_with fail
      refine (Tryz.Builder_String_any_k w.heap.size w.heap.size _ _ HW.out.bld (by omega)).mono ?_
      rintro e w7 ⟨rfl, _, hb7, _⟩
      go_wp2
      go_ret
      exact ⟨rfl, HW.out.bel.trans hb7⟩
end Go.Proofs.YtdjllnhahhjgmaaGreat
namespace Go.Proofs.YtdjllnhahhjgmaaGreat
open Go.RowKit Chron
theorem goes_three {e : Ev} (h : isB e = true) : goesB 3 e = true := by
  have h3 : isVer 3 = true := by decide
  have h4 : fitsB 3 e = true := by simp [fitsB]
  simp only [goesB, h3, h, h4, Bool.and_self]
theorem EvsAt.front {w : World} {a : Option Addr} {its : List Item} (h : EvsAt w a its) (n : Nat) : EvsAt w a (its.take n) := by
  intro h0
  obtain ⟨b, off, rfl, hc⟩ := h (by rw [List.length_take] at h0; omega)
  refine ⟨b, off, rfl, fun k i hk => hc k i ?_⟩
  have := (List.getElem?_eq_some_iff.1 hk).1
  rw [List.length_take] at this
  rw [List.getElem?_take, if_pos (by omega)] at hk
  exact hk
theorem evsAt_one (X : World) {i : Item} (hi : ItemOk X i) : EvsAt (X.alloc (.cells #[.int .i64 i.ev.kind, .string i.ev.task, .int .i64 i.ev.time, .string i.ev.body, .slice i.at' i.ev.tags.length i.cap] 38)) (some ⟨X.heap.size, 0, none⟩) [i] := by
  intro _
  refine ⟨X.heap.size, 0, rfl, fun k j hk => ?_⟩
  have hk0 : k = 0 := by
    have := (List.getElem?_eq_some_iff.1 hk).1
    simp at this; exact this
  subst hk0
  simp only [List.getElem?_cons_zero, Option.some.injEq] at hk
  subst hk
  obtain ⟨c0, c1, c2, c3, c4, _⟩ := res_cells (heap_alloc_new X (.cells #[.int .i64 i.ev.kind, .string i.ev.task, .int .i64 i.ev.time, .string i.ev.body, .slice i.at' i.ev.tags.length i.cap] 38))
  exact ⟨⟨c0, c1, c2, c3, c4⟩, hi.below ((Below.refl _ _).alloc (Nat.le_refl _) _) (Nat.le_refl _)⟩
theorem anew_get (l : List Ev) (n : Nat) (e : Ev) (h : l[n]? = some e) : fileB noB (anewC (l.take (n + 1))) = fileB noB (anewC (l.take n)) ++ entryB 3 (lastB noB (l.take n)) [e] := by
  have h1 : anewC (l.take (n + 1)) = anewC (l.take n) ++ [(3, [e])] := by
    rw [List.take_add_one, h]; simp [anewC]
  rw [h1, fileB_append, evsOf_anew]
  simp [fileB]
theorem anew_len (l : List Ev) (h : ∀ e ∈ l, isB e = true) : ∀ n, (fileB noB (anewC (l.take n))).length ≤ 420 * n
  | 0 => by simp [anewC, fileB]
  | n + 1 => by
    have ih := anew_len l h n
    by_cases hn : n < l.length
    · rw [anew_get l n l[n] (List.getElem?_eq_getElem hn), List.length_append]
      have := entryB_len (v := 3) (old := lastB noB (l.take n)) (l := [l[n]]) (fun e he => by simp at he; subst he; exact goes_three (h _ (List.getElem_mem hn))) (lastB_size (by decide) _ (fun e he => h e (List.mem_of_mem_take he)))
      simp only [List.length_singleton] at this
      omega
    · rw [List.take_of_length_le (by omega)] at ih ⊢
      omega
set_option maxRecDepth 100000 in
set_option maxHeartbeats 4000000 in
theorem writeAnew_any (a : Option Addr) (cap : Nat) (its : List Item) (w : World) (hE : Hid (EvsAt w a its)) (hok : Hid (∀ e ∈ evs its, isB e = true)) (hl : its.length ≤ 200) (hcap : its.length ≤ cap) :
    Calls Tryz.prog 47 #[.slice a its.length cap] w fun e w' => ∃ fv, e = .returned fv ∧ Hid (OwnB w' w.heap.size 5 fv (fileB noB (anewC (evs its))).length (Lib.byteCells (fileB noB (anewC (evs its))))) ∧ Below w.heap.size w w' := by
  obtain ⟨i0, hi, hz0, hz1, hz2⟩ := info_parts infoByte
  have hes : (evs its).length = its.length := by simp [evs]
  go_enter Tryz.func47, Tryz.ntmps47
  go_wp2_with fail
  go_loopw [3, 8] (fun fv iv wx => ∃ n : Nat, n ≤ its.length ∧ iv = .int .i64 n ∧ Hid (OwnB wx w.heap.size 5 fv (fileB noB (anewC ((evs its).take n))).length (Lib.byteCells (fileB noB (anewC ((evs its).take n))))) ∧ Hid (Below w.heap.size w wx)) (fun _ i _ => its.length - (intOf i).toNat)
  case atStart => exact ⟨0, Nat.zero_le _, rfl, OwnB.of (World.ownsRow_nil _ _ _ _), Below.refl _ _⟩
  case round =>
    obtain ⟨n, hn, rfl, HO, HB⟩ := hrel
    have hfl := anew_len (evs its) hok.out n
    by_cases hlt : n < its.length
    · have HEw := hide0 (hE.out.below HB.out (Nat.le_refl _))
      obtain ⟨g, off, rfl, hc⟩ := HEw.out (by omega)
      obtain ⟨hcell, hitem⟩ := hc n its[n] (List.getElem?_eq_getElem hlt)
      have hx : (evs its)[n]? = some its[n].ev := by simp [evs, hlt]
      have hgood := hok.out its[n].ev (List.mem_of_getElem? hx)
      have HF : Hid (fileB noB (anewC ((evs its).take (n + 1))) = fileB noB (anewC ((evs its).take n)) ++ entryB 3 (lastB noB ((evs its).take n)) [its[n].ev]) := anew_get _ _ _ hx
      have hold := lastB_size (old := noB) (by decide) ((evs its).take n) (fun e he => hok.out e (List.mem_of_mem_take he))
      have hel := entryB_len (v := 3) (old := lastB noB ((evs its).take n)) (l := [its[n].ev]) (fun e he => by simp at he; subst he; exact goes_three hgood) hold
      have htk : (its.take n).length = n := by rw [List.length_take]; omega
      have hLB : ∀ w', Below wr.heap.size wr w' → Calls Tryz.prog 43 #[.slice (some ⟨g, off, none⟩) n cap] w' fun e w'' => e = .returned (.string (lastB noB ((evs its).take n))) ∧ w'' = w' := by
        intro w' hb'
        have := lastBody_any (some ⟨g, off, none⟩) cap (its.take n) w' ((HEw.out.below hb' (Nat.le_refl _)).front n) (by omega)
        rw [htk] at this
        have e : evs (its.take n) = (evs its).take n := by simp [evs, List.map_take]
        rw [e] at this
        exact this
      have hWR : ∀ (X : World) (o : Obj), Below wr.heap.size wr X → X.heap[wr.heap.size]? = some o → Calls Tryz.prog 42 #[.int .i64 3, .string (lastB noB ((evs its).take n)), .slice (some ⟨X.heap.size, 0, none⟩) 1 1] (X.alloc (.cells #[.int .i64 its[n].ev.kind, .string its[n].ev.task, .int .i64 its[n].ev.time, .string its[n].ev.body, .slice its[n].at' its[n].ev.tags.length its[n].cap] 38)) fun e w'' => e = .returned (.string ⟨(entryB 3 (lastB noB ((evs its).take n)) [its[n].ev]).toArray⟩) ∧ Hid (Below wr.heap.size wr w'') ∧ w''.heap[wr.heap.size]? = some o := by
        intro X o hX hXo
        have hs := hX.size
        have hXs := (Array.getElem?_eq_some_iff.1 hXo).1
        refine (write_any 3 (lastB noB ((evs its).take n)) _ 1 [its[n]] _ (evsAt_one X (hitem.below hX (Nat.le_refl _))) (by decide) (by decide) hold (fun e he => by simp [evs] at he; subst he; exact goes_three hgood) (by simp)).mono ?_
        rintro e w'' ⟨rfl, hb''⟩
        exact ⟨rfl, (hX.alloc hs _).trans (hb''.mono (by rw [World.size_alloc]; omega)), (hb''.block _ (by rw [World.size_alloc]; omega)).trans ((Below.heap_alloc _ _ _ hXs).trans hXo)⟩
      generalize its[n] = it at hcell hitem hgood hx HF hel hWR
      obtain ⟨⟨k, t, m, b, ts⟩, ia, ic⟩ := it
      obtain ⟨c0, c1, c2, c3, c4⟩ := hcell
      simp only at c0 c1 c2 c3 c4 hWR
      simp only [List.length_singleton] at hel
      clear hc hitem hx hgood
      generalize lastB noB ((evs its).take n) = old at *
      generalize entryB 3 old [⟨k, t, m, b, ts⟩] = entry at *
      generalize fileB noB (anewC ((evs its).take n)) = file at *
      have hsz := HB.out.size
      have hbA : Below wr.heap.size wr (wr.alloc (.cells #[.int .i64 k, .string t, .int .i64 m, .string b, .slice ia ts.length ic] 38)).drew := ((Below.refl _ _).alloc (Nat.le_refl _) _).drew
      have hbB : Below wr.heap.size wr ((wr.alloc (.cells #[.int .i64 k, .string t, .int .i64 m, .string b, .slice ia ts.length ic] 38)).alloc (.cells #[.int .i64 k, .string t, .int .i64 m, .string b, .slice ia ts.length ic] 38)).drew := (((Below.refl _ _).alloc (Nat.le_refl _) _).alloc (by simp) _).drew
      have hW1 := hWR _ _ hbA (heap_alloc_new wr (.cells #[.int .i64 k, .string t, .int .i64 m, .string b, .slice ia ts.length ic] 38))
      rw [show (wr.alloc (.cells #[.int .i64 k, .string t, .int .i64 m, .string b, .slice ia ts.length ic] 38)).drew.heap.size = wr.heap.size + 1 from World.size_alloc _ _] at hW1
      obtain ⟨k0, k1, k2, k3, k4, kz⟩ := res_cells (heap_alloc_new wr (.cells #[.int .i64 k, .string t, .int .i64 m, .string b, .slice ia ts.length ic] 38))
      have hncap : ¬ ((cap : Int) < (n : Int)) := by omega
      have hn1 : file.length + (⟨entry.toArray⟩ : ByteArray).size ≤ maxLen := by show file.length + entry.length ≤ _; unfold maxLen; omega
      have hn2 : file.length + (⟨entry.toArray⟩ : ByteArray).size ≤ 140737488355328 := by show file.length + entry.length ≤ _; omega
      clear hWR
      go_wp2_with fail
      go_region_law (first
        | (have hq9 := HO7.out
           refine step_append_str _ rfl _ _ 74 9 rfl w.heap.size 5 i0 Tryz.underlying74 Tryz.underlying9 hi hz0 hz1 hz2 _ file.length (Lib.byteCells file) rfl hq9 ⟨entry.toArray⟩ rfl hn1 hn2 hs7 ?_
           clear hq9
           intro fa fc w8 hown8 hgr8 hat8)
        | (go_simp; go_at_call 43; refine (hLB _ (by first | exact hbA | exact hbB)).mono ?_; rintro e w' ⟨rfl, rfl⟩)
        | (go_simp; go_at_call 42; refine hW1.mono ?_; rintro e w7 ⟨rfl, HB7, hx7⟩; have HO7 := hide0 (HO.out.block (fun q hq => HB7.out.block q (HO.out.lt q hq).2)); have hs7 : w.heap.size ≤ w7.heap.size := Nat.le_trans hsz HB7.out.size))
      all_goals
        have HO8 : Hid (OwnB w8 w.heap.size 5 (.slice fa (file.length + entry.length) fc) (file.length + entry.length) (Lib.byteCells file ++ Lib.strCells ⟨entry.toArray⟩)) := hown8
        have HB8 := hide0 (Below.grown (HB.out.trans (HB7.out.mono hsz)) hgr8 hs7 (fun q hq => (HO7.out.lt _ hq).1))
        clear hown8 hgr8 hat8
        go_wp2
        go_roundw
        case rel => exact ⟨n + 1, by omega, by go_num, by rw [HF.out, List.length_append, ← strCells_bytes file ⟨entry.toArray⟩]; exact HO8, HB8⟩
        case measure => simp [intOf]; omega
    · have hnn : n = its.length := by omega
      have HT : Hid ((evs its).take n = evs its) := by show _ = _; rw [hnn, ← hes, List.take_length]
      rw [HT.out] at HO
      obtain ⟨fa, fc, rfl, _⟩ := HO.out.shape
      go_wp2
      go_ret
      exact ⟨_, rfl, HO, HB.out⟩
end Go.Proofs.YtdjllnhahhjgmaaGreat
namespace Go.Proofs.YtdjllnhahhjgmaaGreat
open Go.RowKit Chron
def refB (v : Int) (n : Nat) (l : List Ev) : Int := if isVer v = false then 1 else if 200 < n + l.length then 5 else if l.all (goesB v) = true then 0 else 2
set_option maxRecDepth 100000 in
set_option maxHeartbeats 2000000 in
theorem arefuse_any (p : Nat) (v s : Int) (fv : Value) (ea : Option Addr) (n ec : Nat) (a : Option Addr) (cap : Nat) (ls : List Item) (w : World) (hb : w.heap[p]? = some (.cells #[.int .i32 s, .int .u32 0, fv, .slice ea n ec] 87)) (hn : n ≤ 200) (hE : Hid (EvsAt w a ls)) (hl : ls.length ≤ 100000000) :
    Calls Tryz.prog 41 #[.pointer (some ⟨p, 0, none⟩), .int .i64 v, .slice a ls.length cap] w fun e w' => e = .returned (.int .i64 (refB v n (evs ls))) ∧ Below w.heap.size w w' := by
  have hes : (evs ls).length = ls.length := by simp [evs]
  obtain ⟨c0, c1, c2, c3, cz⟩ := four_cells hb
  by_cases hv : isVer v = true
  · by_cases hm : 200 < n + ls.length
    · have HR : Hid (refB v n (evs ls) = 5) := by show _ = _; rw [refB, if_neg (by simp [hv]), if_pos (by omega)]
      have hlt : 200 - (n : Int) < (ls.length : Int) := by omega
      go_enter Tryz.func41, Tryz.ntmps41
      go_wp2_with (go_at_call 54; refine (isVersion_any _ _).mono ?_; rintro e w' ⟨rfl, rfl⟩)
      go_ret
      exact ⟨by rw [HR.out]; rfl, Below.refl _ _⟩
    · have hlt : ¬ 200 - (n : Int) < (ls.length : Int) := by omega
      have HR : Hid (refB v n (evs ls) = if (evs ls).all (goesB v) = true then 0 else 2) := by show _ = _; rw [refB, if_neg (by simp [hv]), if_neg (by omega)]
      go_enter Tryz.func41, Tryz.ntmps41
      go_wp2_with (go_at_call 54; refine (isVersion_any _ _).mono ?_; rintro e w' ⟨rfl, rfl⟩)
      clear hlt
      go_loopw [23] (fun iv wx => ∃ i : Nat, i ≤ ls.length ∧ iv = .int .i64 i ∧ Hid (∀ e ∈ (evs ls).take i, goesB v e = true) ∧ Hid (Below w'.heap.size w' wx)) (fun i _ => ls.length - (intOf i).toNat)
      case atStart => exact ⟨0, Nat.zero_le _, rfl, (fun e he => by simp at he), Below.refl _ _⟩
      case round =>
        obtain ⟨i, hi, rfl, HG, HB⟩ := hrel
        by_cases hlt : i < ls.length
        · have hEw := hE.out.below HB.out (Nat.le_refl _)
          obtain ⟨g, off, rfl, hc⟩ := hEw (by omega)
          obtain ⟨hcell, hitem⟩ := hc i ls[i] (List.getElem?_eq_getElem hlt)
          have hx : (evs ls)[i]? = some ls[i].ev := by simp [evs, hlt]
          have HX := hide0 hx
          generalize ls[i] = it at hcell hitem HX hx
          obtain ⟨⟨k, t, m, b, ts⟩, ia, ic⟩ := it
          obtain ⟨d0, d1, d2, d3, d4⟩ := hcell
          obtain ⟨htg, hsh, hfw, htk, hbd⟩ := hitem
          simp only at d0 d1 d2 d3 d4 htg hsh hfw htk hbd
          have hsz := HB.out.size
          clear hc hEw hx
          go_wp2_with fail
          refine (goesInto_any v k t m b ia ic ts _ (TagsAt.alloc htg _) hsh (by unfold maxLen; omega) htk hbd).mono ?_
          rintro e w2 ⟨rfl, hb2⟩
          have HB2 := hide0 ((HB.out.alloc hsz _).trans (hb2.mono (by rw [World.size_alloc]; omega)))
          clear hb2 d0 d1 d2 d3 d4 htg hsh hfw htk hbd
          by_cases hgo : goesB v ⟨k, t, m, b, ts⟩ = true
          · have HG2 : Hid (∀ e ∈ (evs ls).take (i + 1), goesB v e = true) := by
              intro e he
              rw [List.take_add_one, HX.out] at he
              rcases List.mem_append.1 he with h | h
              · exact HG.out e h
              · simp at h; subst h; exact hgo
            rw [hgo]
            go_wp2
            go_roundw
            case rel => exact ⟨i + 1, by omega, by go_num, HG2, HB2⟩
            case measure => simp [intOf]; omega
          · have hgo' : goesB v ⟨k, t, m, b, ts⟩ = false := by simpa using hgo
            have HR2 : Hid (refB v n (evs ls) = 2) := by
              show _ = _
              rw [HR.out, if_neg]
              intro h
              rw [List.all_eq_true] at h
              have := h _ (List.mem_of_getElem? HX.out)
              rw [hgo'] at this
              cases this
            rw [hgo']
            go_wp2
            go_ret
            exact ⟨by rw [HR2.out]; rfl, HB2.out⟩
        · have HR2 : Hid (refB v n (evs ls) = 0) := by
            show _ = _
            rw [HR.out, if_pos]
            rw [List.all_eq_true]
            intro e he
            refine HG.out e ?_
            rw [List.take_of_length_le (by omega)]
            exact he
          go_wp2
          go_ret
          exact ⟨by rw [HR2.out]; rfl, HB.out⟩
  · have hv' : isVer v = false := by simpa using hv
    have HR : Hid (refB v n (evs ls) = 1) := by show _ = _; rw [refB, if_pos hv']
    clear hv
    go_enter Tryz.func41, Tryz.ntmps41
    go_wp2_with (go_at_call 54; refine (isVersion_any _ _).mono ?_; rintro e w' ⟨rfl, rfl⟩)
    go_ret
    exact ⟨by rw [HR.out]; rfl, Below.refl _ _⟩
end Go.Proofs.YtdjllnhahhjgmaaGreat
namespace Go.Proofs.YtdjllnhahhjgmaaGreat
open Go.RowKit Go.MuLone Chron
structure ArchS (s : Int) (N p : Nat) (w : World) (fv ev : Value) (file : List UInt8) (its : List Item) : Prop where
  blk : w.heap[p]? = some (.cells #[.int .i32 s, .int .u32 0, fv, ev] 87)
  fil : OwnB w N 5 fv file.length (Lib.byteCells file)
  evs : MadeO N w ev its
  pN : N ≤ p
  pf : fv.ownBlock ≠ some p
  pe : ev.ownBlock ≠ some p
  pt : p ∉ tagBs its
  fe : ∀ q, fv.ownBlock = some q → ev.ownBlock ≠ some q ∧ q ∉ tagBs its
  good : ∀ it ∈ its, isB it.ev = true
  few : its.length ≤ 200
abbrev ArchO (N p : Nat) (w : World) (fv ev : Value) (file : List UInt8) (its : List Item) : Prop := ArchS 0 N p w fv ev file its
/- the blocks that are an archive's -/
def Foot (p : Nat) (fv ev : Value) (its : List Item) (q : Nat) : Prop := q = p ∨ fv.ownBlock = some q ∨ ev.ownBlock = some q ∨ q ∈ tagBs its
/- nothing but some blocks, and new ones, was changed; what is behind lies in them -/
structure Moved (w w' : World) (F F' : Nat → Prop) : Prop where
  os : w'.os = w.os
  tape : w'.tape = w.tape
  output : w'.output = w.output
  size : w.heap.size ≤ w'.heap.size
  block : ∀ q, q < w.heap.size → ¬ F q → w'.heap[q]? = w.heap[q]?
  sub : ∀ q, F' q → F q ∨ w.heap.size ≤ q
theorem Moved.refl (w : World) (F : Nat → Prop) : Moved w w F F := ⟨rfl, rfl, rfl, Nat.le_refl _, fun _ _ _ => rfl, fun _ h => .inl h⟩
theorem Moved.of_below {w w' : World} {F : Nat → Prop} (h : Below w.heap.size w w') : Moved w w' F F := ⟨h.os, h.tape, h.output, h.size, fun q hq _ => h.block q hq, fun _ h => .inl h⟩
theorem Moved.trans {a b c : World} {F G H : Nat → Prop} (h : Moved a b F G) (k : Moved b c G H) : Moved a c F H := by
  refine ⟨k.os.trans h.os, k.tape.trans h.tape, k.output.trans h.output, Nat.le_trans h.size k.size, fun q hq hn => ?_, fun q hq => ?_⟩
  · have hs := h.size
    rw [k.block q (by omega) (fun hg => ?_), h.block q hq hn]
    rcases h.sub q hg with h1 | h1
    · exact hn h1
    · omega
  · rcases k.sub q hq with h1 | h1
    · exact h.sub q h1
    · have := h.size; exact .inr (by omega)
theorem ArchS.lt {s : Int} {N p : Nat} {w : World} {fv ev : Value} {file : List UInt8} {its : List Item} (h : ArchS s N p w fv ev file its) : ∀ q, Foot p fv ev its q → N ≤ q ∧ q < w.heap.size := by
  rintro q (rfl | hq | hq | hq)
  · exact ⟨h.pN, (Array.getElem?_eq_some_iff.1 h.blk).1⟩
  · exact h.fil.lt q hq
  · exact h.evs.row.lt q hq
  · exact h.evs.tag_lt hq
theorem ArchS.keep {s : Int} {N p : Nat} {w w' : World} {fv ev : Value} {file : List UInt8} {its : List Item} (h : ArchS s N p w fv ev file its) (hb : ∀ q, Foot p fv ev its q → w'.heap[q]? = w.heap[q]?) : ArchS s N p w' fv ev file its := by
  refine ⟨(hb p (.inl rfl)).trans h.blk, h.fil.block (fun q hq => hb q (.inr (.inl hq))), ?_, h.pN, h.pf, h.pe, h.pt, h.fe, h.good, h.few⟩
  exact ⟨own_of_block h.evs.row (fun q hq => hb q (.inr (.inr (.inl hq)))), fun it hi => own_of_block (h.evs.tags it hi) (fun q hq => hb q (.inr (.inr (.inr (tagBs_mem.2 ⟨it, hi, hq⟩))))), h.evs.apart, h.evs.dist⟩
theorem ArchS.below {s : Int} {N p : Nat} {w w' : World} {fv ev : Value} {file : List UInt8} {its : List Item} (h : ArchS s N p w fv ev file its) (hb : Below w.heap.size w w') : ArchS s N p w' fv ev file its :=
  h.keep fun q hq => hb.block q (h.lt q hq).2
theorem ArchS.mono {s : Int} {N M p : Nat} {w : World} {fv ev : Value} {file : List UInt8} {its : List Item} (h : ArchS s N p w fv ev file its) (hM : M ≤ N) : ArchS s M p w fv ev file its :=
  ⟨h.blk, h.fil.mono hM, ⟨own_mono h.evs.row hM, fun it hi => own_mono (h.evs.tags it hi) hM, h.evs.apart, h.evs.dist⟩, Nat.le_trans hM h.pN, h.pf, h.pe, h.pt, h.fe, h.good, h.few⟩
theorem few_ok {its : List Item} (h : ∀ it ∈ its, isB it.ev = true) : ∀ it ∈ its, Few 1048576 it.ev := by
  intro it hi
  have k := is_known (h it hi)
  exact ⟨by have := k.few; omega, fun t ht => by have := k.lines t ht; omega, by have := k.task; omega, by have := k.body; omega⟩
theorem MadeO.at {N : Nat} {w : World} {ev : Value} {its : List Item} (h : MadeO N w ev its) (hg : ∀ it ∈ its, isB it.ev = true) : ∃ a cap, ev = .slice a its.length cap ∧ EvsAt w a its ∧ its.length ≤ cap ∧ ∀ b off, a = some ⟨b, off, none⟩ → off = 0 := by
  obtain ⟨a, cap, hv, he⟩ := h.made.evs (few_ok hg)
  subst hv
  have hr := h.row
  refine ⟨a, cap, rfl, he, ?_, ?_⟩
  · rcases hr.2 with ⟨h1, h2⟩ | ⟨g, cap', cur, h1, _, _, h4, _⟩
    · omega
    · simp only [Value.slice.injEq] at h1
      omega
  · intro b off hab
    rcases hr.2 with ⟨h1, _⟩ | ⟨g, cap', cur, h1, _⟩
    · rw [hab] at h1; simp at h1
    · rw [hab] at h1; simp at h1; exact h1.1.2
theorem four_set {w : World} {p : Nat} {a b c d u : Value} {t : TypeId} {i : Nat} (h : w.heap[p]? = some (.cells #[a, b, c, d] t)) : (w.setCell ⟨p, i, none⟩ u).heap[p]? = some (.cells (#[a, b, c, d].setIfInBounds i u) t) := by
  have hlt := (Array.getElem?_eq_some_iff.1 h).1
  simp only [World.setCell, Array.getElem?_modify, if_true, h, Option.map_some]
  rfl
theorem ArchS.state {s : Int} {N p : Nat} {w : World} {fv ev : Value} {file : List UInt8} {its : List Item} (h : ArchS s N p w fv ev file its) (s' : Int) :
    ArchS s' N p (w.setCell ⟨p, 0, none⟩ (.int .i32 s')) fv ev file its ∧ Moved w (w.setCell ⟨p, 0, none⟩ (.int .i32 s')) (Foot p fv ev its) (Foot p fv ev its) ∧ (w.setCell ⟨p, 0, none⟩ (.int .i32 s')).heap.size = w.heap.size := by
  have key : ∀ q, q ≠ p → (w.setCell ⟨p, 0, none⟩ (.int .i32 s')).heap[q]? = w.heap[q]? := fun q hq => Below.heap_setCell _ _ _ _ hq
  refine ⟨⟨four_set h.blk, h.fil.block (fun q hq => key q (fun e => h.pf (by rw [hq, e]))), ⟨own_of_block h.evs.row (fun q hq => key q (fun e => h.pe (by rw [hq, e]))), fun it hi => own_of_block (h.evs.tags it hi) (fun q hq => key q (fun e => h.pt (by rw [← e]; exact tagBs_mem.2 ⟨it, hi, hq⟩))), h.evs.apart, h.evs.dist⟩, h.pN, h.pf, h.pe, h.pt, h.fe, h.good, h.few⟩, ⟨rfl, rfl, rfl, by simp [World.setCell], fun q _ hq => key q (fun e => hq (.inl e)), fun q hq => .inl hq⟩, by simp [World.setCell]⟩
/- what is read of a list of events -/
def ReadsOf (a : Option Addr) (ls : List Item) (q : Nat) : Prop := (0 < ls.length ∧ ∃ off, a = some ⟨q, off, none⟩) ∨ ∃ it ∈ ls, 0 < it.ev.tags.length ∧ ∃ off, it.at' = some ⟨q, off, none⟩
theorem EvsAt.same {w w' : World} {a : Option Addr} {ls : List Item} (h : EvsAt w a ls) (hb : ∀ q, ReadsOf a ls q → q < w.heap.size → w'.heap[q]? = w.heap[q]?) : EvsAt w' a ls := by
  intro h0
  obtain ⟨b, off, rfl, hc⟩ := h h0
  refine ⟨b, off, rfl, fun k i hi => ?_⟩
  obtain ⟨c, ok⟩ := hc k i hi
  have hB := hb b (.inl ⟨h0, off, rfl⟩) (World.block_lt_of_cell? w _ c.c0)
  refine ⟨⟨(World.cell?_of_block hB).trans c.c0, (World.cell?_of_block hB).trans c.c1, (World.cell?_of_block hB).trans c.c2, (World.cell?_of_block hB).trans c.c3, (World.cell?_of_block hB).trans c.c4⟩, ⟨fun ht => ?_, ok.short, ok.few, ok.task, ok.body⟩⟩
  obtain ⟨q, o, hq, hx⟩ := ok.tags ht
  refine ⟨q, o, hq, fun j hj => ?_⟩
  exact (World.cell?_of_block (hb q (.inr ⟨i, List.mem_of_getElem? hi, ht, o, hq⟩) (World.block_lt_of_cell? w _ (hx j hj)))).trans (hx j hj)
theorem EvsAt.moved {w w' : World} {a : Option Addr} {ls : List Item} {F F' : Nat → Prop} (h : EvsAt w a ls) (hm : Moved w w' F F') (hd : ∀ q, ReadsOf a ls q → ¬ F q) : EvsAt w' a ls := h.same fun q hq hlt => hm.block q hlt (hd q hq)
set_option maxRecDepth 100000 in
set_option maxHeartbeats 1000000 in
theorem migrate_any (N p : Nat) (fv ev : Value) (file : List UInt8) (its : List Item) (w : World) (hA : Hid (ArchO N p w fv ev file its)) :
    Calls Tryz.prog 31 #[.pointer (some ⟨p, 0, none⟩)] w fun e w' => e = .returned (.tuple #[]) ∧ ∃ fv', ArchO N p w' fv' ev (fileB noB (anewC (evs its))) its ∧ Moved w w' (· = p) (fun q => q = p ∨ fv'.ownBlock = some q) := by
  obtain ⟨ea, ec, rfl, hE, hcap, h0⟩ := hA.out.evs.at hA.out.good
  obtain ⟨c0, c1, c2, c3, cz⟩ := four_cells hA.out.blk
  have hb1 : (w.setCell ⟨p, 0, none⟩ (.int .i32 1)).heap[p]? = some (.cells #[.int .i32 1, .int .u32 0, fv, .slice ea its.length ec] 87) := four_set hA.out.blk
  have hM1 : Moved w (w.setCell ⟨p, 0, none⟩ (.int .i32 1)) (· = p) (· = p) := ⟨rfl, rfl, rfl, by simp [World.setCell], fun q _ hq => Below.heap_setCell _ _ _ _ hq, fun q hq => .inl hq⟩
  have hE1 : MadeO N (w.setCell ⟨p, 0, none⟩ (.int .i32 1)) (.slice ea its.length ec) its := by
    have h := hA.out
    have key : ∀ q, q ≠ p → (w.setCell ⟨p, 0, none⟩ (.int .i32 1)).heap[q]? = w.heap[q]? := fun q hq => Below.heap_setCell _ _ _ _ hq
    exact ⟨own_of_block h.evs.row (fun q hq => key q (fun e => h.pe (by rw [hq, e]))), fun it hi => own_of_block (h.evs.tags it hi) (fun q hq => key q (fun e => h.pt (by rw [← e]; exact tagBs_mem.2 ⟨it, hi, hq⟩))), h.evs.apart, h.evs.dist⟩
  obtain ⟨c0', c1', c2', c3', cz'⟩ := four_cells hb1
  have hw1s : (w.setCell ⟨p, 0, none⟩ (.int .i32 1)).heap.size = w.heap.size := by simp [World.setCell]
  go_enter_defers Tryz.func31, Tryz.ntmps31
  go_wp2_with (go_at_call 37; refine (lock_free Tryz.muLib ⟨p, 0, none⟩ _ c0 (cz 0)).mono ?_; rintro e w' ⟨rfl, rfl⟩)
  clear c0 c1 c2 c3 cz
  generalize w.setCell ⟨p, 0, none⟩ (.int .i32 1) = w1 at *
  obtain ⟨ea', ec', hv', hE2, _, _⟩ := hE1.at hA.out.good
  cases hv'
  have hok : ∀ e ∈ Go.Proofs.YtdjllnhahhjgmaaGreat.evs its, isB e = true := fun e he => by
    obtain ⟨it, hi, rfl⟩ := List.mem_map.1 he
    exact hA.out.good it hi
  have HA := hide0 hA.out
  refine (writeAnew_any ea ec its w1 hE2 hok hA.out.few hcap).mono ?_
  rintro e w2 ⟨nv, rfl, HF, hb2⟩
  obtain ⟨na, nc, rfl, _⟩ := HF.out.shape
  have hp1 := (Array.getElem?_eq_some_iff.1 hb1).1
  have hbk2 := (hb2.block p hp1).trans hb1
  obtain ⟨d0, d1, d2, d3, dz⟩ := four_cells hbk2
  have hnp : ∀ q, Value.ownBlock (.slice na (fileB noB (anewC (Go.Proofs.YtdjllnhahhjgmaaGreat.evs its))).length nc) = some q → q ≠ p := fun q hq => by have := (HF.out.lt _ hq).1; omega
  generalize hnf : fileB noB (anewC (Go.Proofs.YtdjllnhahhjgmaaGreat.evs its)) = nf at *
  have HNF := hide0 hnf
  clear hnf
  have hb3 : (w2.setCell ⟨p, 2, none⟩ (.slice na nf.length nc)).heap[p]? = some (.cells #[.int .i32 1, .int .u32 0, .slice na nf.length nc, .slice ea its.length ec] 87) := four_set hbk2
  obtain ⟨f0, f1, f2, f3, fz⟩ := four_cells hb3
  have hb4 : ((w2.setCell ⟨p, 2, none⟩ (.slice na nf.length nc)).setCell ⟨p, 0, none⟩ (.int .i32 0)).heap[p]? = some (.cells #[.int .i32 0, .int .u32 0, .slice na nf.length nc, .slice ea its.length ec] 87) := four_set hb3
  have key : ∀ q, q ≠ p → ((w2.setCell ⟨p, 2, none⟩ (.slice na nf.length nc)).setCell ⟨p, 0, none⟩ (.int .i32 0)).heap[q]? = w2.heap[q]? := fun q hq => (Below.heap_setCell _ _ _ _ hq).trans (Below.heap_setCell _ _ _ _ hq)
  have HFIN : Hid (ArchO N p ((w2.setCell ⟨p, 2, none⟩ (.slice na nf.length nc)).setCell ⟨p, 0, none⟩ (.int .i32 0)) (.slice na nf.length nc) (.slice ea its.length ec) nf its ∧ Moved w ((w2.setCell ⟨p, 2, none⟩ (.slice na nf.length nc)).setCell ⟨p, 0, none⟩ (.int .i32 0)) (· = p) (fun q => q = p ∨ Value.ownBlock (.slice na nf.length nc) = some q)) := by
    have h := HA.out
    refine ⟨⟨hb4, ?_, ?_, h.pN, fun e => hnp p e rfl, h.pe, h.pt, fun q hq => ?_, h.good, h.few⟩, ?_⟩
    · exact (HF.out.block (fun q hq => key q (hnp q hq))).mono (by have := (h.lt p (.inl rfl)); omega)
    · have k2 : ∀ q, q < w1.heap.size → q ≠ p → ((w2.setCell ⟨p, 2, none⟩ (.slice na nf.length nc)).setCell ⟨p, 0, none⟩ (.int .i32 0)).heap[q]? = w1.heap[q]? := fun q hq hne => (key q hne).trans (hb2.block q hq)
      exact ⟨own_of_block hE1.row (fun q hq => k2 q (hE1.row.lt q hq).2 (fun e => h.pe (by rw [hq, e]))), fun it hi => own_of_block (hE1.tags it hi) (fun q hq => k2 q ((hE1.tags it hi).lt q hq).2 (fun e => h.pt (by rw [← e]; exact tagBs_mem.2 ⟨it, hi, hq⟩))), hE1.apart, hE1.dist⟩
    · have hq1 := (HF.out.lt q hq).1
      refine ⟨fun e => ?_, fun e => ?_⟩
      · have := (h.lt q (.inr (.inr (.inl e)))).2; omega
      · have := (h.lt q (.inr (.inr (.inr e)))).2; omega
    · refine ⟨hb2.os.trans hM1.os, hb2.tape.trans hM1.tape, hb2.output.trans hM1.output, ?_, fun q hq hne => ?_, fun q hq => ?_⟩
      · have h1 := hb2.size
        have h2 : ((w2.setCell ⟨p, 2, none⟩ (.slice na nf.length nc)).setCell ⟨p, 0, none⟩ (.int .i32 0)).heap.size = w2.heap.size := by simp [World.setCell]
        omega
      · rw [key q hne, hb2.block q (by omega), hM1.block q hq hne]
      · rcases hq with hq | hq
        · exact .inl hq
        · have := (HF.out.lt q hq).1; exact .inr (by omega)
  clear hE2 hok hb2 HA hA hb1 hM1 hE1 key hb4 c0' c1' c2' c3' cz' hE
  go_wp2
  refine leaves_cons (f := 38) (args := #[.pointer (some ⟨p, 0, none⟩)]) (by simp) (by simp [go_sem]) ?_
  refine (unlock_deferred Tryz.muLib ⟨p, 0, none⟩ .returning _ f0 (fz 0)).mono ?_
  rintro e u' w'' ⟨rfl, rfl, rfl⟩
  exact ⟨_, results_none rfl _ _ _, rfl, _, by rw [HNF.out]; exact HFIN.out.1, HFIN.out.2⟩
end Go.Proofs.YtdjllnhahhjgmaaGreat
namespace Go.Proofs.YtdjllnhahhjgmaaGreat
open Go.RowKit Chron
/- the lists that were lent, as rows -/
def LentRows (ls : List (Nat × Nat)) (w : World) : Prop := ∀ (i M c : Nat), ls[i]? = some (M, c) → ∃ cur, w.heap[M]? = some (.cells cur 9 (0, 0)) ∧ cur.size = c + 8
theorem LentRows.set {ls : List (Nat × Nat)} {w : World} (h : LentRows ls w) (g o : Nat) (u : Value) : LentRows ls (w.setCell ⟨g, o, none⟩ u) := by
  intro i M c hi
  obtain ⟨cur, h1, h2⟩ := h i M c hi
  by_cases hg : M = g
  · subst hg
    exact ⟨_, set1_heap h1, by simpa using h2⟩
  · exact ⟨cur, (Below.heap_setCell _ _ _ _ hg).trans h1, h2⟩
theorem LentRows.below {ls : List (Nat × Nat)} {w w' : World} (h : LentRows ls w) (hb : Below w.heap.size w w') : LentRows ls w' := by
  intro i M c hi
  obtain ⟨cur, h1, h2⟩ := h i M c hi
  exact ⟨cur, (hb.block M (Array.getElem?_eq_some_iff.1 h1).1).trans h1, h2⟩
theorem LentRows.there {ls : List (Nat × Nat)} {w : World} (h : LentRows ls w) {i M c k : Nat} (hi : ls[i]? = some (M, c)) (hk : k < c + 8) : ∃ x, w.cell? ⟨M, k, none⟩ = some x ∧ w.frozen? ⟨M, k, none⟩ = false := by
  obtain ⟨cur, h1, h2⟩ := h i M c hi
  exact ⟨cur[k], by simp [World.cell?, h1, show k < cur.size by omega], by simp [World.frozen?, h1]⟩
def RowG (G m : Nat) (w : World) : Prop := ∃ cur, w.heap[G]? = some (.cells cur 38 (0, 0)) ∧ cur.size = m * 5
theorem RowG.set {G m : Nat} {w : World} (h : RowG G m w) (g o : Nat) (u : Value) : RowG G m (w.setCell ⟨g, o, none⟩ u) := by
  obtain ⟨cur, h1, h2⟩ := h
  by_cases hg : G = g
  · subst hg
    exact ⟨_, set1_heap h1, by simpa using h2⟩
  · exact ⟨cur, (Below.heap_setCell _ _ _ _ hg).trans h1, h2⟩
theorem RowG.below {G m : Nat} {w w' : World} (h : RowG G m w) (hb : Below w.heap.size w w') : RowG G m w' := by
  obtain ⟨cur, h1, h2⟩ := h
  exact ⟨cur, (hb.block G (Array.getElem?_eq_some_iff.1 h1).1).trans h1, h2⟩
theorem RowG.there {G m k : Nat} {w : World} (h : RowG G m w) (hk : k < m * 5) : ∃ x, w.cell? ⟨G, k, none⟩ = some x ∧ w.frozen? ⟨G, k, none⟩ = false := by
  obtain ⟨cur, h1, h2⟩ := h
  exact ⟨cur[k], by simp [World.cell?, h1, show k < cur.size by omega], by simp [World.frozen?, h1]⟩
def lentF (G : Nat) (ls : List (Nat × Nat)) (q : Nat) : Prop := q = G ∨ ∃ i c : Nat, ls[i]? = some (q, c)
/- what is lent, while its owner writes it full -/
structure Spoils (b G n : Nat) (tv cv lv : Value) (ls : List (Nat × Nat)) (w wx : World) : Prop where
  loan : LoanAt b tv cv (.slice (some ⟨G, 0, none⟩) (n + 8) (n + 8)) (.int .i64 n) lv ls.length (lentV ls) ls.length (lentN ls) wx
  rows : LentRows ls wx
  row : RowG G (n + 8) wx
  mv : Moved w wx (lentF G ls) (lentF G ls)
theorem Spoils.below {b G n : Nat} {tv cv lv : Value} {ls : List (Nat × Nat)} {w wx wy : World} (h : Spoils b G n tv cv lv ls w wx) (hb : Below wx.heap.size wx wy) : Spoils b G n tv cv lv ls w wy :=
  ⟨h.loan.kept hb (Nat.le_refl _), h.rows.below hb, h.row.below hb, h.mv.trans (Moved.of_below hb)⟩
theorem Spoils.set {b G n : Nat} {tv cv lv : Value} {ls : List (Nat × Nat)} {w wx : World} (h : Spoils b G n tv cv lv ls w wx) {g : Nat} (o : Nat) (u : Value) (h1 : g ≠ b) (h2 : tv.ownBlock ≠ some g) (h3 : cv.ownBlock ≠ some g) (hF : lentF G ls g) : Spoils b G n tv cv lv ls w (wx.setCell ⟨g, o, none⟩ u) :=
  ⟨h.loan.same (fun q hq => Below.heap_setCell _ _ _ _ (fun e => by
    subst e
    rcases hq with hq | hq | hq
    · exact h1 hq
    · exact h2 hq
    · exact h3 hq)), h.rows.set _ _ _, h.row.set _ _ _, h.mv.trans ⟨rfl, rfl, rfl, by simp [World.setCell], fun q _ hq => Below.heap_setCell _ _ _ _ (fun e => hq (e ▸ hF)), fun q hq => .inl hq⟩⟩
set_option maxRecDepth 100000 in
set_option maxHeartbeats 1000000 in
theorem spoil_any (b G n : Nat) (tv cv lv : Value) (ls : List (Nat × Nat)) (w : World) (HS : Hid (Spoils b G n tv cv lv ls w w)) (hl : ls.length * 24 ≤ 140737488355328) (hn : n * 72 ≤ 140737488351232)
    (HM : Hid (∀ (i M c : Nat), ls[i]? = some (M, c) → c * 16 ≤ 140737488351232 ∧ M ≠ b ∧ tv.ownBlock ≠ some M ∧ cv.ownBlock ≠ some M)) (HGX : Hid (G ≠ b ∧ tv.ownBlock ≠ some G ∧ cv.ownBlock ≠ some G)) :
    Calls Tryz.prog 29 #[.pointer (some ⟨b, 0, none⟩)] w fun e w' => e = .returned (.tuple #[]) ∧ Hid (Moved w w' (lentF G ls) (lentF G ls)) := by
  go_enter Tryz.func29, Tryz.ntmps29
  go_wp2_with fail
  go_loopw [2] (fun iv wx => ∃ i : Nat, i ≤ ls.length ∧ iv = .int .i64 i ∧ Hid (Spoils b G n tv cv lv ls w wx)) (fun iv _ => ls.length - (intOf iv).toNat)
  case atStart => exact ⟨0, Nat.zero_le _, rfl, HS⟩
  case round =>
    obtain ⟨i, hi, rfl, HX⟩ := hrel
    obtain ⟨d0, d1, d2, d3, d4, df⟩ := res_cells HX.out.loan.blk
    obtain ⟨ta, tc, htv, htc, _, hT⟩ := row_at HX.out.loan.tags
    have htv := htv
    by_cases hlt : i < ls.length
    · obtain ⟨⟨M, c⟩, hM⟩ : ∃ x, ls[i]? = some x := ⟨_, List.getElem?_eq_getElem hlt⟩
      obtain ⟨m1, m2, m3, m4⟩ := HM.out i M c hM
      have m5 : lentF G ls M := .inr ⟨i, c, hM⟩
      obtain ⟨gt, hgt, hcell⟩ := hT i (.slice (some ⟨M, 0, none⟩) (c + 8) (c + 8)) (by simp [lentV, hM])
      subst hgt
      rw [htv] at d0
      have hii : (i : Int) < (ls.length : Int) := by omega
      have hMn : M ≠ b ∧ tv.ownBlock ≠ some M ∧ cv.ownBlock ≠ some M ∧ lentF G ls M := ⟨m2, m3, m4, m5⟩
      have HMn := hide0 hMn
      have HcM := hide0 hM
      have n2 : ¬ gt = M := fun e => m3 (by rw [htv, e]; rfl)
      have n1 : ¬ b = M := fun e => m2 e.symm
      have n3 : ¬ M = b := m2
      have n4 : ¬ M = gt := fun e => n2 e.symm
      clear hMn m2 m3 m4 m5 hM d1 d2 d3 d4 df hT
      go_wp2_with fail
      clear d0 hcell
      go_loopw [3] (fun kv wx => ∃ k : Nat, k ≤ c + 8 ∧ kv = .int .i64 k ∧ Hid (Spoils b G n tv cv lv ls w wx)) (fun kv _ => c + 8 - (intOf kv).toNat)
      case atStart => exact ⟨0, Nat.zero_le _, rfl, HX⟩
      case round =>
        obtain ⟨k, hk, rfl, HK⟩ := hrel
        obtain ⟨d0, d1, d2, d3, d4, df⟩ := res_cells HK.out.loan.blk
        obtain ⟨ta2, tc2, htv2, htc2, _, hT⟩ := row_at HK.out.loan.tags
        rw [htv] at htv2
        cases htv2
        obtain ⟨gt2, hgt2, hcell⟩ := hT i (.slice (some ⟨M, 0, none⟩) (c + 8) (c + 8)) (by simp [lentV, HcM.out])
        cases hgt2
        rw [htv] at d0
        clear hT d1 d2 d3 d4 df
        by_cases hlk : k < c + 8
        · have hkk : (k : Int) < ((c : Int) + 8) := by omega
          have hkk2 : k < c + 8 := hlk
          have hBT := badTag_any 9 wr.drew (by decide) (by show (9 : Int).toNat < 26 ^ 13; decide)
          have ltb : b < wr.drew.heap.size := World.block_lt_of_cell? wr _ d0
          have ltg : gt < wr.drew.heap.size := World.block_lt_of_cell? wr _ hcell
          have HKd : Hid (∀ w2, Below wr.drew.heap.size wr.drew w2 → Spoils b G n tv cv lv ls w w2) := fun w2 hb => HK.out.below (((Below.refl _ _).drew).trans hb)
          go_wp2_with fail
          go_region_held (fun w' => w'.cell? ⟨b, 0, none⟩ = some (.slice (some ⟨gt, 0, none⟩) ls.length tc) ∧ w'.cell? ⟨gt, i, none⟩ = some (.slice (some ⟨M, 0, none⟩) (c + 8) (c + 8))) (go_keep)
            (first | (go_at_call 18; refine hBT.mono ?_; rintro e w2 ⟨rfl, hb2⟩; have HK2 := hide0 (HKd.out w2 hb2); have q0 := (hb2.cell (p := ⟨b, 0, none⟩) ltb).trans d0; have q1 := (hb2.cell (p := ⟨gt, i, none⟩) ltg).trans hcell; obtain ⟨y, hy, hyf⟩ := HK2.out.rows.there HcM.out hkk2))
          all_goals
            have HK3 := hide0 (HK2.out.set (g := M) k (.string (badB 9)) HMn.out.1 HMn.out.2.1 HMn.out.2.2.1 HMn.out.2.2.2)
            clear hb2 HK2 q0 q1 hy hyf d0 hcell HKd hBT
            go_wp2
            go_roundw
            case rel => exact ⟨k + 1, by omega, by go_num, HK3⟩
            case measure => simp [intOf]; omega
        · go_wp2_with fail
          go_roundw
          case rel => exact ⟨i + 1, by omega, by go_num, HK⟩
          case measure => simp [intOf]; omega
    · rw [htv] at d0
      go_wp2_with fail
      clear d0 d1 d2 d3 d4 df hT
      go_loopw [4] (fun iv wx => ∃ k : Nat, k ≤ n + 8 ∧ iv = .int .i64 k ∧ Hid (Spoils b G n tv cv lv ls w wx)) (fun iv _ => n + 8 - (intOf iv).toNat)
      case atStart => exact ⟨0, Nat.zero_le _, rfl, HX⟩
      case round =>
        obtain ⟨k, hk, rfl, HK⟩ := hrel
        obtain ⟨d0, d1, d2, d3, d4, df⟩ := res_cells HK.out.loan.blk
        clear d0 d1 d3 d4 df
        by_cases hlk : k < n + 8
        · have hkk : (k : Int) < ((n : Int) + 8) := by omega
          have hkk2 : k < n + 8 := hlk
          have hBE := badEvent_any 9 9 wr.drew rfl (by decide)
          have ltb : b < wr.drew.heap.size := World.block_lt_of_cell? wr _ d2
          have HKd : Hid (∀ w2, Below wr.drew.heap.size wr.drew w2 → Spoils b G n tv cv lv ls w w2) := fun w2 hb => HK.out.below (((Below.refl _ _).drew).trans hb)
          have n1 : ¬ b = G := fun e => HGX.out.1 e.symm
          have n3 : ¬ G = b := HGX.out.1
          rw [badV_arr] at hBE
          go_wp2_with fail
          go_region_held (fun w' => w'.cell? ⟨b, 2, none⟩ = some (.slice (some ⟨G, 0, none⟩) (n + 8) (n + 8))) (go_keep)
            (first | (go_at_call 20; refine hBE.mono ?_; rintro e w2 ⟨rfl, hb2⟩; have HK2 := hide0 (HKd.out w2 hb2); have q0 := (hb2.cell (p := ⟨b, 2, none⟩) ltb).trans d2; obtain ⟨y0, hy0, hyf0⟩ := HK2.out.row.there (k := k * 5) (by omega); obtain ⟨y1, hy1, hyf1⟩ := HK2.out.row.there (k := k * 5 + 1) (by omega); obtain ⟨y2, hy2, hyf2⟩ := HK2.out.row.there (k := k * 5 + 2) (by omega); obtain ⟨y3, hy3, hyf3⟩ := HK2.out.row.there (k := k * 5 + 3) (by omega); obtain ⟨y4, hy4, hyf4⟩ := HK2.out.row.there (k := k * 5 + 4) (by omega)))
          all_goals
            have hg1 := HGX.out.1
            have hg2 := HGX.out.2.1
            have hg3 := HGX.out.2.2
            have hg4 : lentF G ls G := .inl rfl
            have HK3 := hide0 (((((HK2.out.set (g := G) (k * 5) (.int .i64 (-1009)) hg1 hg2 hg3 hg4).set (g := G) (k * 5 + 1) (.string ⟨#[]⟩) hg1 hg2 hg3 hg4).set (g := G) (k * 5 + 2) (.int .i64 0) hg1 hg2 hg3 hg4).set (g := G) (k * 5 + 3) (.string callerB) hg1 hg2 hg3 hg4).set (g := G) (k * 5 + 4) (.slice none 0 0) hg1 hg2 hg3 hg4)
            clear hb2 HK2 q0 hy0 hyf0 hy1 hyf1 hy2 hyf2 hy3 hyf3 hy4 hyf4 d2 HKd hBE hg1 hg2 hg3 hg4 n1 n3
            go_wp2
            go_roundw
            case rel => exact ⟨k + 1, by omega, by go_num, HK3⟩
            case measure => simp [intOf]; omega
        · go_wp2
          go_end0
          exact ⟨rfl, HK.out.mv⟩
end Go.Proofs.YtdjllnhahhjgmaaGreat
