/- Walks and plain facts, in the order in which they lean on one another. -/
import Derived.Test.YtodlcnbknjldnaaGreatDoorW07
import Derived.Test.YtodlcnbknjldnaaGreatDoorW04
import Derived.Test.YtodlcnbknjldnaaGreatDoorW05
import Derived.Test.YtodlcnbknjldnaaGreatDoorW08
namespace Go.Proofs.YtodlcnbknjldnaaGreatDoor
open Go.RowKit Chron
theorem bool_cells {w : World} {N : Nat} {l : List Bool} {t : TypeId} (h : w.heap[N]? = some (.cells (l.map Value.bool).toArray t)) {i : Nat} {x : Bool} (hx : l[i]? = some x) : w.cell? ⟨N, i, none⟩ = some (.bool x) ∧ w.frozen? ⟨N, i, none⟩ = false := by
  constructor
  · simp [World.cell?, h, hx]
  · simp [World.frozen?, h]
set_option maxRecDepth 100000 in
set_option maxHeartbeats 4000000 in
theorem eventRef_any (s : ByteArray) (o : Option (List UInt8)) (w : World) (h : ∀ r, o = some r → Suf s r) (hs : s.size ≤ 1048576) :
    Calls Tryz.prog 33 #[.string s, .int .i64 (pos s o)] w fun e w' =>
      ∃ E v p, e = .returned (.tuple #[evVal E v, .int .i64 p]) ∧ EvR s o E p ∧ w'.ownsRow w.heap.size 9 1 v E.tags.length (E.tags.map Value.string) ∧ Below w.heap.size w w' := by
  have HH0 : Hid (Hb w.heap.size w (((w.alloc (.cells #[.int .i64 0, .string ⟨#[]⟩, .int .i64 0, .string ⟨#[]⟩, .slice none 0 0] 29)).alloc (.cells #[.int .i64 0, .string ⟨#[]⟩, .int .i64 0, .string ⟨#[]⟩, .slice none 0 0] 29)).alloc (.cells #[.bool false, .bool false, .bool false, .bool false, .bool false, .bool false] 78)) evZero (.slice none 0 0) [false, false, false, false, false, false]) := by
    refine ⟨?_, ?_, ?_, World.ownsRow_nil _ _ _ _, by simp [Value.ownBlock], (((Below.refl _ _).alloc (Nat.le_refl _) _).alloc (by simp) _).alloc (by simp only [World.size_alloc]; omega) _, rfl⟩
    · rw [Below.heap_alloc _ _ _ (by simp only [World.size_alloc]; omega), Below.heap_alloc _ _ _ (by simp), heap_alloc_new]
    · rw [Below.heap_alloc _ _ _ (by simp only [World.size_alloc]; omega)]
      have := heap_alloc_new (w.alloc (.cells #[.int .i64 0, .string ⟨#[]⟩, .int .i64 0, .string ⟨#[]⟩, .slice none 0 0] 29)) (.cells #[.int .i64 0, .string ⟨#[]⟩, .int .i64 0, .string ⟨#[]⟩, .slice none 0 0] 29)
      rw [World.size_alloc] at this; exact this
    · have := heap_alloc_new ((w.alloc (.cells #[.int .i64 0, .string ⟨#[]⟩, .int .i64 0, .string ⟨#[]⟩, .slice none 0 0] 29)).alloc (.cells #[.int .i64 0, .string ⟨#[]⟩, .int .i64 0, .string ⟨#[]⟩, .slice none 0 0] 29)) (.cells #[.bool false, .bool false, .bool false, .bool false, .bool false, .bool false] 78)
      rw [World.size_alloc, World.size_alloc] at this; exact this
  have HN0 : Hid (Now s o 5 123 evZero [] [false, false, false, false, false, false] o) := by
    refine ⟨rfl, List.nodup_nil, (fun nm hnm => by cases hnm), fun i => ?_, h⟩
    constructor
    · intro hi
      have : i < 6 := by have := (List.getElem?_eq_some_iff.1 hi).1; simpa using this
      match i, this, hi with
      | 0, _, hi => cases hi
      | 1, _, hi => cases hi
      | 2, _, hi => cases hi
      | 3, _, hi => cases hi
      | 4, _, hi => cases hi
      | 5, _, hi => cases hi
    · rintro ⟨nm, hnm, _⟩; cases hnm
  obtain ⟨p0, hp0, HP0⟩ : ∃ p0, pos s o = p0 ∧ Hid (pos s o = p0) := ⟨_, rfl, rfl⟩
  rw [hp0]
  clear hp0
  have n1 : ¬ w.heap.size = w.heap.size + 1 := by omega
  have n2 : ¬ w.heap.size + 1 = w.heap.size := by omega
  have n3 : ¬ w.heap.size + 1 + 1 = w.heap.size := by omega
  have n4 : ¬ w.heap.size = w.heap.size + 1 + 1 := by omega
  go_enter Tryz.func33, Tryz.ntmps33
  go_wp2_with fail
  go_loopw [1, 8, 9] (fun av cv iv wx => ∃ (i : Nat) (q : Option (List UInt8)) (c : UInt8) (E : Ev) (v : Value) (ns : List (List UInt8)) (hb : List Bool) (p z : Int), i ≤ 5 ∧ av = .int .i64 p ∧ cv = .int .u8 z ∧ iv = .int .i64 i ∧ Hid (pos s q = p ∧ z = (c.toNat : Int)) ∧ Hid (Now s o (5 - i) c E ns hb q) ∧ Hid (Hb w.heap.size w wx E v hb) ∧ Hid (0 < i → ∃ t, q = some t)) (fun _ _ iv _ => 5 - (intOf iv).toNat)
  case atStart => exact ⟨0, o, 123, evZero, .slice none 0 0, [], [false, false, false, false, false, false], p0, 123, by omega, rfl, rfl, rfl, ⟨HP0.out, rfl⟩, HN0, HH0, fun h => by omega⟩
  case round =>
    obtain ⟨i, q, c, E, v, ns, hb, p, z, hi, rfl, rfl, rfl, HPZ, HN, HH, HQ⟩ := hrel
    obtain ⟨va, vc, hve, _⟩ := own_tags HH.out.own
    subst hve
    obtain ⟨r0', r1', r2', r3', r4', rf⟩ := res_cells HH.out.res
    obtain ⟨d0, d1, d2, d3, d4, df⟩ := res_cells HH.out.box
    have hbig := HH.out.big
    obtain ⟨E0, E1, E2, E3, E4⟩ := E
    by_cases hi5 : i < 5
    · have hiI : (i : Int) < 5 := by omega
      obtain ⟨n, hn⟩ : ∃ n, 5 - i = n + 1 := ⟨4 - i, by omega⟩
      rw [hn] at HN
      have HNN := hide0 hn
      have hS := sign_pos s q c z HPZ.out.2 wr (HN.out.suf) hs
      rw [HPZ.out.1] at hS
      clear hn
      cases hqs : q.bind (signL c) with
      | none =>
        have HF : Hid (o.bind eventL = none) := HN.out.none hqs
        rw [hqs] at hS
        have hm : pos s none = -1 := rfl
        rw [hm] at hS
        go_wp2_with fail
        refine hS.mono ?_
        rintro e w1 ⟨rfl, hw1⟩
        have hw2 := hw1.symm
        subst hw2
        clear hw1 hS
        go_wp2
        refine bodyPost_ret (v := .tuple #[.agg #[.int .i64 E0, .string E1, .int .i64 E2, .string E3, .slice va E4.length vc], .int .i64 (-1)]) (by simp [results, Tryz.results33, go_sem, r0', r1', r2', r3', r4']) rfl ?_
        exact ⟨⟨E0, E1, E2, E3, E4⟩, .slice va E4.length vc, -1, rfl, EvR.no HF.out, HH.out.out.1, HH.out.out.2⟩
      | some t1 =>
        have ht1 : Suf s t1 := by
          cases q with
          | none => cases hqs
          | some t0 => exact (HN.out.suf t0 rfl).trans (sign_suf hqs).1
        rw [hqs] at hS
        obtain ⟨p1, hp1, HP1⟩ : ∃ p1, pos s (some t1) = p1 ∧ Hid (pos s (some t1) = p1) := ⟨_, rfl, rfl⟩
        have hp1n : 0 ≤ p1 := by rw [← hp1]; have := ht1.le; simp only [pos]; omega
        have hM := member_any s t1 E0 E1 E2 E3 E4 (.slice va E4.length vc) wr w.heap.size ht1 hs (by omega) HH.out.own
        rw [hp1] at hS hM
        clear hp1
        go_wp2_with fail
        refine hS.mono ?_
        rintro e w1 ⟨rfl, hw1⟩
        have hw2 := hw1.symm
        subst hw2
        clear hw1 hS
        go_wp2_with fail
        refine hM.mono ?_
        rintro e w2 ⟨E', y, which, p2, rfl, hMR, hy, hb2, hyo⟩
        obtain ⟨ya, yc, hye, _⟩ := own_tags hy
        subst hye
        have HH2 := hide0 (HH.out.more hb2)
        have hyap : (Value.slice ya E'.tags.length yc).ownBlock ≠ some w.heap.size ∧ (Value.slice ya E'.tags.length yc).ownBlock ≠ some (w.heap.size + 1) ∧ (Value.slice ya E'.tags.length yc).ownBlock ≠ some (w.heap.size + 2) := by
          have hap := HH.out.ap
          refine ⟨fun e => ?_, fun e => ?_, fun e => ?_⟩
          · rcases hyo _ e with h | h
            · exact hap.1 h
            · omega
          · rcases hyo _ e with h | h
            · exact hap.2.1 h
            · omega
          · rcases hyo _ e with h | h
            · exact hap.2.2 h
            · omega
        have HH3 := hide0 (HH2.out.put hy hyap)
        obtain ⟨F0, F1, F2, F3, F4⟩ := E'
        simp only at HH3
        clear hM hb2 hy hyo hyap r0' r1' r2' r3' r4' rf d0 d1 d2 d3 d4 df
        obtain ⟨r0', r1', r2', r3', r4', rf⟩ := res_cells HH2.out.res
        obtain ⟨d0, d1, d2, d3, d4, df⟩ := res_cells HH2.out.box
        simp only [evVal]
        cases hml : memL (capE ⟨E0, E1, E2, E3, E4⟩) t1 with
        | none =>
          have HF : Hid (o.bind eventL = none) := HN.out.bad hqs hml
          rw [MemR, hml] at hMR
          have hp2 : p2 = -1 := hMR
          subst hp2
          go_wp2
          refine bodyPost_ret (v := .tuple #[.agg #[.int .i64 F0, .string F1, .int .i64 F2, .string F3, .slice ya F4.length yc], .int .i64 (-1)]) (by simp [results, Tryz.results33, go_sem, r0', r1', r2', r3', r4']) rfl ?_
          exact ⟨⟨F0, F1, F2, F3, F4⟩, .slice ya F4.length yc, -1, rfl, EvR.no HF.out, HH3.out.out.1, HH3.out.out.2⟩
        | some q3 =>
          obtain ⟨nm, e', r⟩ := q3
          rw [MemR, hml] at hMR
          obtain ⟨hcap, hwh, hpr, hsr⟩ := hMR
          obtain ⟨j, hj, hj6⟩ := idx_bd (mem_name hml)
          obtain ⟨x, hx⟩ : ∃ x, hb[j]? = some x := ⟨_, List.getElem?_eq_getElem (by rw [HH.out.len]; exact hj6)⟩
          obtain ⟨g1, g2⟩ := bool_cells HH2.out.had hx
          have hp2n : 0 ≤ p2 := by rw [hpr]; have := hsr.le; simp only [pos]; omega
          have hw2 : which = (j : Int) := by rw [hwh, hj]
          subst hw2
          have HPR := hide0 hpr
          have hj6I : (j : Int) < 6 := by omega
          clear hpr hwh
          cases x with
          | true =>
            have HF : Hid (o.bind eventL = none) := HN.out.twice hqs hml (by
              obtain ⟨nm2, h2, h3⟩ := (HN.out.marks j).1 hx
              rw [idx_inj (mem_name hml) (HN.out.oks nm2 h2) (by rw [hj, h3])]; exact h2)
            clear hj hx
            go_wp2
            refine bodyPost_ret (v := .tuple #[.agg #[.int .i64 F0, .string F1, .int .i64 F2, .string F3, .slice ya F4.length yc], .int .i64 (-1)]) (by simp [results, Tryz.results33, go_sem, r0', r1', r2', r3', r4']) rfl ?_
            exact ⟨⟨F0, F1, F2, F3, F4⟩, .slice ya F4.length yc, -1, rfl, EvR.no HF.out, HH3.out.out.1, HH3.out.out.2⟩
          | false =>
            have HN2 : Hid (Now s o (5 - (i + 1)) 44 ⟨F0, F1, F2, F3, F4⟩ (ns ++ [nm]) (hb.set j true) (some r)) := by
              have hnn : 5 - (i + 1) = n := by have := HNN.out; omega
              rw [hnn]
              exact HN.out.next hqs hml hcap hsr hj HH.out.len (by rw [hx]; simp)
            have HH4 := hide0 (HH3.out.mark (i := j))
            clear hj hx hcap
            go_wp2
            go_roundw
            case rel => exact ⟨i + 1, some r, 44, ⟨F0, F1, F2, F3, F4⟩, .slice ya F4.length yc, ns ++ [nm], hb.set j true, p2, 44, by omega, rfl, rfl, by go_num, ⟨HPR.out.symm, rfl⟩, HN2, HH4, fun _ => ⟨r, rfl⟩⟩
            case measure => simp [intOf]; omega
    · have hiI : ¬ (i : Int) < 5 := by omega
      have hie : i = 5 := by omega
      obtain ⟨t, hqt⟩ := HQ.out (by omega)
      subst hqt
      have HF : Hid (EvR s o ⟨E0, E1, E2, E3, E4⟩ (pos s (signL 125 t))) := by
        have := HN.out
        rw [hie] at this
        exact this.done
      have hS := sign_any s t 125 125 rfl wr (HN.out.suf t rfl) hs
      rw [HPZ.out.1] at hS
      clear hie
      have HHd := hide0 (HH.out.more ((Below.refl _ _).drew))
      have hS2 : Calls Tryz.prog 32 #[.string s, .int .i64 p, .int .u8 125] wr.drew fun e w' => e = .returned (.int .i64 (pos s (signL 125 t))) ∧ w' = wr.drew := by
        have := sign_any s t 125 125 rfl wr.drew (HN.out.suf t rfl) hs
        rw [HPZ.out.1] at this
        exact this
      clear hS
      simp only at d0 d1 d2 d3
      go_wp2_with fail
      go_region_held (fun X => X.cell? ⟨w.heap.size + 1, 0, none⟩ = some (.int .i64 E0) ∧ X.cell? ⟨w.heap.size + 1, 1, none⟩ = some (.string E1) ∧ X.cell? ⟨w.heap.size + 1, 2, none⟩ = some (.int .i64 E2) ∧ X.cell? ⟨w.heap.size + 1, 3, none⟩ = some (.string E3) ∧ X.cell? ⟨w.heap.size + 1, 4, none⟩ = some (.slice va E4.length vc)) (go_keep)
        (first | (go_at_call 32; refine hS2.mono ?_; rintro e w1 ⟨rfl, hw1⟩; have hw2 := hw1.symm; subst hw2; clear hw1))
      all_goals
        go_wp2
        refine bodyPost_ret (v := .tuple #[.agg #[.int .i64 E0, .string E1, .int .i64 E2, .string E3, .slice va E4.length vc], .int .i64 (pos s (signL 125 t))]) (by simp [results, Tryz.results33, go_sem, r0', r1', r2', r3', r4']) rfl ?_
        exact ⟨⟨E0, E1, E2, E3, E4⟩, .slice va E4.length vc, _, rfl, HF.out, HHd.out.out.1, HHd.out.out.2⟩
end Go.Proofs.YtodlcnbknjldnaaGreatDoor
namespace Chron
open Go Go.RowKit
structure Few (n : Nat) (e : Ev) : Prop where
  tags : e.tags.length ≤ n
  each : ∀ t ∈ e.tags, t.size ≤ n
  task : e.task.size ≤ n
  body : e.body.size ≤ n
theorem ba_size (l : List UInt8) : (ba l).size = l.length := rfl
theorem items_each {one : List UInt8 → Option (List UInt8 × List UInt8)} {hone : ∀ l x r, one l = some (x, r) → r.length < l.length} (hx : ∀ l x r, one l = some (x, r) → x.length ≤ l.length) : ∀ (n : Nat) {l r : List UInt8} {xs : List (List UInt8)}, l.length ≤ n → itemsL one hone l = some (xs, r) → ∀ x ∈ xs, x.length ≤ l.length
  | n, l, r, xs, hn, h => by
    cases ho : one l with
    | none => rw [items_none ho] at h; cases h
    | some p =>
      obtain ⟨x, r0⟩ := p
      have h0 := hone l x r0 ho
      have x0 := hx l x r0 ho
      cases hs : signL 44 r0 with
      | none =>
        rw [items_last ho hs] at h
        cases h3 : signL 93 r0 with
        | none => rw [h3] at h; cases h
        | some r3 =>
          rw [h3] at h
          simp only [Option.map_some, Option.some.injEq, Prod.mk.injEq] at h
          obtain ⟨rfl, rfl⟩ := h
          intro y hy
          simp only [List.mem_singleton] at hy
          rw [hy]; exact x0
      | some r2 =>
        rw [items_more ho hs] at h
        have hl2 := (sign_suf hs).2
        cases hi : itemsL one hone r2 with
        | none => rw [hi] at h; cases h
        | some q =>
          obtain ⟨ys, r3⟩ := q
          rw [hi] at h
          simp only [Option.map_some, Option.some.injEq, Prod.mk.injEq] at h
          obtain ⟨rfl, rfl⟩ := h
          match n, hn with
          | 0, hn => omega
          | n + 1, hn =>
            have ih := items_each hx n (by omega) hi
            intro y hy
            rcases List.mem_cons.1 hy with rfl | hy
            · exact x0
            · have := ih y hy; omega
theorem tags_each {l r : List UInt8} {xs : List (List UInt8)} (h : tagsL l = some (xs, r)) : ∀ x ∈ xs, x.length ≤ l.length := by
  unfold tagsL listL at h
  split at h
  · cases h
  · rename_i r0 e0
    have h0 := (sign_suf e0).2
    split at h
    · simp only [Option.some.injEq, Prod.mk.injEq] at h
      obtain ⟨rfl, _⟩ := h
      intro x hx; cases hx
    · intro x hx
      have := items_each (fun l x r h => by have := (quote_suf h).2.2; omega) _ (Nat.le_refl _) h x hx
      omega
theorem field_few {n : Nat} {nm l r : List UInt8} {e e' : Ev} (hn : l.length ≤ n) (he : Few n e) (h : fieldL nm e l = some (e', r)) : Few n e' := by
  unfold fieldL at h
  split at h
  · cases hc : quoteL l with
    | none => rw [hc] at h; cases h
    | some p =>
      rw [hc] at h
      simp only [Option.map_some, Option.some.injEq, Prod.mk.injEq] at h
      obtain ⟨rfl, _⟩ := h
      have := (quote_suf (s := p.1) (r := p.2) hc).2.2
      exact ⟨he.tags, he.each, he.task, by show (ba p.1).size ≤ n; rw [ba_size]; omega⟩
  · split at h
    · cases hc : quoteL l with
      | none => rw [hc] at h; cases h
      | some p =>
        rw [hc] at h
        simp only [Option.bind_some] at h
        cases hk : kindW p.1 with
        | none => rw [hk] at h; cases h
        | some k =>
          rw [hk] at h
          simp only [Option.map_some, Option.some.injEq, Prod.mk.injEq] at h
          obtain ⟨rfl, _⟩ := h
          exact ⟨he.tags, he.each, he.task, he.body⟩
    · split at h
      · cases hc : tagsL l with
        | none => rw [hc] at h; cases h
        | some p =>
          rw [hc] at h
          simp only [Option.map_some, Option.some.injEq, Prod.mk.injEq] at h
          obtain ⟨rfl, _⟩ := h
          have h1 := (list_suf (fun l x r h => (quote_suf h).1) (xs := p.1) (r := p.2) hc).2.2
          have h2 := tags_each (xs := p.1) (r := p.2) hc
          refine ⟨by show (p.1.map ba).length ≤ n; rw [List.length_map]; omega, fun t ht => ?_, he.task, he.body⟩
          obtain ⟨x, hx, rfl⟩ := List.mem_map.1 ht
          have := h2 x hx
          rw [ba_size]; omega
      · split at h
        · cases hc : quoteL l with
          | none => rw [hc] at h; cases h
          | some p =>
            rw [hc] at h
            simp only [Option.map_some, Option.some.injEq, Prod.mk.injEq] at h
            obtain ⟨rfl, _⟩ := h
            have := (quote_suf (s := p.1) (r := p.2) hc).2.2
            exact ⟨he.tags, he.each, by show (ba p.1).size ≤ n; rw [ba_size]; omega, he.body⟩
        · split at h
          · cases hc : countL l with
            | none => rw [hc] at h; cases h
            | some p =>
              rw [hc] at h
              simp only [Option.map_some, Option.some.injEq, Prod.mk.injEq] at h
              obtain ⟨rfl, _⟩ := h
              exact ⟨he.tags, he.each, he.task, he.body⟩
          · cases h
theorem step_few {n : Nat} {c : UInt8} {l nm r : List UInt8} {e e' : Ev} (hn : l.length ≤ n) (he : Few n e) (h : stepL c e l = some (nm, e', r)) : Few n e' := by
  unfold stepL at h
  split at h
  · cases h
  · rename_i r0 e0
    split at h
    · cases h
    · rename_i nm' r1 e1
      split at h
      · cases h
      · rename_i r2 e2
        cases hf : fieldL nm' e r2 with
        | none => rw [hf] at h; cases h
        | some p =>
          rw [hf] at h
          simp only [Option.map_some, Option.some.injEq, Prod.mk.injEq] at h
          obtain ⟨_, rfl, _⟩ := h
          have a0 := (sign_suf e0).2
          have a1 := (quote_suf e1).2.1
          have a2 := (sign_suf e2).2
          exact field_few (by omega) he hf
theorem steps_few {n : Nat} : ∀ (k : Nat) {c : UInt8} {e e' : Ev} {had had' : List (List UInt8)} {l r : List UInt8}, l.length ≤ n → Few n e → stepsL k c e had l = some (e', had', r) → Few n e'
  | 0, c, e, e', had, had', l, r, _, he, h => by
    simp only [stepsL, Option.some.injEq, Prod.mk.injEq] at h
    obtain ⟨rfl, _⟩ := h
    exact he
  | k + 1, c, e, e', had, had', l, r, hn, he, h => by
    simp only [stepsL] at h
    split at h
    · cases h
    · rename_i nm e1 r1 hs
      have a2 := (step_suf hs).2
      exact steps_few k (by omega) (step_few hn he hs) h
theorem event_few {l r : List UInt8} {e : Ev} (h : eventL l = some (e, r)) : Few l.length e := by
  unfold eventL at h
  split at h
  · cases h
  · rename_i e' had r0 hs
    split at h
    · cases hc : signL 125 r0 with
      | none => rw [hc] at h; cases h
      | some r2 =>
        rw [hc] at h
        simp only [Option.map_some, Option.some.injEq, Prod.mk.injEq] at h
        obtain ⟨rfl, rfl⟩ := h
        refine steps_few 5 (Nat.le_refl _) ⟨?_, ?_, ?_, ?_⟩ hs
        · show 0 ≤ _; omega
        · intro t ht; cases ht
        · show 0 ≤ _; omega
        · show 0 ≤ _; omega
    · cases h
end Chron
namespace Go.Proofs.YtodlcnbknjldnaaGreatDoor
open Go.RowKit Chron
/- an event, and where its tags lie -/
structure Item where
  ev : Ev
  at' : Option Addr
  cap : Nat
def Item.val (i : Item) : Value := .agg #[.int .i64 i.ev.kind, .string i.ev.task, .int .i64 i.ev.time, .string i.ev.body, .slice i.at' i.ev.tags.length i.cap]
structure ItemOk (w : World) (i : Item) : Prop where
  tags : TagsAt w i.at' i.ev.tags
  short : Short i.ev.tags
  few : i.ev.tags.length * 16 ≤ 140737488351232
  task : i.ev.task.size ≤ maxLen
  body : i.ev.body.size ≤ maxLen
structure CellsAt (w : World) (b o : Nat) (i : Item) : Prop where
  c0 : w.cell? ⟨b, o, none⟩ = some (.int .i64 i.ev.kind)
  c1 : w.cell? ⟨b, o + 1, none⟩ = some (.string i.ev.task)
  c2 : w.cell? ⟨b, o + 2, none⟩ = some (.int .i64 i.ev.time)
  c3 : w.cell? ⟨b, o + 3, none⟩ = some (.string i.ev.body)
  c4 : w.cell? ⟨b, o + 4, none⟩ = some (.slice i.at' i.ev.tags.length i.cap)
def EvsAt (w : World) (a : Option Addr) (l : List Item) : Prop :=
  0 < l.length → ∃ b off, a = some ⟨b, off, none⟩ ∧ ∀ k i, l[k]? = some i → CellsAt w b (off + k * 5) i ∧ ItemOk w i
def evs (l : List Item) : List Ev := l.map (·.ev)
theorem ItemOk.below {w w' : World} {i : Item} {B : Nat} (h : ItemOk w i) (hb : Below B w w') (hB : w.heap.size ≤ B) : ItemOk w' i := ⟨h.tags.below hb hB, h.short, h.few, h.task, h.body⟩
theorem CellsAt.below {w w' : World} {b o : Nat} {i : Item} {B : Nat} (h : CellsAt w b o i) (hb : Below B w w') (hB : w.heap.size ≤ B) : CellsAt w' b o i := by
  have hlt := Nat.lt_of_lt_of_le (World.block_lt_of_cell? w _ h.c0) hB
  exact ⟨(hb.cell (p := ⟨b, o, none⟩) hlt).trans h.c0, (hb.cell (p := ⟨b, o + 1, none⟩) hlt).trans h.c1, (hb.cell (p := ⟨b, o + 2, none⟩) hlt).trans h.c2, (hb.cell (p := ⟨b, o + 3, none⟩) hlt).trans h.c3, (hb.cell (p := ⟨b, o + 4, none⟩) hlt).trans h.c4⟩
theorem EvsAt.below {w w' : World} {a : Option Addr} {l : List Item} {B : Nat} (h : EvsAt w a l) (hb : Below B w w') (hB : w.heap.size ≤ B) : EvsAt w' a l := by
  intro h0
  obtain ⟨b, off, rfl, hc⟩ := h h0
  exact ⟨b, off, rfl, fun k i hi => ⟨(hc k i hi).1.below hb hB, (hc k i hi).2.below hb hB⟩⟩
set_option maxRecDepth 100000 in
set_option maxHeartbeats 1000000 in
theorem refuse_any (a : Option Addr) (cap : Nat) (l : List Item) (w : World) (hl : Hid (EvsAt w a l)) (hn : l.length * 72 ≤ 140737488351232) :
    Calls Tryz.prog 15 #[.slice a l.length cap] w fun e w' => e = .returned (.int .i64 (expB (evs l)).2) ∧ Below w.heap.size w w' := by
  by_cases hmany : 200 < l.length
  · have HE : Hid ((expB (evs l)).2 = 5) := by show _ = _; rw [expB, if_pos (by simpa [evs] using hmany)]
    go_enter Tryz.func15, Tryz.ntmps15
    go_wp2
    go_ret
    exact ⟨ret_int HE.out.symm, Below.refl _ _⟩
  · go_enter Tryz.func15, Tryz.ntmps15
    go_wp2
    go_loopw [10] (fun i wx => ∃ k : Nat, k ≤ l.length ∧ i = .int .i64 k ∧ Hid (∀ x ∈ (evs l).take k, isB x = true) ∧ Hid (Below w.heap.size w wx)) (fun i _ => l.length - (intOf i).toNat)
    case atStart => exact ⟨0, Nat.zero_le _, rfl, by intro x hx; simp at hx, Below.refl _ _⟩
    case round =>
      obtain ⟨k, hk, rfl, HA, HW⟩ := hrel
      by_cases hlt : k < l.length
      · obtain ⟨b1, o1, rfl, hc1⟩ := hl.out.below HW.out (Nat.le_refl _) (by omega)
        obtain ⟨⟨⟨kd, tk, tm, bd, ts⟩, ta, tc⟩, hx⟩ : ∃ x, l[k]? = some x := ⟨_, List.getElem?_eq_getElem hlt⟩
        obtain ⟨⟨c0, c1, c2, c3, c4⟩, hok⟩ := hc1 k _ hx
        simp only at c0 c1 c2 c3 c4
        have HOK := hide0 hok
        have HX := hide0 hx
        clear hc1 hok hx
        have hI := is_any kd tk tm bd ta tc ts (wr.alloc (.cells #[.int .i64 kd, .string tk, .int .i64 tm, .string bd, .slice ta ts.length tc] 29)) (HOK.out.tags.alloc _) HOK.out.short (by have := HOK.out.few; unfold maxLen; simp only at this; omega) HOK.out.task HOK.out.body
        have hsz := HW.out.size
        generalize hq : isB ⟨kd, tk, tm, bd, ts⟩ = q at hI
        have HQ : Hid _ := hq
        clear hq
        have hev : (evs l)[k]? = some ⟨kd, tk, tm, bd, ts⟩ := by rw [evs, List.getElem?_map, HX.out]; rfl
        cases q
        · have HE : Hid ((expB (evs l)).2 = 2) := by
            show _ = _
            rw [expB, if_neg (by simpa [evs] using hmany), if_neg]
            rw [List.all_eq_true]
            intro h
            have := h _ (List.mem_of_getElem? hev)
            rw [HQ.out] at this
            cases this
          clear hev
          go_wp2_with fail
          refine hI.mono ?_
          rintro e w1 ⟨rfl, hb1⟩
          go_wp2
          go_ret
          exact ⟨ret_int HE.out.symm, (HW.out.alloc hsz _).trans (hb1.mono (by rw [World.size_alloc]; omega))⟩
        · have HA2 : Hid (∀ x ∈ (evs l).take (k + 1), isB x = true) := by
            intro x hx
            have hk' := (List.getElem?_eq_some_iff.1 hev).1
            rw [List.take_succ_eq_append_getElem hk', List.mem_append] at hx
            rcases hx with hx | hx
            · exact HA.out x hx
            · simp only [List.mem_singleton] at hx
              rw [List.getElem?_eq_getElem hk'] at hev
              rw [hx, Option.some.inj hev]; exact HQ.out
          clear hev
          go_wp2_with fail
          refine hI.mono ?_
          rintro e w1 ⟨rfl, hb1⟩
          have HW1 := hide0 ((HW.out.alloc hsz _).trans (hb1.mono (by rw [World.size_alloc]; omega)))
          clear hb1 hI
          go_wp2
          go_roundw
          case rel => exact ⟨k + 1, by omega, by go_num, HA2, HW1⟩
          case measure => simp [intOf]; omega
      · have HE : Hid ((expB (evs l)).2 = 0) := by
          show _ = _
          rw [expB, if_neg (by simpa [evs] using hmany), if_pos]
          rw [List.all_eq_true]
          intro x hx
          refine HA.out x ?_
          rwa [List.take_of_length_le (by simp [evs]; omega)]
        go_wp2
        go_ret
        exact ⟨ret_int HE.out.symm, HW.out⟩
end Go.Proofs.YtodlcnbknjldnaaGreatDoor
namespace Go.Proofs.YtodlcnbknjldnaaGreatDoor
open Go.RowKit Chron
theorem infoEvent5 : (Tryz.prog.info? 29).map (fun i => (i.zero, i.size, i.bytes)) = some (some (.agg #[.int .i64 0, .string ⟨#[]⟩, .int .i64 0, .string ⟨#[]⟩, .slice none 0 0]), 5, 72) := by kernel_rfl
def Item.five (i : Item) : List Value := [.int .i64 i.ev.kind, .string i.ev.task, .int .i64 i.ev.time, .string i.ev.body, .slice i.at' i.ev.tags.length i.cap]
def fives (l : List Item) : List Value := l.flatMap Item.five
theorem fives_len (l : List Item) : (fives l).length = l.length * 5 := by
  induction l with
  | nil => rfl
  | cons x l ih => simp only [fives, List.flatMap_cons, List.length_append, List.length_cons] at *; rw [ih]; simp [Item.five]; omega
theorem fives_at {l : List Item} {k : Nat} {i : Item} (h : l[k]? = some i) {j : Nat} (hj : j < 5) : (fives l)[k * 5 + j]? = i.five[j]? := by
  induction l generalizing k with
  | nil => simp at h
  | cons x l ih =>
    cases k with
    | zero =>
      simp only [List.getElem?_cons_zero, Option.some.injEq] at h
      subst h
      simp only [fives, List.flatMap_cons, Nat.zero_mul, Nat.zero_add]
      rw [List.getElem?_append_left (by simpa [Item.five] using hj)]
    | succ k =>
      simp only [List.getElem?_cons_succ] at h
      have := ih h
      simp only [fives, List.flatMap_cons]
      rw [List.getElem?_append_right (by simp [Item.five]; omega)]
      have e : (k + 1) * 5 + j - x.five.length = k * 5 + j := by simp [Item.five]; omega
      rw [e]; exact this
/- a list of events that a call has made: a row of its own, and each one's tags apart from it -/
structure Made (N : Nat) (w : World) (lv : Value) (its : List Item) : Prop where
  row : w.ownsRow N 29 5 lv its.length (fives its)
  tags : ∀ it ∈ its, TagsAt w it.at' it.ev.tags ∧ ∀ a, it.at' = some a → lv.ownBlock ≠ some a.block ∧ a.block < w.heap.size
theorem Made.nil (N : Nat) (w : World) : Made N w (.slice none 0 0) [] := ⟨World.ownsRow_nil _ _ _ _, fun it h => by cases h⟩
theorem Made.more {N : Nat} {w w' : World} {lv : Value} {its : List Item} (h : Made N w lv its) (hb : Below w.heap.size w w') : Made N w' lv its :=
  ⟨own_below h.row hb, fun it hi => ⟨(h.tags it hi).1.below hb (Nat.le_refl _), fun a ha => ⟨((h.tags it hi).2 a ha).1, Nat.lt_of_lt_of_le ((h.tags it hi).2 a ha).2 hb.size⟩⟩⟩
theorem Made.push {N : Nat} {w wa : World} {lv : Value} {its : List Item} {o : Obj} {g cap : Nat} {i : Item} (h : Made N w lv its) (hi : TagsAt w i.at' i.ev.tags) (ha : ∀ a, i.at' = some a → lv.ownBlock ≠ some a.block ∧ a.block < w.heap.size)
    (hg : (w.alloc o).grownBy wa lv.ownBlock) (hown : wa.ownsRow N 29 5 (.slice (some ⟨g, 0, none⟩) (its.length + 1) cap) (its.length + 1) (fives its ++ i.five)) (hat : lv.ownBlock = some g ∨ g = (w.alloc o).heap.size) :
    Made N wa (.slice (some ⟨g, 0, none⟩) (its.length + 1) cap) (its ++ [i]) := by
  have hs := hg.size
  rw [World.size_alloc] at hs
  have key : ∀ x : Item, TagsAt w x.at' x.ev.tags → (∀ a, x.at' = some a → lv.ownBlock ≠ some a.block ∧ a.block < w.heap.size) → TagsAt wa x.at' x.ev.tags ∧ ∀ a, x.at' = some a → (Value.slice (some ⟨g, 0, none⟩) (its.length + 1) cap).ownBlock ≠ some a.block ∧ a.block < wa.heap.size := by
    intro x hx hxa
    refine ⟨fun h0 => ?_, fun a ha => ?_⟩
    · obtain ⟨b, off, hb, hc⟩ := hx h0
      refine ⟨b, off, hb, fun k hk => ?_⟩
      obtain ⟨h1, h2⟩ := hxa _ hb
      have hblk : wa.heap[b]? = w.heap[b]? := by
        rw [hg.block b (by rw [World.size_alloc]; simp only at h2; omega) (fun e => h1 e.symm), Below.heap_alloc _ _ _ h2]
      rw [← hc k hk]
      simp [World.cell?, hblk]
    · obtain ⟨h1, h2⟩ := hxa a ha
      refine ⟨?_, by omega⟩
      simp only [Value.ownBlock, ne_eq, Option.some.injEq]
      rcases hat with e | e
      · rintro rfl; exact h1 e
      · rw [World.size_alloc] at e; omega
  refine ⟨?_, fun x hx => ?_⟩
  · have e : fives (its ++ [i]) = fives its ++ i.five := by simp [fives]
    rw [e]
    simpa using hown
  · rcases List.mem_append.1 hx with hx | hx
    · exact key x (h.tags x hx).1 (h.tags x hx).2
    · simp only [List.mem_singleton] at hx
      rw [hx]; exact key i hi ha
theorem Made.evs {N : Nat} {w : World} {lv : Value} {its : List Item} (h : Made N w lv its) (hf : ∀ it ∈ its, Few 1048576 it.ev) : ∃ a cap, lv = .slice a its.length cap ∧ EvsAt w a its := by
  have key : ∀ it ∈ its, ItemOk w it := fun it hi => by
    have f := hf it hi
    refine ⟨(h.tags it hi).1, fun k hk => ?_, by have := f.tags; omega, by have := f.task; unfold maxLen; omega, by have := f.body; unfold maxLen; omega⟩
    rw [List.getElem?_eq_getElem hk]
    have := f.each _ (List.getElem_mem hk)
    simp only [Option.getD_some]
    unfold maxLen
    omega
  rcases h.row.2 with ⟨h1, h2⟩ | ⟨g, cap, cur, hv, _, hg, _, _, _, hx⟩
  · rw [h1]
    refine ⟨none, 0, by rw [h2], fun h0 => by omega⟩
  · refine ⟨some ⟨g, 0, none⟩, cap, hv, fun _ => ⟨g, 0, rfl, fun k i hk => ⟨?_, key i (List.mem_of_getElem? hk)⟩⟩⟩
    have hc : ∀ j, j < 5 → w.cell? ⟨g, 0 + k * 5 + j, none⟩ = i.five[j]? := fun j hj => by
      have h5 := fives_at hk hj
      rw [← hx] at h5
      have hkl := (List.getElem?_eq_some_iff.1 hk).1
      have hlt : k * 5 + j < its.length * 5 := by
        have : (k + 1) * 5 ≤ its.length * 5 := Nat.mul_le_mul_right _ hkl
        omega
      rw [List.getElem?_take_of_lt hlt] at h5
      rw [Nat.zero_add]
      simpa [World.cell?, hg] using h5
    exact ⟨hc 0 (by omega), hc 1 (by omega), hc 2 (by omega), hc 3 (by omega), hc 4 (by omega)⟩
end Go.Proofs.YtodlcnbknjldnaaGreatDoor
namespace Go.Proofs.YtodlcnbknjldnaaGreatDoor
open Go.RowKit Chron
def caps (l : List Item) : List Ev := l.map fun i => capE i.ev
/- what is left of the reading of a list: a place for the next thing, or one behind the list -/
def restL (q eo : Option (List UInt8)) : Option (List Ev × List UInt8) :=
  match eo with
  | some r => some ([], r)
  | none => match q with
    | some t => itemsL eventL event_one t
    | none => none
def AllR (s : ByteArray) (w : World) (N : Nat) (lv : Value) (ok : Bool) : Prop :=
  match allL s.data.toList with
  | some es => ok = true ∧ ∃ its, Made N w lv its ∧ caps its = es ∧ ∀ it ∈ its, Few 1048576 it.ev
  | none => ok = false
structure Sofar (s : ByteArray) (acc : List Item) (q eo : Option (List UInt8)) : Prop where
  goal : listL eventL event_one s.data.toList = (restL q eo).map fun x => (caps acc ++ x.1, x.2)
  few : (q = none ∧ eo = none) ∨ ∀ it ∈ acc, Few 1048576 it.ev
  sq : ∀ r, q = some r → Suf s r
  se : ∀ r, eo = some r → Suf s r
  len : ∀ t, q = some t → acc.length + t.length ≤ s.size
theorem few_cap {n : Nat} {E : Ev} (h : Few n (capE E)) : Few n E := ⟨h.tags, h.each, h.task, h.body⟩
theorem few_mono {n m : Nat} {E : Ev} (h : Few n E) (hm : n ≤ m) : Few m E := ⟨Nat.le_trans h.tags hm, fun t ht => Nat.le_trans (h.each t ht) hm, Nat.le_trans h.task hm, Nat.le_trans h.body hm⟩
theorem Sofar.start (s : ByteArray) : Sofar s [] (signL 91 s.data.toList) ((signL 91 s.data.toList).bind (signL 93)) := by
  refine ⟨?_, .inr (fun it h => by cases h), fun r h => (sign_suf h).1, fun r h => ?_, fun t h => ?_⟩
  · unfold listL restL
    cases h1 : signL 91 s.data.toList with
    | none => rfl
    | some r =>
      simp only [Option.bind_some]
      cases h2 : signL 93 r with
      | none => simp [caps]
      | some r2 => rfl
  · cases h1 : signL 91 s.data.toList with
    | none => rw [h1] at h; cases h
    | some r0 => rw [h1] at h; exact (sign_suf h).1.trans (sign_suf h1).1
  · have := (sign_suf h).2
    simp only [List.length_nil]
    have e : s.data.toList.length = s.size := by simp
    omega
/- the place behind an event -/
def nextO (t : List UInt8) : Option (List UInt8) := (eventL t).map (·.2)
theorem Sofar.step {s : ByteArray} {acc : List Item} {t : List UInt8} {i : Item} {p : Int} (h : Sofar s acc (some t) none) (hs : s.size ≤ 1048576) (hE : EvR s (some t) i.ev p) :
    p = pos s (nextO t) ∧ (∀ r, nextO t = some r → Suf s r) ∧ Sofar s (acc ++ [i]) ((nextO t).bind (signL 44)) ((nextO t).bind (signL 93)) := by
  unfold EvR at hE
  simp only [Option.bind_some] at hE
  have hst := h.sq t rfl
  have hfew : ∀ it ∈ acc, Few 1048576 it.ev := by
    rcases h.few with ⟨h1, _⟩ | h1
    · cases h1
    · exact h1
  cases he : eventL t with
  | none =>
    rw [he] at hE
    have hn : nextO t = none := by unfold nextO; rw [he]; rfl
    refine ⟨by rw [hn]; exact hE, (fun r hr => by rw [hn] at hr; cases hr), ?_⟩
    rw [hn]
    refine ⟨?_, .inl ⟨rfl, rfl⟩, (fun r hr => by cases hr), (fun r hr => by cases hr), (fun r hr => by cases hr)⟩
    rw [h.goal]
    simp only [restL, items_none he, Option.bind_none, Option.map_none]
  | some x =>
    obtain ⟨e', r⟩ := x
    rw [he] at hE
    obtain ⟨h1, h2, h3⟩ := hE
    have hn : nextO t = some r := by unfold nextO; rw [he]; rfl
    have hlt := (event_suf he).2
    have hci : caps (acc ++ [i]) = caps acc ++ [e'] := by simp [caps, h1]
    have hfi : Few 1048576 i.ev := by
      have f := event_few he
      rw [← h1] at f
      exact few_mono (few_cap f) (by have := hst.le; omega)
    have hl := h.len t rfl
    refine ⟨by rw [hn]; exact h2, fun y hy => by rw [hn] at hy; rw [← Option.some.inj hy]; exact h3, ?_⟩
    rw [hn]
    simp only [Option.bind_some]
    refine ⟨?_, .inr ?_, fun y hy => h3.trans (sign_suf hy).1, fun y hy => h3.trans (sign_suf hy).1, fun y hy => ?_⟩
    · rw [h.goal, hci]
      cases h44 : signL 44 r with
      | some r2 =>
        have h93 := sign_other (d := 93) h44 (by decide)
        simp only [restL, h93, items_more he h44, Option.map_map]
        congr 1
        funext y
        simp
      | none =>
        simp only [restL, items_last he h44]
        cases h93 : signL 93 r with
        | none => rfl
        | some r3 => simp
    · intro it hit
      rcases List.mem_append.1 hit with hit | hit
      · exact hfew it hit
      · simp only [List.mem_singleton] at hit; rw [hit]; exact hfi
    · have := (sign_suf hy).2
      simp only [List.length_append, List.length_singleton]
      omega
theorem Sofar.done {s : ByteArray} {w : World} {N : Nat} {lv : Value} {acc : List Item} {q eo : Option (List UInt8)} (h : Sofar s acc q eo) (hd : q = none ∨ eo ≠ none) (hm : Made N w lv acc) :
    AllR s w N lv (match eo with | some r => decide (skipL r = []) | none => false) := by
  unfold AllR allL
  rw [h.goal]
  cases eo with
  | none =>
    rcases hd with hd | hd
    · subst hd; rfl
    · exact absurd rfl hd
  | some r =>
    have hfew : ∀ it ∈ acc, Few 1048576 it.ev := by
      rcases h.few with ⟨_, h1⟩ | h1
      · cases h1
      · exact h1
    simp only [restL, Option.map_some, List.append_nil]
    by_cases hr : skipL r = []
    · simp only [hr, if_true, decide_true]
      exact ⟨trivial, acc, hm, rfl, hfew⟩
    · simp [hr]
theorem five_new (X : World) (i : Item) : ∀ j u, i.five[j]? = some u → (X.alloc (.cells #[.int .i64 i.ev.kind, .string i.ev.task, .int .i64 i.ev.time, .string i.ev.body, .slice i.at' i.ev.tags.length i.cap] 29)).cell? ((⟨X.heap.size, 0, none⟩ : Addr).add j) = some u := by
  intro j u hj
  have hh := heap_alloc_new X (.cells #[.int .i64 i.ev.kind, .string i.ev.task, .int .i64 i.ev.time, .string i.ev.body, .slice i.at' i.ev.tags.length i.cap] 29)
  rw [Go.WideShapes.add_plain]
  simp only [World.cell?, hh, Nat.zero_add]
  simpa [Item.five] using hj
theorem five_one (i : Item) : ∀ u ∈ i.five, u.oneCell' = true := by
  intro u hu
  simp only [Item.five, List.mem_cons, List.mem_nil_iff, or_false] at hu
  rcases hu with rfl | rfl | rfl | rfl | rfl <;> rfl
set_option maxRecDepth 100000 in
set_option maxHeartbeats 4000000 in
theorem allRef_any (s : ByteArray) (w : World) (hs : s.size ≤ 1048576) :
    Calls Tryz.prog 17 #[.string s] w fun e w' => ∃ lv z, e = .returned (.tuple #[lv, z]) ∧ Hid (∃ ok, z = .bool ok ∧ AllR s w' w.heap.size lv ok) ∧ Below w.heap.size w w' := by
  obtain ⟨i0, hi, hz0, hz1, hz2⟩ := info_parts infoEvent5
  have hp0 : pos s (some s.data.toList) = 0 := by simp [pos]
  have hS1 := sign_any s s.data.toList 91 91 rfl w List.suffix_rfl hs
  rw [hp0] at hS1
  have HS0 := hide0 (Sofar.start s)
  generalize hq0 : signL 91 s.data.toList = q0 at hS1 HS0
  have hS2 := sign_pos s q0 93 93 rfl w (fun r hr => by rw [hr] at hq0; exact (sign_suf hq0).1) hs
  generalize q0.bind (signL 93) = e0 at hS2 HS0
  obtain ⟨p1, hp1, HP1⟩ : ∃ p1, pos s q0 = p1 ∧ Hid (pos s q0 = p1) := ⟨_, rfl, rfl⟩
  obtain ⟨p2, hp2, HP2⟩ : ∃ p2, pos s e0 = p2 ∧ Hid (pos s e0 = p2) := ⟨_, rfl, rfl⟩
  rw [hp1] at hS1 hS2
  rw [hp2] at hS2
  clear hp1 hp2 hp0 hq0
  go_enter Tryz.func17, Tryz.ntmps17
  go_wp2_with fail
  refine hS1.mono ?_
  rintro e w1 ⟨rfl, hw1⟩
  have hw2 := hw1.symm
  subst hw2
  clear hw1 hS1
  go_wp2_with fail
  refine hS2.mono ?_
  rintro e w2 ⟨rfl, hw3⟩
  have hw4 := hw3.symm
  subst hw4
  clear hw3 hS2
  go_wp2_with fail
  go_loopw [4, 5, 6] (fun av ev xv wx => ∃ (p pe : Int) (q eo : Option (List UInt8)) (acc : List Item) (lv : Value), av = .int .i64 p ∧ ev = .int .i64 pe ∧ xv = lv ∧ Hid (pos s q = p ∧ pos s eo = pe) ∧ acc.length ≤ 1048577 ∧ Hid (Sofar s acc q eo) ∧ Hid (Made w.heap.size wx lv acc) ∧ Hid (Below w.heap.size w wx)) (fun av _ _ _ => left s.size (intOf av))
  case atStart => exact ⟨p1, p2, q0, e0, [], .slice none 0 0, rfl, rfl, rfl, ⟨HP1.out, HP2.out⟩, by decide, HS0, Made.nil _ _, Below.refl _ _⟩
  case round =>
    obtain ⟨p, pe, q, eo, acc, lv, rfl, rfl, hxv, HP, hacc, HS, HM, HB⟩ := hrel
    have hxw := hxv.symm
    subst hxw
    clear hxv
    match q, eo, HS, HP with
    | none, none, HS, HP =>
      have hp : p = -1 := HP.out.1.symm
      subst hp
      have HF : Hid (AllR s wr w.heap.size lv false) := HS.out.done (.inl rfl) HM.out
      have hpe : pe = -1 := HP.out.2.symm
      subst hpe
      go_wp2
      go_ret2
      exact ⟨lv, .bool false, rfl, ⟨false, rfl, HF.out⟩, HB.out⟩
    | none, some r, HS, HP =>
      have hp : p = -1 := HP.out.1.symm
      subst hp
      have hsr := HS.out.se r rfl
      have HF : Hid (AllR s wr w.heap.size lv (decide (skipL r = []))) := HS.out.done (Or.inl rfl) HM.out
      have hpe0 : 0 ≤ pe := by rw [← HP.out.2]; have := hsr.le; simp only [pos]; omega
      have hB := behind_any s r wr hsr hs
      rw [HP.out.2] at hB
      obtain ⟨b, hb, HBB⟩ : ∃ b : Int, pos s (some (skipL r)) = b ∧ Hid ((b == (s.size : Int)) = decide (skipL r = [])) := by
        refine ⟨_, rfl, ?_⟩
        show _ = _
        have hle := (hsr.trans (skip_suf r)).le
        rw [Bool.eq_iff_iff]
        simp only [pos, beq_iff_eq, decide_eq_true_eq]
        constructor
        · intro h; exact List.eq_nil_of_length_eq_zero (by omega)
        · intro h; rw [h]; simp
      rw [hb] at hB
      clear hb
      generalize decide (skipL r = []) = ok at HF HBB
      have hcmp := HBB.out
      go_wp2_with fail
      refine hB.mono ?_
      rintro e w3 ⟨rfl, hw5⟩
      have hw6 := hw5.symm
      subst hw6
      clear hw5 hB
      go_wp2
      go_ret2
      exact ⟨lv, .bool ok, rfl, ⟨ok, rfl, HF.out⟩, HB.out⟩
    | some t, some r, HS, HP =>
      have hst := HS.out.sq t rfl
      have hp0 : 0 ≤ p := by rw [← HP.out.1]; have := hst.le; simp only [pos]; omega
      have hsr := HS.out.se r rfl
      have HF : Hid (AllR s wr w.heap.size lv (decide (skipL r = []))) := HS.out.done (Or.inr (by simp)) HM.out
      have hpe0 : 0 ≤ pe := by rw [← HP.out.2]; have := hsr.le; simp only [pos]; omega
      have hB := behind_any s r wr hsr hs
      rw [HP.out.2] at hB
      obtain ⟨b, hb, HBB⟩ : ∃ b : Int, pos s (some (skipL r)) = b ∧ Hid ((b == (s.size : Int)) = decide (skipL r = [])) := by
        refine ⟨_, rfl, ?_⟩
        show _ = _
        have hle := (hsr.trans (skip_suf r)).le
        rw [Bool.eq_iff_iff]
        simp only [pos, beq_iff_eq, decide_eq_true_eq]
        constructor
        · intro h; exact List.eq_nil_of_length_eq_zero (by omega)
        · intro h; rw [h]; simp
      rw [hb] at hB
      clear hb
      generalize decide (skipL r = []) = ok at HF HBB
      have hcmp := HBB.out
      go_wp2_with fail
      refine hB.mono ?_
      rintro e w3 ⟨rfl, hw5⟩
      have hw6 := hw5.symm
      subst hw6
      clear hw5 hB
      go_wp2
      go_ret2
      exact ⟨lv, .bool ok, rfl, ⟨ok, rfl, HF.out⟩, HB.out⟩
    | some t, none, HS, HP =>
      have hst := HS.out.sq t rfl
      have hp0 : 0 ≤ p := by rw [← HP.out.1]; have := hst.le; simp only [pos]; omega
      have hpe : pe = -1 := HP.out.2.symm
      subst hpe
      have hE := eventRef_any s (some t) wr (fun x hx => by rw [← Option.some.inj hx]; exact hst) hs
      rw [HP.out.1] at hE
      have hszb := HB.out.size
      go_wp2_with fail
      refine hE.mono ?_
      rintro e w3 ⟨E, v, pn, rfl, hEv, hvo, hb3⟩
      obtain ⟨va, vc, hve, hvt⟩ := own_tags hvo
      subst hve
      obtain ⟨hpn, hnS, hSt⟩ := HS.out.step (i := ⟨E, va, vc⟩) hs hEv
      have HM3 := hide0 (HM.out.more hb3)
      have HB3 := hide0 (HB.out.trans (hb3.mono hszb))
      have HVA : Hid (∀ a, va = some a → lv.ownBlock ≠ some a.block ∧ a.block < w3.heap.size) := by
        intro a ha
        subst ha
        have hl := hvo.lt a.block (by rfl)
        refine ⟨fun e => ?_, hl.2⟩
        have := (HM.out.row.lt _ e).2
        omega
      have HVT := hide0 hvt
      have HST := hide0 hSt
      have hS93 := fun X => sign_pos s (nextO t) 93 93 rfl X hnS hs
      have hS44 := fun X => sign_pos s (nextO t) 44 44 rfl X hnS hs
      rw [← hpn] at hS93 hS44
      have HL : Hid (left s.size (pos s ((nextO t).bind (signL 44))) < left s.size p) := by
        have hpp := HP.out.1
        simp only [pos] at hpp
        have hle := hst.le
        show left _ _ < left _ _
        cases h44 : (nextO t).bind (signL 44) with
        | none =>
          show left s.size (-1) < left s.size p
          simp only [left]
          rw [if_pos (by omega), if_neg (by omega)]
          omega
        | some r2 =>
          have hr2 := HST.out.sq r2 h44
          have hle2 := hr2.le
          have hlen : r2.length < t.length := by
            unfold nextO at h44
            cases he : eventL t with
            | none => rw [he] at h44; cases h44
            | some x =>
              rw [he] at h44
              simp only [Option.map_some, Option.bind_some] at h44
              have h1 := (event_suf (e := x.1) (r := x.2) he).2
              have h2 := (sign_suf h44).2
              omega
          show left s.size ((s.size : Int) - (r2.length : Int)) < left s.size p
          simp only [left]
          rw [if_neg (by omega), if_neg (by omega)]
          omega
      generalize (nextO t).bind (signL 44) = q' at hS44 HST HL
      generalize (nextO t).bind (signL 93) = e' at hS93 HST
      obtain ⟨p4, hp4, HP4⟩ : ∃ p4, pos s q' = p4 ∧ Hid (pos s q' = p4) := ⟨_, rfl, rfl⟩
      obtain ⟨p5, hp5, HP5⟩ : ∃ p5, pos s e' = p5 ∧ Hid (pos s e' = p5) := ⟨_, rfl, rfl⟩
      rw [hp4] at hS44 HL
      rw [hp5] at hS93
      have hal : acc.length + 1 ≤ 1048577 := by have h9 := HS.out.len t rfl; omega
      have hszm := hb3.size
      clear hp4 hp5 hpn hE hvo hb3 hEv hSt hvt
      obtain ⟨E0, E1, E2, E3, E4⟩ := E
      simp only [evVal]
      simp only at HVT
      have h3b : w.heap.size ≤ w3.heap.size := by omega
      have HM3b := hide0 (HM3.out.more ((Below.refl _ _).alloc (Nat.le_refl _) (.cells #[.int .i64 E0, .string E1, .int .i64 E2, .string E3, .slice va E4.length vc] 29)))
      have hNew := five_new (w3.alloc (.cells #[.int .i64 E0, .string E1, .int .i64 E2, .string E3, .slice va E4.length vc] 29)) ⟨⟨E0, E1, E2, E3, E4⟩, va, vc⟩
      rw [World.size_alloc] at hNew
      have hbase : w.heap.size ≤ ((w3.alloc (.cells #[.int .i64 E0, .string E1, .int .i64 E2, .string E3, .slice va E4.length vc] 29)).alloc (.cells #[.int .i64 E0, .string E1, .int .i64 E2, .string E3, .slice va E4.length vc] 29)).heap.size := by simp only [World.size_alloc]; omega
      go_wp2_with (first
        | (at_builtin; go_must (refine wpList_append_lies _ rfl _ _ 23 rfl w.heap.size 29 i0 (.agg #[.int .i64 0, .string ⟨#[]⟩, .int .i64 0, .string ⟨#[]⟩, .slice none 0 0]) 5 72 Tryz.underlying23 hi hz0 hz1 hz2 rfl (by decide) lv acc.length (fives acc) rfl (HM3b.out.row.alloc _) ⟨w3.heap.size + 1, 0, none⟩ 1 1 (Item.five ⟨⟨E0, E1, E2, E3, E4⟩, va, vc⟩) rfl rfl hNew (five_one _) Nat.one_pos (by unfold maxLen; omega) (by omega) hbase _ rfl ?_)
           intro g cap wa hown hgr hat hlt))
      have hMade := HM3b.out.push (i := ⟨⟨E0, E1, E2, E3, E4⟩, va, vc⟩) (HVT.out.alloc _) (fun a ha => ⟨(HVA.out a ha).1, Nat.lt_of_lt_of_le (HVA.out a ha).2 (by simp)⟩) hgr hown hat
      have HMd := hide0 hMade
      have HBd := hide0 (Below.grown ((HB3.out.alloc h3b _).alloc (by simp only [World.size_alloc]; omega) _) hgr hbase (fun q hq => (HM3b.out.row.lt q hq).1))
      clear hMade hgr hown hat hlt
      go_wp2_with fail
      refine (hS93 _).mono ?_
      rintro e w5 ⟨rfl, hw5⟩
      have hw6 := hw5.symm
      subst hw6
      clear hw5 hS93
      go_wp2_with fail
      refine (hS44 _).mono ?_
      rintro e w6 ⟨rfl, hw7⟩
      have hw8 := hw7.symm
      subst hw8
      clear hw7 hS44
      go_wp2
      go_roundw
      case rel => exact ⟨p4, p5, q', e', acc ++ [⟨⟨E0, E1, E2, E3, E4⟩, va, vc⟩], _, rfl, rfl, rfl, ⟨HP4.out, HP5.out⟩, by simp; omega, HST, HMd, HBd⟩
      case measure => exact HL.out
end Go.Proofs.YtodlcnbknjldnaaGreatDoor
namespace Go.Proofs.YtodlcnbknjldnaaGreatDoor
open Go.RowKit Chron
def Item.tv (i : Item) : Value := .slice i.at' i.ev.tags.length i.cap
def tagBs (its : List Item) : List Nat := its.filterMap fun i => i.tv.ownBlock
structure MadeO (N : Nat) (w : World) (lv : Value) (its : List Item) : Prop where
  row : w.ownsRow N 29 5 lv its.length (fives its)
  tags : ∀ it ∈ its, w.ownsRow N 9 1 it.tv it.ev.tags.length (it.ev.tags.map Value.string)
  apart : ∀ q ∈ tagBs its, lv.ownBlock ≠ some q
  dist : (tagBs its).Nodup
theorem tagBs_mem {its : List Item} {q : Nat} : q ∈ tagBs its ↔ ∃ it ∈ its, it.tv.ownBlock = some q := by simp [tagBs, List.mem_filterMap]
theorem MadeO.nil (N : Nat) (w : World) : MadeO N w (.slice none 0 0) [] := ⟨World.ownsRow_nil _ _ _ _, fun it h => (by cases h), fun q h => (by cases h), List.nodup_nil⟩
theorem MadeO.keep {N : Nat} {w w' : World} {lv : Value} {its : List Item} (h : MadeO N w lv its) (hb : ∀ q, N ≤ q → q < w.heap.size → w'.heap[q]? = w.heap[q]?) : MadeO N w' lv its :=
  ⟨own_of_block h.row fun q hq => hb q (h.row.lt _ hq).1 (h.row.lt _ hq).2, fun it hi => own_of_block (h.tags it hi) fun q hq => hb q ((h.tags it hi).lt _ hq).1 ((h.tags it hi).lt _ hq).2, h.apart, h.dist⟩
theorem MadeO.far {N R : Nat} {w w' : World} {lv : Value} {its : List Item} (h : MadeO N w lv its) (hf : Far w w' [some R]) (hR : R < N) : MadeO N w' lv its :=
  h.keep fun q h1 h2 => hf.block q h2 (by simp; omega)
theorem MadeO.alloc {N : Nat} {w : World} {lv : Value} {its : List Item} (h : MadeO N w lv its) (o : Obj) : MadeO N (w.alloc o) lv its :=
  h.keep fun _ _ h2 => Below.heap_alloc _ _ _ h2
theorem MadeO.tag_lt {N : Nat} {w : World} {lv : Value} {its : List Item} (h : MadeO N w lv its) {q : Nat} (hq : q ∈ tagBs its) : N ≤ q ∧ q < w.heap.size := by
  obtain ⟨it, hi, hb⟩ := tagBs_mem.1 hq
  exact (h.tags it hi).lt _ hb
theorem MadeO.push {N : Nat} {w wa : World} {lv : Value} {its : List Item} {o : Obj} {g cap M : Nat} {i : Item} (h : MadeO N w lv its) (hi : w.ownsRow M 9 1 i.tv i.ev.tags.length (i.ev.tags.map Value.string)) (hM : N ≤ M) (hlv : ∀ q, lv.ownBlock = some q → q < M) (hts : ∀ q ∈ tagBs its, q < M)
    (hg : (w.alloc o).grownBy wa lv.ownBlock) (hown : wa.ownsRow N 29 5 (.slice (some ⟨g, 0, none⟩) (its.length + 1) cap) (its.length + 1) (fives its ++ i.five)) (hat : lv.ownBlock = some g ∨ g = (w.alloc o).heap.size) :
    MadeO N wa (.slice (some ⟨g, 0, none⟩) (its.length + 1) cap) (its ++ [i]) := by
  have hs := hg.size
  rw [World.size_alloc] at hs
  have key : ∀ q, q < w.heap.size → lv.ownBlock ≠ some q → wa.heap[q]? = w.heap[q]? := fun q hq hne => by
    rw [hg.block q (by rw [World.size_alloc]; omega) (fun e => hne e.symm), Below.heap_alloc _ _ _ hq]
  have hlvi : ∀ q, i.tv.ownBlock = some q → lv.ownBlock ≠ some q := fun q hq e => by have := hlv q e; have := (hi.lt _ hq).1; omega
  have hbs : tagBs (its ++ [i]) = tagBs its ++ tagBs [i] := by simp [tagBs, List.filterMap_append]
  have hone : ∀ q, q ∈ tagBs [i] ↔ i.tv.ownBlock = some q := fun q => by rw [tagBs_mem]; simp
  refine ⟨?_, fun x hx => ?_, fun q hq => ?_, ?_⟩
  · have e : fives (its ++ [i]) = fives its ++ i.five := by simp [fives]
    rw [e]; simpa using hown
  · rcases List.mem_append.1 hx with hx | hx
    · exact own_of_block (h.tags x hx) fun q hq => key q ((h.tags x hx).lt _ hq).2 (h.apart q (tagBs_mem.2 ⟨x, hx, hq⟩))
    · simp only [List.mem_singleton] at hx
      rw [hx]
      exact own_mono (own_of_block hi fun q hq => key q (hi.lt _ hq).2 (hlvi q hq)) hM
  · rw [hbs, List.mem_append, hone] at hq
    have hne : lv.ownBlock ≠ some q ∧ q < w.heap.size := by
      rcases hq with hq | hq
      · exact ⟨h.apart q hq, (h.tag_lt hq).2⟩
      · exact ⟨hlvi q hq, (hi.lt _ hq).2⟩
    simp only [Value.ownBlock, ne_eq, Option.some.injEq]
    rcases hat with e | e
    · rintro rfl; exact hne.1 e
    · rw [World.size_alloc] at e; omega
  · rw [hbs, List.nodup_append]
    refine ⟨h.dist, ?_, ?_⟩
    · simp only [tagBs, List.filterMap_cons, List.filterMap_nil]
      split <;> simp
    · intro a ha b hb
      rw [hone] at hb
      have := hts a ha
      have := (hi.lt _ hb).1
      omega
theorem MadeO.made {N : Nat} {w : World} {lv : Value} {its : List Item} (h : MadeO N w lv its) : Made N w lv its := by
  refine ⟨h.row, fun it hi => ?_⟩
  have ho := h.tags it hi
  obtain ⟨a, cap, hv, ht⟩ := own_tags ho
  have e1 : it.at' = a := by
    have := hv
    simp only [Item.tv, Value.slice.injEq] at this
    exact this.1
  refine ⟨by rw [e1]; exact ht, fun b hb => ?_⟩
  have hq : it.tv.ownBlock = some b.block := by simp only [Item.tv, hb, Value.ownBlock]
  exact ⟨h.apart _ (tagBs_mem.2 ⟨it, hi, hq⟩), (ho.lt _ hq).2⟩
theorem event_skip (l : List UInt8) : eventL (skipL l) = eventL l := by
  unfold eventL
  rw [steps_mem, steps_mem, sign_skip]
def ie (i : Item) : Ev := i.ev
end Go.Proofs.YtodlcnbknjldnaaGreatDoor
