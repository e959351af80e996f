/- Walks and plain facts, in the order in which they lean on one another. -/
import Derived.Test.YtdjllnhahhjgmaaGreatW09
import Derived.Test.YtdjllnhahhjgmaaGreatW08
import Derived.Test.YtdjllnhahhjgmaaGreatW03
import Derived.Test.YtdjllnhahhjgmaaGreatW06
import Derived.Test.YtdjllnhahhjgmaaGreatW01
import Derived.Test.YtdjllnhahhjgmaaGreatW02
namespace Go.Proofs.YtdjllnhahhjgmaaGreat
open Go.RowKit Go.Shelf Chron
set_option maxRecDepth 100000 in
theorem seq_any (p : Nat) (w : World) : Calls Tryz.prog 21 #[.pointer (some ⟨p, 0, none⟩)] w fun e w' => e = .returned (.func (.func 34) #[] #[.pointer (some ⟨w.heap.size, 0, none⟩)]) ∧ w' = w.alloc (.cells #[.pointer (some ⟨p, 0, none⟩)] 47) := by
  go_enter Tryz.func21, Tryz.ntmps21
  go_wp2
  go_ret
  exact ⟨rfl, rfl⟩
/- what is told in a round -/
structure Told where
  i : Nat
  it : Item
def encTold (x : Told) : Array Value := #[.int .i64 x.i, x.it.val]
def ownTold (x : Told) (h : Nat) (A : World) : Prop := A.ownsRow h 9 1 x.it.tv x.it.ev.tags.length (x.it.ev.tags.map Value.string)
def toldEvs (xs : List Told) : List Ev := xs.map (·.it.ev)
def allTold (l : List Ev) (xs : List Told) : Prop := toldEvs xs = l ∧ ∀ (k : Nat) (x : Told), xs[k]? = some x → x.i = k
def someTold (l : List Ev) (xs : List Told) : Prop := toldEvs xs = l.take xs.length ∧ xs.length ≤ l.length ∧ ∀ (k : Nat) (x : Told), xs[k]? = some x → x.i = k
theorem someTold.push {l : List Ev} {xs : List Told} {x : Told} (h : someTold l xs) (hx : l[xs.length]? = some x.it.ev) (hi : x.i = xs.length) : someTold l (xs ++ [x]) := by
  obtain ⟨h1, h2, h3⟩ := h
  have hlt := (List.getElem?_eq_some_iff.1 hx).1
  refine ⟨?_, by simp; omega, fun k y hk => ?_⟩
  · have e : toldEvs (xs ++ [x]) = toldEvs xs ++ [x.it.ev] := by simp [toldEvs]
    rw [e, h1, List.length_append, List.length_singleton, List.take_add_one, hx]; rfl
  · by_cases hlt : k < xs.length
    · rw [List.getElem?_append_left hlt] at hk; exact h3 k y hk
    · rw [List.getElem?_append_right (by omega)] at hk
      have h0 : k - xs.length = 0 := by
        have := (List.getElem?_eq_some_iff.1 hk).1; simp at this; omega
      rw [h0] at hk
      simp only [List.getElem?_cons_zero, Option.some.injEq] at hk
      rw [← hk, hi]; omega
theorem someTold.all {l : List Ev} {xs : List Told} (h : someTold l xs) (hl : xs.length = l.length) : allTold l xs := by
  obtain ⟨h1, h2, h3⟩ := h
  exact ⟨by rw [h1, hl, List.take_length], h3⟩
/- what a round that goes on must keep: the events that were there when the ranging began -/
def Kept (ev : Value) (its : List Item) (W W' : World) : Prop := ∀ a c, ev = .slice a its.length c → (∀ b off, a = some ⟨b, off, none⟩ → off = 0) → EvsAt W a its → EvsAt W' a its
theorem EvsAt.blocks {W W' : World} {a : Option Addr} {c : Nat} {its : List Item} (h : EvsAt W a its) (hk : ∀ b o v, (Value.ownBlock (.slice a its.length c) = some b ∨ b ∈ tagBs its) → W.cell? ⟨b, o, none⟩ = some v → W'.cell? ⟨b, o, none⟩ = some v) : EvsAt W' a its := by
  intro hp
  obtain ⟨b, off, rfl, hc⟩ := h hp
  refine ⟨b, off, rfl, fun k i hi => ?_⟩
  obtain ⟨c, ok⟩ := hc k i hi
  have key : ∀ j v, W.cell? ⟨b, off + k * 5 + j, none⟩ = some v → W'.cell? ⟨b, off + k * 5 + j, none⟩ = some v := fun j v hv => hk b _ v (.inl rfl) hv
  refine ⟨⟨key 0 _ c.c0, key 1 _ c.c1, key 2 _ c.c2, key 3 _ c.c3, key 4 _ c.c4⟩, ⟨fun ht => ?_, ok.short, ok.few, ok.task, ok.body⟩⟩
  obtain ⟨q, o, hq, hx⟩ := ok.tags ht
  refine ⟨q, o, hq, fun j hj => hk q _ _ (.inr (tagBs_mem.2 ⟨i, List.mem_of_getElem? hi, ?_⟩)) (hx j hj)⟩
  simp only [Item.tv, hq, Value.ownBlock]
theorem Kept.trans {ev : Value} {its : List Item} {A B C : World} (h : Kept ev its A B) (k : Kept ev its B C) : Kept ev its A C := fun a c e h0 hE => k a c e h0 (h a c e h0 hE)
theorem Kept.put {ev : Value} {its : List Item} {W : World} {l : Nat} {o : Obj} (o' : Obj) (hl : W.heap[l]? = some o) (ho : o.isCells = false) : Kept ev its W (W.putObj l o') := by
  intro a c e h0 hE
  refine hE.blocks (c := c) (fun b off v _ hv => ?_)
  by_cases hb : b = l
  · subst hb
    simp only [World.cell?, hl] at hv
    cases o <;> simp_all [Obj.isCells]
  · rw [World.cell?_of_block (World.putObj_heap_other hb)]; exact hv
theorem Kept.below {ev : Value} {its : List Item} {W W' : World} (h : Below W.heap.size W W') : Kept ev its W W' := fun _ _ _ _ hE => hE.below h (Nat.le_refl _)
theorem EvsAt.kept {W W' : World} {a : Option Addr} {cap : Nat} {its : List Item} (h : EvsAt W a its) (h0 : ∀ b off, a = some ⟨b, off, none⟩ → off = 0) (hk : Kept (.slice a its.length cap) its W W') : EvsAt W' a its := hk a cap rfl h0 h
set_option maxRecDepth 100000 in
set_option maxHeartbeats 1000000 in
theorem tells_any (p Bn : Nat) (fv : Value) (a : Option Addr) (cap : Nat) (its : List Item) (w : World) (hbox : w.cell? ⟨Bn, 0, none⟩ = some (.pointer (some ⟨p, 0, none⟩))) (hb : w.heap[p]? = some (.cells #[.int .i32 0, .int .u32 0, fv, .slice a its.length cap] 87))
    (hE : EvsAt w a its) (h0 : ∀ b off, a = some ⟨b, off, none⟩ → off = 0) (hok : ∀ it ∈ its, isB it.ev = true) (hl : its.length ≤ 200) :
    Tells Tryz.prog 34 #[.pointer (some ⟨Bn, 0, none⟩)] encTold ownTold (Kept (.slice a its.length cap) its) (allTold (evs its)) (someTold (evs its)) w := by
  intro l J W hW hJ hY hst
  have hbW := (hW.block p (Array.getElem?_eq_some_iff.1 hb).1).trans hb
  have hxW : W.cell? ⟨Bn, 0, none⟩ = some (.pointer (some ⟨p, 0, none⟩)) := (hW.cell (p := ⟨Bn, 0, none⟩) (World.block_lt_of_cell? w _ hbox)).trans hbox
  have hEW := hE.below hW (Nat.le_refl _)
  refine callsIn_of_wp Tryz.func34 rfl trivial ?_
  simp only [Tryz.ntmps34, List.size_toArray, List.length_cons, List.length_nil, Nat.reduceAdd, Nat.reduceSub, Array.replicate_succ, Array.replicate_zero, List.push_toArray, List.append_toArray, List.nil_append, List.cons_append]
  gi_wp2_with fail
  refine ⟨trivial, rfl, (callsIn_wide.2 (now_any p fv _ _ hbW)).mono ?_⟩
  rintro e w' ⟨rfl, rfl⟩
  gi_wp2_with fail
  gi_loopw [8] (fun i wr => ∃ (xs : List Told), i = .int .i64 xs.length ∧ xs.length ≤ its.length ∧ Hid (someTold (evs its) xs) ∧ Hid (J true xs wr) ∧ Hid (EvsAt wr a its)) (fun i _ => its.length - (intOf i).toNat)
  case atStart => exact ⟨[], rfl, Nat.zero_le _, ⟨by simp [toldEvs], by simp, fun k x h => by simp at h⟩, hst, hEW⟩
  case round =>
    obtain ⟨xs, rfl, hxl, HS, HJ, HE⟩ := hrel
    by_cases hlt : xs.length < its.length
    · obtain ⟨g, off, rfl, hc⟩ := HE.out (by omega)
      obtain rfl := h0 g off rfl
      obtain ⟨hcell, hitem⟩ := hc xs.length its[xs.length] (List.getElem?_eq_getElem hlt)
      have hgood := hok its[xs.length] (List.getElem_mem hlt)
      have HX : Hid ((evs its)[xs.length]? = some its[xs.length].ev) := by simp [evs, hlt, Hid]
      generalize its[xs.length] = it at hcell hitem hgood HX
      obtain ⟨⟨k, t, m, b, ts⟩, ia, ic⟩ := it
      obtain ⟨c0, c1, c2, c3, c4⟩ := hcell
      have hK := is_known hgood
      simp only [Nat.zero_add] at c0 c1 c2 c3 c4
      have hlti : (xs.length : Int) < (its.length : Int) := by omega
      clear hc
      gi_wp2_with fail
      have hT := TagsAt.alloc hitem.tags (.cells #[.int .i64 k, .string t, .int .i64 m, .string b, .slice ia ts.length ic] 38)
      refine ⟨trivial, rfl, (callsIn_wide.2 (copy_any k t m b ia ic ts _ hT hK.lines hK.few hK.task hK.body)).mono ?_⟩
      rintro e w5 ⟨x, rfl, hox, hb5⟩
      obtain ⟨xa, xc, rfl, _⟩ := own_shape hox
      have hg5 : wr.grownBy w5 none := by
        have h1 := (Below.refl wr.heap.size wr).alloc (Nat.le_refl _) (.cells #[.int .i64 k, .string t, .int .i64 m, .string b, .slice ia ts.length ic] 38)
        have h2 := h1.trans (hb5.mono (by simp))
        exact ⟨h2.os, h2.tape, h2.output, h2.size, fun q hq _ => h2.block q hq⟩
      have HE5 : Hid (EvsAt w5 (some ⟨g, 0, none⟩) its) := HE.out.below (w' := w5) ⟨hg5.os, hg5.tape, hg5.output, hg5.size, fun q hq => hg5.block q hq (fun e => by cases e)⟩ (Nat.le_refl _)
      have HSP : Hid (someTold (evs its) (xs ++ [⟨xs.length, ⟨⟨k, t, m, b, ts⟩, xa, xc⟩⟩])) := someTold.push HS.out HX.out rfl
      obtain ⟨fn, tmps, assign, body, hy, hR⟩ := hY xs ⟨xs.length, ⟨⟨k, t, m, b, ts⟩, xa, xc⟩⟩ wr w5 HJ.out hg5 (own_mono hox (by simp)) HSP.out
      simp only [encTold, Item.val] at hy
      clear hY hox hb5 hg5 hT
      gi_wp2
      refine ⟨rfl, hR.mono ?_⟩
      rintro e W3 ⟨go, rfl, hJ3, hk3⟩
      cases go
      · gi_wp2
        refine bodyPost_ret (results_none rfl _ _ _) rfl ?_
        exact ⟨⟨_, rfl⟩, .inr ⟨_, HSP.out, hJ3⟩⟩
      · have HE3 : Hid (EvsAt W3 (some ⟨g, 0, none⟩) its) := HE5.out.kept h0 (hk3 rfl)
        gi_wp2
        go_roundw
        case rel => exact ⟨xs ++ [⟨xs.length, ⟨⟨k, t, m, b, ts⟩, xa, xc⟩⟩], by simp, by simp; omega, HSP, hide0 hJ3, HE3⟩
        case measure => simp [intOf]; omega
    · gi_wp2
      go_end0
      exact ⟨⟨_, rfl⟩, .inl ⟨_, HS.out.all (by simp [evs]; omega), HJ.out⟩⟩
end Go.Proofs.YtdjllnhahhjgmaaGreat
namespace Chron
open Go Go.RowKit
/- how many bytes two lists begin with alike -/
def pre : List UInt8 → List UInt8 → Nat
  | x :: a, y :: b => if x = y then pre a b + 1 else 0
  | _, _ => 0
theorem pre_le : ∀ (a b : List UInt8), pre a b ≤ a.length ∧ pre a b ≤ b.length
  | [], _ => by simp [pre]
  | _ :: _, [] => by simp [pre]
  | x :: a, y :: b => by
    have := pre_le a b
    simp only [pre]
    split
    · simp; omega
    · simp
theorem pre_take : ∀ (a b : List UInt8), a.take (pre a b) = b.take (pre a b)
  | [], _ => by simp [pre]
  | _ :: _, [] => by simp [pre]
  | x :: a, y :: b => by
    have := pre_take a b
    simp only [pre]
    split
    · next h => subst h; simp [this]
    · simp
theorem pre_ge : ∀ (n : Nat) (a b : List UInt8), n ≤ a.length → n ≤ b.length → a.take n = b.take n → n ≤ pre a b
  | 0, _, _, _, _, _ => Nat.zero_le _
  | n + 1, [], _, h, _, _ => by simp at h
  | n + 1, _ :: _, [], _, h, _ => by simp at h
  | n + 1, x :: a, y :: b, h1, h2, h => by
    simp at h h1 h2
    have := pre_ge n a b h1 h2 h.2
    simp only [pre, if_pos h.1]
    omega
/- n bytes have been found alike -/
structure Akin (a b : List UInt8) (n : Nat) : Prop where
  le : n ≤ a.length ∧ n ≤ b.length
  eq : pre a b = n + pre (a.drop n) (b.drop n)
theorem alike_zero (a b : List UInt8) : Akin a b 0 := ⟨⟨Nat.zero_le _, Nat.zero_le _⟩, by simp⟩
theorem alike_more {a b : List UInt8} {n : Nat} (h : Akin a b n) (h1 : n < a.length) (h2 : n < b.length) (he : a[n] = b[n]) : Akin a b (n + 1) := by
  refine ⟨⟨h1, h2⟩, ?_⟩
  rw [h.eq, List.drop_eq_getElem_cons h1, List.drop_eq_getElem_cons h2, pre, if_pos he]
  omega
theorem alike_other {a b : List UInt8} {n : Nat} (h : Akin a b n) (h1 : n < a.length) (h2 : n < b.length) (he : ¬ a[n] = b[n]) : pre a b = n := by
  rw [h.eq, List.drop_eq_getElem_cons h1, List.drop_eq_getElem_cons h2, pre, if_neg he]; rfl
theorem alike_end {a b : List UInt8} {n : Nat} (h : Akin a b n) (he : ¬ (n < a.length ∧ n < b.length)) : pre a b = n := by
  rw [h.eq]
  by_cases h1 : n < a.length
  · rw [List.drop_of_length_le (l := b) (by omega)]
    cases a.drop n <;> simp [pre]
  · rw [List.drop_of_length_le (l := a) (by omega)]; simp [pre]
/- the front and the end that two texts have alike -/
def fr (o n : List UInt8) : Nat := pre o n
def en (o n : List UInt8) : Nat := pre (o.drop (fr o n)).reverse (n.drop (fr o n)).reverse
def mid (o n : List UInt8) : List UInt8 := (n.drop (fr o n)).take (n.length - fr o n - en o n)
def makeB (o n : List UInt8) : List UInt8 × Int :=
  if 65536 < o.length ∨ 65536 < n.length then ([], 3) else (num (fr o n) ++ num (en o n) ++ mid o n, 0)
def joinB (o : List UInt8) (f e : Nat) (m : List UInt8) : List UInt8 × Int :=
  if f + e ≤ o.length ∧ f + m.length + e ≤ 65536 then (o.take f ++ m ++ o.drop (o.length - e), 0) else ([], 3)
def applyB (o c : List UInt8) : List UInt8 × Int :=
  if 65536 < o.length ∨ 65536 < c.length then ([], 3) else
  match readNum c with
  | none => ([], 3)
  | some (f, r) => match readNum r with
    | none => ([], 3)
    | some (e, m) => joinB o f e m
theorem fr_le (o n : List UInt8) : fr o n ≤ o.length ∧ fr o n ≤ n.length := pre_le o n
theorem en_le (o n : List UInt8) : en o n ≤ o.length - fr o n ∧ en o n ≤ n.length - fr o n := by
  have := pre_le (o.drop (fr o n)).reverse (n.drop (fr o n)).reverse
  simpa [en] using this
theorem take_rev (l : List UInt8) (k : Nat) : l.reverse.take k = (l.drop (l.length - k)).reverse := by
  rw [List.take_reverse]
theorem en_tail (o n : List UInt8) : o.drop (o.length - en o n) = n.drop (n.length - en o n) := by
  have h := pre_take (o.drop (fr o n)).reverse (n.drop (fr o n)).reverse
  rw [show pre (o.drop (fr o n)).reverse (n.drop (fr o n)).reverse = en o n from rfl, take_rev, take_rev, List.reverse_inj, List.drop_drop, List.drop_drop, List.length_drop, List.length_drop] at h
  have h1 := en_le o n
  have h2 := fr_le o n
  rw [show fr o n + (o.length - fr o n - en o n) = o.length - en o n by omega, show fr o n + (n.length - fr o n - en o n) = n.length - en o n by omega] at h
  exact h
theorem mid_len (o n : List UInt8) : (mid o n).length = n.length - fr o n - en o n := by
  have h1 := en_le o n
  simp [mid]
theorem num_three {k : Nat} (h : k ≤ 65536) : (num k).length ≤ 3 := by
  rw [num, numF_fuel 3 10 k (by omega) (by omega) (by omega)]
  exact numF_len 3 k
theorem make_len {o n : List UInt8} (ho : o.length ≤ 65536) (hn : n.length ≤ 65536) : (makeB o n).1.length ≤ 6 + (mid o n).length := by
  have h1 := fr_le o n
  have h2 := en_le o n
  have h3 := num_three (k := fr o n) (by omega)
  have h4 := num_three (k := en o n) (by omega)
  rw [makeB, if_neg (by omega)]
  simp
  omega
theorem make_ok {o n : List UInt8} (ho : o.length ≤ 65536) (hn : n.length ≤ 65536) : (makeB o n).2 = 0 := by
  rw [makeB, if_neg (by omega)]
theorem parts_join (o n : List UInt8) : o.take (fr o n) ++ mid o n ++ o.drop (o.length - en o n) = n := by
  have h1 := en_le o n
  have h2 := fr_le o n
  rw [en_tail, show o.take (fr o n) = n.take (fr o n) from pre_take o n, mid]
  have e : n.drop (n.length - en o n) = (n.drop (fr o n)).drop (n.length - fr o n - en o n) := by
    rw [List.drop_drop]; congr 1; omega
  rw [e, List.append_assoc, List.take_append_drop, List.take_append_drop]
theorem apply_make {o n : List UInt8} (ho : o.length ≤ 65536) (hn : n.length ≤ 65536) (hc : (makeB o n).1.length ≤ 65536) : applyB o (makeB o n).1 = (n, 0) := by
  have h1 := en_le o n
  have h2 := fr_le o n
  have h3 := mid_len o n
  rw [applyB, if_neg (by omega), makeB, if_neg (by omega)]
  show (match readNum (num (fr o n) ++ num (en o n) ++ mid o n) with | none => _ | some (f, r) => _) = _
  rw [List.append_assoc, readNum_of (Nat.lt_of_le_of_lt h2.1 (by omega))]
  show (match readNum (num (en o n) ++ mid o n) with | none => _ | some (e, m) => joinB o (fr o n) e m) = _
  rw [readNum_of (Nat.lt_of_le_of_lt h1.1 (by omega))]
  show joinB o (fr o n) (en o n) (mid o n) = _
  rw [joinB, if_pos (by omega), parts_join]
theorem make_same {o : List UInt8} (ho : o.length ≤ 65536) : (makeB o o).1.length ≤ 6 := by
  have h1 := pre_ge o.length o o (Nat.le_refl _) (Nat.le_refl _) rfl
  have h2 := make_len ho ho
  have h3 := mid_len o o
  have : fr o o = pre o o := rfl
  omega
/- a text that begins with a bytes of another and ends with b bytes of it -/
theorem make_edited {o x : List UInt8} {a b : Nat} (hab : a + b ≤ o.length) (ho : o.length ≤ 65536) (he : (o.take a ++ x ++ o.drop (o.length - b)).length ≤ 65536) :
    (makeB o (o.take a ++ x ++ o.drop (o.length - b))).1.length ≤ 6 + x.length := by
  generalize hn : o.take a ++ x ++ o.drop (o.length - b) = n at he ⊢
  have hl : n.length = a + x.length + b := by rw [← hn]; simp; omega
  have h1 := en_le o n
  have h2 := fr_le o n
  have h3 := mid_len o n
  have h4 := make_len ho he
  have hf : a ≤ fr o n := by
    refine pre_ge a o n (by omega) (by omega) ?_
    rw [← hn, List.append_assoc, List.take_append_of_le_length (by simp; omega), List.take_take, Nat.min_self]
  have hk : ∀ k, k ≤ b → k ≤ o.length - fr o n → k ≤ n.length - fr o n → k ≤ en o n := by
    intro k hkb hko hkn
    refine pre_ge k _ _ (by simp; omega) (by simp; omega) ?_
    rw [take_rev, take_rev, List.reverse_inj, List.drop_drop, List.drop_drop, List.length_drop, List.length_drop]
    rw [show fr o n + (o.length - fr o n - k) = o.length - k by omega, show fr o n + (n.length - fr o n - k) = n.length - k by omega]
    have e : n.length - k = (o.take a ++ x).length + (b - k) := by rw [hl]; simp; omega
    rw [e, ← hn, ← List.drop_drop, List.drop_left, List.drop_drop]
    congr 1; omega
  have := hk (min b (min (o.length - fr o n) (n.length - fr o n))) (by omega) (by omega) (by omega)
  omega
end Chron
namespace Chron
open Go Go.RowKit
/- an event without its body -/
def bareEv (e : Ev) : Ev := ⟨e.kind, e.task, e.time, ⟨#[]⟩, e.tags⟩
def chgB (old new : ByteArray) : List UInt8 := (makeB old.data.toList new.data.toList).1
def evB (v : Int) (old : ByteArray) (e : Ev) : List UInt8 := text (encB v (bareEv e)).1 ++ text (chgB old e.body)
def evsB (v : Int) : ByteArray → List Ev → List UInt8
  | _, [] => []
  | old, e :: r => evB v old e ++ evsB v e.body r
def lastB (old : ByteArray) : List Ev → ByteArray
  | [] => old
  | e :: r => lastB e.body r
def headB (v : Int) (n : Nat) : List UInt8 := num v.toNat ++ num n
def entryB (v : Int) (old : ByteArray) (l : List Ev) : List UInt8 := headB v l.length ++ evsB v old l
def noB : ByteArray := ⟨#[]⟩
/- one entry behind the other -/
abbrev Chunk := Int × List Ev
def evsOf : List Chunk → List Ev
  | [] => []
  | c :: r => c.2 ++ evsOf r
def fileB : ByteArray → List Chunk → List UInt8
  | _, [] => []
  | old, c :: r => entryB c.1 old c.2 ++ fileB (lastB old c.2) r
def anewC (l : List Ev) : List Chunk := l.map fun e => (3, [e])
theorem lastB_append : ∀ (old : ByteArray) (a b : List Ev), lastB old (a ++ b) = lastB (lastB old a) b
  | _, [], _ => rfl
  | _, e :: r, b => lastB_append e.body r b
theorem evsB_append (v : Int) : ∀ (old : ByteArray) (a b : List Ev), evsB v old (a ++ b) = evsB v old a ++ evsB v (lastB old a) b
  | _, [], _ => rfl
  | old, e :: r, b => by simp [evsB, lastB, evsB_append v e.body r b]
theorem evsOf_append : ∀ (a b : List Chunk), evsOf (a ++ b) = evsOf a ++ evsOf b
  | [], _ => rfl
  | c :: r, b => by simp [evsOf, evsOf_append r b]
theorem fileB_append : ∀ (old : ByteArray) (a b : List Chunk), fileB old (a ++ b) = fileB old a ++ fileB (lastB old (evsOf a)) b
  | _, [], _ => rfl
  | old, c :: r, b => by simp [fileB, evsOf, fileB_append (lastB old c.2) r b, lastB_append]
theorem evsOf_anew : ∀ (l : List Ev), evsOf (anewC l) = l
  | [] => rfl
  | e :: r => by
    have := evsOf_anew r
    simp only [anewC] at this
    simp [anewC, evsOf, this]
/- reading, with what is left -/
structure Rdr where
  rest : List UInt8
  cut : Bool
  wrong : Bool
def Rdr.stop (r : Rdr) : Bool := r.cut || r.wrong
def Rdr.over (r : Rdr) : Rdr := ⟨[], true, r.wrong⟩
def Rdr.fail (r : Rdr) : Rdr := ⟨[], r.cut, true⟩
def cutNumR (most : Int) (r : Rdr) : Rdr :=
  match readNum (r.rest ++ [1]) with
  | none => r.fail
  | some (n, _) => if most < (n : Int) then r.fail else r.over
def numR (least most : Int) (r : Rdr) : Nat × Rdr :=
  if r.stop = true then (0, r) else
  match readNum r.rest with
  | none => (0, cutNumR most r)
  | some (n, rest) => if (n : Int) < least ∨ most < (n : Int) then (0, r.fail) else (n, ⟨rest, r.cut, r.wrong⟩)
def textR (most : Int) (r : Rdr) : List UInt8 × Rdr :=
  if (numR 0 most r).2.rest.length < (numR 0 most r).1 then ([], (numR 0 most r).2.over)
  else ((numR 0 most r).2.rest.take (numR 0 most r).1, ⟨(numR 0 most r).2.rest.drop (numR 0 most r).1, (numR 0 most r).2.cut, (numR 0 most r).2.wrong⟩)
def bareOk (d : Ev × Int) : Bool := decide (d.2 = 0) && d.1.body.toList.isEmpty
def bareR (v : Int) (r : Rdr) : Ev × Rdr :=
  if (textR 321 r).2.stop = true then (zeroEv, (textR 321 r).2)
  else ((decB v (textR 321 r).1).1, if bareOk (decB v (textR 321 r).1) = true then (textR 321 r).2 else (textR 321 r).2.fail)
def bodyOk (d : List UInt8 × Int) : Bool := decide (d.2 = 0) && lineB ⟨d.1.toArray⟩
def bodyR (old : ByteArray) (r : Rdr) : ByteArray × Rdr :=
  if (textR 62 r).2.stop = true then (noB, (textR 62 r).2)
  else (⟨(applyB old.data.toList (textR 62 r).1).1.toArray⟩, if bodyOk (applyB old.data.toList (textR 62 r).1) = true then (textR 62 r).2 else (textR 62 r).2.fail)
def evR (v : Int) (old : ByteArray) (r : Rdr) : Ev × Rdr :=
  (⟨(bareR v r).1.kind, (bareR v r).1.task, (bareR v r).1.time, (bodyR old (bareR v r).2).1, (bareR v r).1.tags⟩, (bodyR old (bareR v r).2).2)
def evsR (v : Int) : Nat → List Ev → Rdr → List Ev × Rdr
  | 0, l, r => (l, r)
  | n + 1, l, r => evsR v n (l ++ [(evR v (lastB noB l) r).1]) (evR v (lastB noB l) r).2
def entryR (l : List Ev) (r : Rdr) : List Ev × Rdr :=
  evsR (numR 1 3 r).1 (numR 1 (200 - (l.length : Int)) (numR 1 3 r).2).1 l (numR 1 (200 - (l.length : Int)) (numR 1 3 r).2).2
/- what is told of a file: its events, how many bytes their entries have, and whether nothing is wrong -/
def readR (size : Nat) : Nat → List Ev → Nat → Rdr → List Ev × Nat × Bool
  | 0, l, whole, r => (l, whole, !r.wrong)
  | f + 1, l, whole, r =>
    if r.rest = [] then (l, whole, !r.wrong)
    else if (entryR l r).2.stop = true then (l, whole, !(entryR l r).2.wrong)
    else readR size f (entryR l r).1 (size - (entryR l r).2.rest.length) (entryR l r).2
def readB (file : List UInt8) : List Ev × Nat × Bool := readR file.length file.length [] 0 ⟨file, false, false⟩
end Chron
namespace Chron
open Go Go.RowKit
theorem bare_goes {v : Int} {e : Ev} (h : goesB v e = true) : goesB v (bareEv e) = true := by
  simp only [goesB, isB, fitsB, bareEv, Bool.and_eq_true] at h ⊢
  obtain ⟨h1, ⟨a, b, c, d, f, g, i⟩, h3⟩ := h
  exact ⟨h1, ⟨a, b, c, d, f, by decide, i⟩, h3⟩
theorem num_one {k : Nat} (h : k < 128) : (num k).length = 1 := by rw [num, numF_small h]; rfl
theorem num_fuel {f k : Nat} (hf : 0 < f) (h10 : f ≤ 10) (h : k < 128 ^ f) : (num k).length ≤ f := by
  rw [num, numF_fuel f 10 k hf h10 h]; exact numF_len f k
theorem num_pos (k : Nat) : 0 < (num k).length := by
  unfold num numF; split <;> simp
theorem tagParts_sum : ∀ (ts : List ByteArray), Lines ts → (tagParts ts).length = 2 * ts.length + (ts.map ByteArray.size).sum
  | [], _ => rfl
  | t :: r, h => by
    have h1 := tagParts_sum r (fun x hx => h x (List.mem_cons_of_mem _ hx))
    have h2 := h t List.mem_cons_self
    simp only [tagParts] at h1
    simp only [tagParts, List.map_cons, List.flatten_cons, List.length_append, h1, List.length_cons, List.sum_cons, tagPart, text]
    have e : t.data.toList.length = t.size := by simp
    rw [num_one (by omega), num_one (by rw [e]; omega), e]
    omega
theorem sum_lines : ∀ (ts : List ByteArray), Lines ts → (ts.map ByteArray.size).sum ≤ 60 * ts.length
  | [], _ => by simp
  | t :: r, h => by
    have h1 := sum_lines r (fun x hx => h x (List.mem_cons_of_mem _ hx))
    have h2 := h t List.mem_cons_self
    simp only [List.map_cons, List.sum_cons, List.length_cons]; omega
def tagSum (e : Ev) : Nat := (e.tags.map ByteArray.size).sum
theorem bare_len {v : Int} {e : Ev} (h : goesB v e = true) : (encB v (bareEv e)).1.length ≤ 21 + e.task.size + tagSum e ∧ (encB v (bareEv e)).1.length ≤ 321 := by
  have hg := bare_goes h
  have hv := goes_ver hg
  obtain ⟨k1, k4, ht, _, t0, t1, _, hf, hl⟩ := is_known (goes_is h)
  rw [encB, if_neg (by simp [hv]), if_neg (by simp [hg])]
  have e1 : e.task.data.toList.length = e.task.size := by simp
  have h1 : (text e.task.data.toList).length = 1 + e.task.size := by simp only [text, List.length_append]; rw [num_one (by omega)]; omega
  have h5 : (timePart e.time).length ≤ 9 := by
    unfold timePart; split
    · simp
    · have := num_fuel (f := 8) (k := e.time.toNat) (by omega) (by omega) (by omega)
      rw [List.length_append, num_one (by omega)]; omega
  have h6 := tagParts_sum e.tags hl
  have h7 := sum_lines e.tags hl
  have h8 := shift_bd v
  unfold tagSum
  split
  · simp only [letterB, bareEv, List.cons_append, List.length_cons, List.length_append]
    show (text e.task.data.toList).length + 0 + 1 ≤ _ ∧ (text e.task.data.toList).length + 0 + 1 ≤ _
    omega
  · have h9 : (num (e.kind - shift v).toNat).length = 1 := num_one (by omega)
    have h10 : (num 1).length = 1 := num_one (by omega)
    have h11 : (num 2).length = 1 := num_one (by omega)
    simp only [fieldsB, bareEv, front, List.length_append, h9, h1, h10, h11]
    have h12 : (bodyPart ⟨#[]⟩).length = 0 := by decide +kernel
    rw [h12]
    omega
theorem chg_len {a b : ByteArray} (ha : a.size ≤ 60) (hb : b.size ≤ 60) : (chgB a b).length ≤ 62 := by
  have e1 : a.data.toList.length = a.size := by simp
  have e2 : b.data.toList.length = b.size := by simp
  have h1 := en_le a.data.toList b.data.toList
  have h2 := fr_le a.data.toList b.data.toList
  have h3 := mid_len a.data.toList b.data.toList
  rw [chgB, makeB, if_neg (by omega)]
  simp only [List.length_append]
  rw [num_one (by omega), num_one (by omega)]
  omega
theorem chg_back {a b : ByteArray} (ha : a.size ≤ 60) (hb : b.size ≤ 60) : applyB a.data.toList (chgB a b) = (b.data.toList, 0) := by
  have e1 : a.data.toList.length = a.size := by simp
  have e2 : b.data.toList.length = b.size := by simp
  have := chg_len ha hb
  exact apply_make (by omega) (by omega) (by unfold chgB at this; omega)
theorem numR_go {least most : Int} {n : Nat} (h1 : least ≤ n) (h2 : (n : Int) ≤ most) (h3 : n < 128 ^ 9) (r : List UInt8) : numR least most ⟨num n ++ r, false, false⟩ = (n, ⟨r, false, false⟩) := by
  simp only [numR, Rdr.stop, Bool.or_self, Bool.false_eq_true, if_false, readNum_of h3]
  rw [if_neg (by omega)]
theorem textR_go {most : Int} {t : List UInt8} (h1 : (t.length : Int) ≤ most) (h2 : t.length < 128 ^ 9) (r : List UInt8) : textR most ⟨text t ++ r, false, false⟩ = (t, ⟨r, false, false⟩) := by
  unfold textR text
  rw [List.append_assoc, numR_go (by omega) h1 h2]
  simp only [List.length_append]
  rw [if_neg (by omega)]
  simp
theorem evR_go {v : Int} {old : ByteArray} {e : Ev} (h : goesB v e = true) (ho : old.size ≤ 60) (r : List UInt8) : evR v old ⟨evB v old e ++ r, false, false⟩ = (e, ⟨r, false, false⟩) := by
  have hk := is_known (goes_is h)
  have hl : lineB e.body = true := by have := goes_is h; simp only [isB, Bool.and_eq_true] at this; exact this.2.2.2.2.2.1
  have h1 := (bare_len h).2
  have h2 := chg_len ho hk.body
  have h3 := (dec_of (bare_goes h)).2
  have ht : textR 321 ⟨evB v old e ++ r, false, false⟩ = ((encB v (bareEv e)).1, ⟨text (chgB old e.body) ++ r, false, false⟩) := by
    rw [evB, List.append_assoc]; exact textR_go (by omega) (by omega) _
  have hb : bareR v ⟨evB v old e ++ r, false, false⟩ = (bareEv e, ⟨text (chgB old e.body) ++ r, false, false⟩) := by
    unfold bareR
    rw [ht, h3]
    simp [Rdr.stop, bareOk, bareEv]
  have hd : bodyR old ⟨text (chgB old e.body) ++ r, false, false⟩ = (e.body, ⟨r, false, false⟩) := by
    unfold bodyR
    rw [textR_go (by omega) (by omega), chg_back ho hk.body]
    simp only [Rdr.stop, bodyOk, Bool.or_self, Bool.false_eq_true, if_false]
    rw [mk_data, hl]
    simp
  unfold evR
  rw [hb, hd]
  rfl
/- what is read of a list of events -/
theorem lastB_size {old : ByteArray} (ho : old.size ≤ 60) : ∀ (l : List Ev), (∀ e ∈ l, isB e = true) → (lastB old l).size ≤ 60
  | [], _ => ho
  | e :: r, h => lastB_size (is_known (h e List.mem_cons_self)).body r (fun x hx => h x (List.mem_cons_of_mem _ hx))
theorem evsR_go {v : Int} : ∀ (l l0 : List Ev) (r : List UInt8), (∀ e ∈ l, goesB v e = true) → (lastB noB l0).size ≤ 60 → evsR v l.length l0 ⟨evsB v (lastB noB l0) l ++ r, false, false⟩ = (l0 ++ l, ⟨r, false, false⟩)
  | [], l0, r, _, _ => by simp [evsR, evsB]
  | e :: l, l0, r, h, ho => by
    have he := h e List.mem_cons_self
    have hb : lastB noB (l0 ++ [e]) = e.body := by rw [lastB_append]; rfl
    simp only [List.length_cons, evsR, evsB, List.append_assoc]
    rw [evR_go he ho]
    simp only
    have := evsR_go l (l0 ++ [e]) r (fun x hx => h x (List.mem_cons_of_mem _ hx)) (by rw [hb]; exact (is_known (goes_is he)).body)
    rw [hb] at this
    rw [this]
    simp
/- a list of events that one entry takes, behind so many others -/
structure Good (n : Nat) (c : Chunk) : Prop where
  goes : ∀ e ∈ c.2, goesB c.1 e = true
  some : c.2 ≠ []
  few : n + c.2.length ≤ 200
theorem Good.ver {n : Nat} {c : Chunk} (h : Good n c) : 1 ≤ c.1 ∧ c.1 ≤ 3 := by
  obtain ⟨v, l⟩ := c
  cases l with
  | nil => exact absurd rfl h.some
  | cons e r => have := goes_ver (h.goes e List.mem_cons_self); simpa [isVer] using this
theorem entryR_go {c : Chunk} {l0 : List Ev} (h : Good l0.length c) (ho : (lastB noB l0).size ≤ 60) (r : List UInt8) : entryR l0 ⟨entryB c.1 (lastB noB l0) c.2 ++ r, false, false⟩ = (l0 ++ c.2, ⟨r, false, false⟩) := by
  have hv := h.ver
  have hl : 1 ≤ c.2.length := List.length_pos_iff.2 h.some
  have hf := h.few
  unfold entryR entryB headB
  have e1 : numR 1 3 ⟨num c.1.toNat ++ num c.2.length ++ evsB c.1 (lastB noB l0) c.2 ++ r, false, false⟩ = (c.1.toNat, ⟨num c.2.length ++ (evsB c.1 (lastB noB l0) c.2 ++ r), false, false⟩) := by
    rw [List.append_assoc, List.append_assoc]; exact numR_go (by omega) (by omega) (by omega) _
  rw [e1]
  simp only
  rw [numR_go (by omega) (by omega) (by omega)]
  simp only
  rw [show ((c.1.toNat : Nat) : Int) = c.1 by omega]
  exact evsR_go c.2 l0 r h.goes ho
end Chron
namespace Chron
open Go Go.RowKit
theorem cutF : ∀ (f : Nat) (b : Bool) (n : Nat) (p q : List UInt8), n < 128 ^ f → 0 < f → (b = true ∨ 1 ≤ n) → numF f n = p ++ q → q ≠ [] → readF f b p = none ∧ ∃ m, readF f b (p ++ [1]) = some (m, []) ∧ m ≤ max n 1
  | 0, _, _, _, _, _, h, _, _, _ => by omega
  | f + 1, b, n, p, q, hn, _, hb, he, hq => by
    cases p with
    | nil => exact ⟨rfl, 1, rfl, Nat.le_max_right _ _⟩
    | cons c p =>
      by_cases hs : n < 128
      · rw [numF_small hs] at he
        simp at he
        exact absurd he.2.2 hq
      · rw [numF_more (by omega)] at he
        simp only [List.cons_append, List.cons.injEq] at he
        obtain ⟨rfl, he⟩ := he
        have e : (UInt8.ofNat (128 + n % 128)).toNat = 128 + n % 128 := by simp; omega
        rw [Nat.pow_succ] at hn
        have hf : 0 < f := by
          rcases Nat.eq_zero_or_pos f with h0 | h0
          · subst h0; simp at hn; omega
          · exact h0
        obtain ⟨h1, m, h2, h3⟩ := cutF f false (n / 128) p q (Nat.div_lt_of_lt_mul (by omega)) hf (Or.inr (by omega)) he hq
        refine ⟨?_, n % 128 + 128 * m, ?_, ?_⟩
        · simp only [readF, e, h1]
          rw [if_neg (by omega)]
        · simp only [List.cons_append, readF, e, h2]
          rw [if_neg (by omega)]
          simp
        · omega
theorem cutNum {n : Nat} {p q : List UInt8} (hn : n < 128 ^ 9) (h : num n = p ++ q) (hq : q ≠ []) : readNum p = none ∧ ∃ m, readNum (p ++ [1]) = some (m, []) ∧ m ≤ max n 1 := by
  rw [num, numF_fuel 9 10 n (by omega) (by omega) hn] at h
  exact cutF 9 true n p q hn (by omega) (Or.inl rfl) h hq
/- where the reading has come to the end -/
def overRdr : Rdr := ⟨[], true, false⟩
theorem numR_cut {least most : Int} {n : Nat} {p q : List UInt8} (h2 : (n : Int) ≤ most) (h1 : 1 ≤ most) (h3 : n < 128 ^ 9) (h : num n = p ++ q) (hq : q ≠ []) : numR least most ⟨p, false, false⟩ = (0, overRdr) := by
  obtain ⟨a, m, b, c⟩ := cutNum h3 h hq
  simp only [numR, Rdr.stop, Bool.or_self, Bool.false_eq_true, if_false, a, cutNumR, b]
  rw [if_neg (by omega)]
  rfl
theorem numR_over (least most : Int) : numR least most overRdr = (0, overRdr) := rfl
theorem textR_over (most : Int) : textR most overRdr = ([], overRdr) := rfl
theorem bareR_over (v : Int) : bareR v overRdr = (zeroEv, overRdr) := rfl
theorem bodyR_over (old : ByteArray) : bodyR old overRdr = (noB, overRdr) := rfl
theorem evR_over (v : Int) (old : ByteArray) : (evR v old overRdr).2 = overRdr := rfl
theorem evsR_over (v : Int) : ∀ (n : Nat) (l : List Ev), (evsR v n l overRdr).2 = overRdr
  | 0, _ => rfl
  | n + 1, _ => evsR_over v n _
theorem split_pre {p q a b : List UInt8} (h : a ++ b = p ++ q) (_ : q ≠ []) : (∃ q', q' ≠ [] ∧ a = p ++ q') ∨ (∃ p', p = a ++ p' ∧ b = p' ++ q) := by
  rcases List.append_eq_append_iff.1 h with ⟨p', h1, h2⟩ | ⟨q', h1, h2⟩
  · exact .inr ⟨p', h1, h2⟩
  · cases q' with
    | nil => exact .inr ⟨[], by simpa using h1.symm, by simpa using h2.symm⟩
    | cons c r => exact .inl ⟨c :: r, by simp, h1⟩
theorem textR_cut {most : Int} {t p q : List UInt8} (h1 : (t.length : Int) ≤ most) (h0 : 1 ≤ most) (h2 : t.length < 128 ^ 9) (h : text t = p ++ q) (hq : q ≠ []) : textR most ⟨p, false, false⟩ = ([], overRdr) := by
  rcases split_pre h hq with ⟨q', hq', e⟩ | ⟨p', rfl, e⟩
  · unfold textR
    rw [numR_cut h1 h0 h2 e hq']
    rfl
  · unfold textR
    rw [numR_go (by omega) h1 h2]
    have : 0 < q.length := List.length_pos_iff.2 hq
    have hl : t.length = p'.length + q.length := by rw [e]; simp
    simp only
    rw [if_pos (by omega)]
    rfl
theorem evR_cut {v : Int} {old : ByteArray} {e : Ev} {p q : List UInt8} (h : goesB v e = true) (ho : old.size ≤ 60) (hp : evB v old e = p ++ q) (hq : q ≠ []) : (evR v old ⟨p, false, false⟩).2 = overRdr := by
  have hk := is_known (goes_is h)
  have h1 := (bare_len h).2
  have h2 := chg_len ho hk.body
  have h3 := (dec_of (bare_goes h)).2
  rcases split_pre hp hq with ⟨q', hq', e'⟩ | ⟨p', rfl, e'⟩
  · have hb : bareR v ⟨p, false, false⟩ = (zeroEv, overRdr) := by
      unfold bareR
      rw [textR_cut (by omega) (by omega) (by omega) e' hq']
      rfl
    unfold evR
    rw [hb]
    rfl
  · have hb : bareR v ⟨text (encB v (bareEv e)).1 ++ p', false, false⟩ = (bareEv e, ⟨p', false, false⟩) := by
      unfold bareR
      rw [textR_go (by omega) (by omega), h3]
      simp [Rdr.stop, bareOk, bareEv]
    have hd : bodyR old ⟨p', false, false⟩ = (noB, overRdr) := by
      unfold bodyR
      rw [textR_cut (by omega) (by omega) (by omega) e' hq]
      rfl
    unfold evR
    rw [hb, hd]
theorem evsR_cut {v : Int} : ∀ (l l0 : List Ev) (p q : List UInt8), (∀ e ∈ l, goesB v e = true) → (lastB noB l0).size ≤ 60 → evsB v (lastB noB l0) l = p ++ q → q ≠ [] → (evsR v l.length l0 ⟨p, false, false⟩).2 = overRdr
  | [], l0, p, q, _, _, h, hq => by simp [evsB] at h; exact absurd h.2 hq
  | e :: l, l0, p, q, h, ho, hp, hq => by
    have he := h e List.mem_cons_self
    have hb : lastB noB (l0 ++ [e]) = e.body := by rw [lastB_append]; rfl
    simp only [List.length_cons, evsR]
    rcases split_pre hp hq with ⟨q', hq', e'⟩ | ⟨p', rfl, e'⟩
    · rw [evR_cut he ho e' hq']
      exact evsR_over _ _ _
    · rw [evR_go he ho]
      simp only
      exact evsR_cut l (l0 ++ [e]) p' q (fun x hx => h x (List.mem_cons_of_mem _ hx)) (by rw [hb]; exact (is_known (goes_is he)).body) (by rw [hb]; exact e') hq
theorem entryR_cut {c : Chunk} {l0 : List Ev} {p q : List UInt8} (h : Good l0.length c) (ho : (lastB noB l0).size ≤ 60) (hp : entryB c.1 (lastB noB l0) c.2 = p ++ q) (hq : q ≠ []) : (entryR l0 ⟨p, false, false⟩).2 = overRdr := by
  have hv := h.ver
  have hl : 1 ≤ c.2.length := List.length_pos_iff.2 h.some
  have hf := h.few
  rw [entryB, headB, List.append_assoc] at hp
  unfold entryR
  rcases split_pre hp hq with ⟨q', hq', e'⟩ | ⟨p', rfl, e'⟩
  · rw [numR_cut (n := c.1.toNat) (by omega) (by omega) (by omega) e' hq', numR_over]
    rfl
  · rw [numR_go (by omega) (by omega) (by omega)]
    simp only
    rcases split_pre e' hq with ⟨q'', hq'', e''⟩ | ⟨p'', rfl, e''⟩
    · rw [numR_cut (n := c.2.length) (by omega) (by omega) (by omega) e'' hq'']
      rfl
    · rw [numR_go (by omega) (by omega) (by omega)]
      simp only
      rw [show ((c.1.toNat : Nat) : Int) = c.1 by omega]
      exact evsR_cut c.2 l0 p'' q h.goes ho e'' hq
/- entries, each good behind the others -/
def GoodC : Nat → List Chunk → Prop
  | _, [] => True
  | n, c :: r => Good n c ∧ GoodC (n + c.2.length) r
theorem GoodC.append : ∀ {n : Nat} {a b : List Chunk}, GoodC n (a ++ b) ↔ GoodC n a ∧ GoodC (n + (evsOf a).length) b
  | n, [], b => by simp [GoodC, evsOf]
  | n, c :: r, b => by
    simp only [List.cons_append, GoodC, evsOf, List.length_append]
    rw [GoodC.append (a := r) (b := b), ← Nat.add_assoc]
    exact ⟨fun h => ⟨⟨h.1, h.2.1⟩, h.2.2⟩, fun h => ⟨h.1.1, h.1.2, h.2⟩⟩
theorem GoodC.is : ∀ {n : Nat} {a : List Chunk}, GoodC n a → ∀ e ∈ evsOf a, isB e = true
  | _, [], _, e, he => by simp [evsOf] at he
  | n, c :: r, h, e, he => by
    simp only [evsOf, List.mem_append] at he
    rcases he with he | he
    · exact goes_is (h.1.goes e he)
    · exact GoodC.is h.2 e he
theorem GoodC.few : ∀ {n : Nat} {a : List Chunk}, GoodC n a → n ≤ 200 → n + (evsOf a).length ≤ 200
  | _, [], _, hn => by simpa [evsOf] using hn
  | n, c :: r, h, hn => by
    have h1 := h.1.few
    have := GoodC.few h.2 h1
    simp only [evsOf, List.length_append]; omega
/- a piece of an entry that is cut off; or nothing -/
def Torn (l : List Ev) (p : List UInt8) : Prop := p = [] ∨ ∃ c q, Good l.length c ∧ entryB c.1 (lastB noB l) c.2 = p ++ q ∧ q ≠ []
theorem entry_pos (v : Int) (old : ByteArray) (l : List Ev) : 2 ≤ (entryB v old l).length := by
  have h1 := num_pos v.toNat
  have h2 := num_pos l.length
  simp only [entryB, headB, List.length_append]; omega
theorem readR_go (size : Nat) : ∀ (cs : List Chunk) (f : Nat) (l : List Ev) (whole : Nat) (p : List UInt8), GoodC l.length cs → (∀ e ∈ l, isB e = true) → Torn (l ++ evsOf cs) p → (fileB (lastB noB l) cs ++ p).length ≤ f → whole = size - (fileB (lastB noB l) cs ++ p).length → (fileB (lastB noB l) cs ++ p).length ≤ size →
    readR size f l whole ⟨fileB (lastB noB l) cs ++ p, false, false⟩ = (l ++ evsOf cs, size - p.length, true)
  | [], f, l, whole, p, _, hl, ht, hf, hw, hs => by
    simp only [fileB, List.nil_append, evsOf, List.append_nil] at *
    cases f with
    | zero => rw [readR, hw]; rfl
    | succ f =>
      rw [readR]
      by_cases hp : p = []
      · subst hp; simp [hw]
      · rw [if_neg hp]
        rcases ht with ht | ⟨c, q, hg, he, hq⟩
        · exact absurd ht hp
        · rw [entryR_cut hg (lastB_size (by decide) l hl) he hq]
          simp [overRdr, Rdr.stop, hw]
  | c :: r, f, l, whole, p, hg, hl, ht, hf, hw, hs => by
    have hlast : lastB noB (l ++ c.2) = lastB (lastB noB l) c.2 := lastB_append _ _ _
    have hle := entry_pos c.1 (lastB noB l) c.2
    cases f with
    | zero => simp only [fileB, List.length_append] at hf; omega
    | succ f =>
      have hne : fileB (lastB noB l) (c :: r) ++ p ≠ [] := by
        intro h
        have := congrArg List.length h
        simp only [fileB, List.length_append, List.length_nil] at this; omega
      rw [readR]
      rw [if_neg hne]
      simp only [fileB, List.append_assoc]
      rw [entryR_go hg.1 (lastB_size (by decide) l hl)]
      simp only [Rdr.stop, Bool.or_self, Bool.false_eq_true, if_false, evsOf]
      rw [← hlast]
      have hlen : (l ++ c.2).length = l.length + c.2.length := by simp
      have e : (fileB (lastB noB l) (c :: r) ++ p).length = (entryB c.1 (lastB noB l) c.2).length + (fileB (lastB noB (l ++ c.2)) r ++ p).length := by
        rw [hlast]; simp [fileB]
      have := readR_go size r f (l ++ c.2) (size - (fileB (lastB noB (l ++ c.2)) r ++ p).length) p (by rw [hlen]; exact hg.2)
        (fun e he => by
          rcases List.mem_append.1 he with h | h
          · exact hl e h
          · exact goes_is (hg.1.goes e h))
        (by rw [List.append_assoc]; exact ht) (by rw [e] at hf; omega) rfl (by rw [e] at hs; omega)
      rw [this]
      simp
theorem readB_go {cs : List Chunk} {p : List UInt8} (hg : GoodC 0 cs) (ht : Torn (evsOf cs) p) : readB (fileB noB cs ++ p) = (evsOf cs, (fileB noB cs).length, true) := by
  have := readR_go (fileB noB cs ++ p).length cs (fileB noB cs ++ p).length [] 0 p hg (fun e he => by simp at he) ht (Nat.le_refl _) (Nat.sub_self _).symm (Nat.le_refl _)
  have e : (fileB noB cs ++ p).length - p.length = (fileB noB cs).length := by rw [List.length_append]; omega
  rw [← e]
  exact this
/- a file, cut anywhere -/
theorem fileB_cut : ∀ (cs : List Chunk) (l : List Ev) (n : Nat), GoodC l.length cs → ∃ a b p, cs = a ++ b ∧ (fileB (lastB noB l) cs).take n = fileB (lastB noB l) a ++ p ∧ Torn (l ++ evsOf a) p ∧ (fileB (lastB noB l) a).length ≤ min n (fileB (lastB noB l) cs).length ∧ (b = [] → p = []) ∧ ∀ c r, b = c :: r → min n (fileB (lastB noB l) cs).length < (fileB (lastB noB l) a).length + (entryB c.1 (lastB noB (l ++ evsOf a)) c.2).length
  | [], l, n, _ => ⟨[], [], [], rfl, by simp [fileB], .inl rfl, by simp [fileB], fun _ => rfl, fun c r h => by simp at h⟩
  | c :: r, l, n, h => by
    have hlast : lastB noB (l ++ c.2) = lastB (lastB noB l) c.2 := lastB_append _ _ _
    by_cases hn : (entryB c.1 (lastB noB l) c.2).length ≤ n
    · have hlen : (l ++ c.2).length = l.length + c.2.length := by simp
      obtain ⟨a, b, p, e1, e2, e3, e4, e5, e6⟩ := fileB_cut r (l ++ c.2) (n - (entryB c.1 (lastB noB l) c.2).length) (by rw [hlen]; exact h.2)
      rw [hlast] at e2 e4 e6
      refine ⟨c :: a, b, p, by rw [e1]; rfl, ?_, ?_, ?_, e5, ?_⟩
      · simp only [fileB, List.append_assoc]
        rw [List.take_append, List.take_of_length_le hn, e2]
      · simp only [evsOf]; rw [← List.append_assoc]; exact e3
      · simp only [fileB, List.length_append]; omega
      · intro c' r' hb
        have := e6 c' r' hb
        simp only [fileB, List.length_append, evsOf]
        rw [← List.append_assoc]
        omega
    · refine ⟨[], c :: r, (entryB c.1 (lastB noB l) c.2).take n, rfl, ?_, ?_, by simp [fileB], (by intro h; simp at h), ?_⟩
      · simp only [fileB]
        rw [List.take_append_of_le_length (by omega)]
        simp
      · refine .inr ⟨c, (entryB c.1 (lastB noB l) c.2).drop n, ?_, ?_, ?_⟩
        · simp only [evsOf, List.append_nil]; exact h.1
        · simp only [evsOf, List.append_nil]; exact (List.take_append_drop _ _).symm
        · intro hd
          have := congrArg List.length hd
          simp at this; omega
      · intro c' r' hb
        simp only [List.cons.injEq] at hb
        obtain ⟨rfl, rfl⟩ := hb
        simp only [fileB, List.length_nil, evsOf, List.append_nil, List.length_append]
        omega
end Chron
namespace Go.Proofs.YtdjllnhahhjgmaaGreat
open Go.RowKit Chron
theorem hide1 {p : Prop} (h : p) : Hid p := h
theorem byteDiff {x y : UInt8} (h : ¬ x = y) : ((x.toNat : Int) == (y.toNat : Int)) = false := by
  have : ¬ x.toNat = y.toNat := fun e => h (UInt8.toNat_inj.1 e)
  simp; omega
theorem byteSame {x y : UInt8} (h : x = y) : ((x.toNat : Int) == (y.toNat : Int)) = true := by subst h; simp
theorem rev_get (s : ByteArray) (k i : Nat) (h : k < s.size) (hi : i = s.size - 1 - k) : s.data.toList.reverse[k]'(by simpa using h) = s[i]'(by omega) := by
  subst hi; rw [List.getElem_reverse]; rfl
set_option maxRecDepth 100000 in
set_option maxHeartbeats 400000 in
theorem front_any (a b : ByteArray) (w : World) (ha : a.size ≤ 65536) (_hb : b.size ≤ 65536) :
    Calls Tryz.prog 77 #[.string a, .string b] w fun e w' => e = .returned (.int .i64 (pre a.data.toList b.data.toList : Nat)) ∧ ∃ nq, w' = w.drewN nq := by
  go_enter Tryz.func77, Tryz.ntmps77
  go_wp2
  go_loopw [5] (fun m wr => ∃ k nq : Nat, wr = w.drewN nq ∧ k ≤ a.size ∧ m = .int .i64 k ∧ Hid (Akin a.data.toList b.data.toList k)) (fun m _ => a.size - (intOf m).toNat)
  case atStart => exact ⟨0, 0, rfl, Nat.zero_le _, rfl, alike_zero _ _⟩
  case round =>
    obtain ⟨k, nq, rfl, hk, rfl, HA⟩ := hrel
    by_cases hlt : k < a.size ∧ k < b.size
    · obtain ⟨hla, hlb⟩ := hlt
      by_cases he : a[k] = b[k]
      · have HM := hide1 (alike_more HA.out (by simpa using hla) (by simpa using hlb) he)
        have heb := byteSame he
        clear he
        go_wp2_with fail
        go_quiet (fail)
        go_wp2
        go_roundw
        case rel => exact ⟨k + 1, _, rfl, by omega, by go_num, HM⟩
        case measure => simp [intOf]; omega
      · have HO := hide1 (alike_other HA.out (by simpa using hla) (by simpa using hlb) he)
        have heb := byteDiff he
        clear he
        go_wp2_with fail
        go_quiet (fail)
        go_wp2
        go_ret
        exact ⟨ret_int (by rw [HO.out]), _, World.drewN_drewN _ _ _⟩
    · have HE := hide1 (alike_end HA.out (by simpa using hlt))
      by_cases h1 : k < a.size
      · have h2 : ¬ k < b.size := by omega
        clear hlt
        go_wp2_with fail
        go_quiet (fail)
        go_wp2
        go_ret
        exact ⟨ret_int (by rw [HE.out]), _, World.drewN_drewN _ _ _⟩
      · clear hlt
        go_wp2_with fail
        go_quiet (fail)
        go_wp2
        go_ret
        exact ⟨ret_int (by rw [HE.out]), _, World.drewN_drewN _ _ _⟩
set_option maxRecDepth 100000 in
set_option maxHeartbeats 400000 in
theorem end_any (a b : ByteArray) (w : World) (ha : a.size ≤ 65536) (hb : b.size ≤ 65536) :
    Calls Tryz.prog 78 #[.string a, .string b] w fun e w' => e = .returned (.int .i64 (pre a.data.toList.reverse b.data.toList.reverse : Nat)) ∧ ∃ nq, w' = w.drewN nq := by
  go_enter Tryz.func78, Tryz.ntmps78
  go_wp2
  go_loopw [5] (fun m wr => ∃ k nq : Nat, wr = w.drewN nq ∧ k ≤ a.size ∧ m = .int .i64 k ∧ Hid (Akin a.data.toList.reverse b.data.toList.reverse k)) (fun m _ => a.size - (intOf m).toNat)
  case atStart => exact ⟨0, 0, rfl, Nat.zero_le _, rfl, alike_zero _ _⟩
  case round =>
    obtain ⟨k, nq, rfl, hk, rfl, HA⟩ := hrel
    by_cases hlt : k < a.size ∧ k < b.size
    · obtain ⟨hla, hlb⟩ := hlt
      obtain ⟨i, hi, hi2⟩ : ∃ i : Nat, (a.size : Int) - 1 - k = i ∧ i < a.size := ⟨a.size - 1 - k, by omega, by omega⟩
      obtain ⟨j, hj, hj2⟩ : ∃ j : Nat, (b.size : Int) - 1 - k = j ∧ j < b.size := ⟨b.size - 1 - k, by omega, by omega⟩
      have hga := rev_get a k i hla (by omega)
      have hgb := rev_get b k j hlb (by omega)
      by_cases he : a[i] = b[j]
      · have HM := hide1 (alike_more HA.out (by simpa using hla) (by simpa using hlb) (by rw [hga, hgb]; exact he))
        have heb := byteSame he
        clear he hga hgb
        go_wp2_with fail
        go_quiet (fail)
        go_wp2
        go_roundw
        case rel => exact ⟨k + 1, _, rfl, by omega, by go_num, HM⟩
        case measure => simp [intOf]; omega
      · have HO := hide1 (alike_other HA.out (by simpa using hla) (by simpa using hlb) (by rw [hga, hgb]; exact he))
        have heb := byteDiff he
        clear he hga hgb
        go_wp2_with fail
        go_quiet (fail)
        go_wp2
        go_ret
        exact ⟨ret_int (by rw [HO.out]), _, World.drewN_drewN _ _ _⟩
    · have HE := hide1 (alike_end HA.out (by simpa using hlt))
      by_cases h1 : k < a.size
      · have h2 : ¬ k < b.size := by omega
        clear hlt
        go_wp2_with fail
        go_quiet (fail)
        go_wp2
        go_ret
        exact ⟨ret_int (by rw [HE.out]), _, World.drewN_drewN _ _ _⟩
      · clear hlt
        go_wp2_with fail
        go_quiet (fail)
        go_wp2
        go_ret
        exact ⟨ret_int (by rw [HE.out]), _, World.drewN_drewN _ _ _⟩
end Go.Proofs.YtdjllnhahhjgmaaGreat
namespace Go.Proofs.YtdjllnhahhjgmaaGreat
open Go.RowKit Chron
def cat (ts : List ByteArray) : List UInt8 := (ts.map (fun t => t.data.toList)).flatten
theorem cat_snoc (ts : List ByteArray) (k : Nat) (h : k < ts.length) : cat (ts.take (k + 1)) = cat (ts.take k) ++ (ts[k]?.getD ByteArray.empty).data.toList := by
  rw [List.take_succ_eq_append_getElem h]
  rw [List.getElem?_eq_getElem h]
  simp only [cat, List.map_append, List.flatten_append, List.map_cons, List.map_nil, List.flatten_cons, List.flatten_nil, List.append_nil, Option.getD_some]
theorem cat_take (ts : List ByteArray) (k : Nat) : (cat (ts.take k)).length ≤ (cat ts).length := by
  have e : cat ts = cat (ts.take k) ++ cat (ts.drop k) := by
    conv => lhs; rw [← List.take_append_drop k ts]
    simp only [cat, List.map_append, List.flatten_append]
  rw [e, List.length_append]; omega
set_option maxRecDepth 100000 in
set_option maxHeartbeats 400000 in
theorem join_any (a : Option Addr) (cap : Nat) (ts : List ByteArray) (w : World) (ht : Hid (TagsAt w a ts)) (hl : (cat ts).length ≤ 65536) (hn : ts.length ≤ 4) :
    Calls Tryz.prog 102 #[.slice a ts.length cap] w fun e w' => e = .returned (.string ⟨(cat ts).toArray⟩) ∧ Below w.heap.size w w' := by
  have HBN := hide0 (builder_new 102 5 w)
  go_enter Tryz.func102, Tryz.ntmps102
  go_wp2_with fail
  go_loopw [8] (fun i wx => ∃ n : Nat, n ≤ ts.length ∧ i = .int .i64 n ∧ Hid (Lib.IsBuilderF 102 5 w.heap.size w.heap.size (Lib.byteCells (cat (ts.take n))) wx) ∧ Hid (Below w.heap.size w wx)) (fun i _ => ts.length - (intOf i).toNat)
  case atStart => exact ⟨0, Nat.zero_le _, rfl, by simpa [cat] using HBN, (Below.refl _ _).alloc (Nat.le_refl _) _⟩
  case round =>
    obtain ⟨n, hnl, rfl, HBr, HWr⟩ := hrel
    have hlt := builder_lt HBr.out
    by_cases hlt' : n < ts.length
    · obtain ⟨q, off, rfl, hcx⟩ := ht.out (by omega)
      have hck := hcx n hlt'
      have hqlt := World.block_lt_of_cell? w _ hck
      have hck' : wr.cell? ⟨q, off + n, none⟩ = some (.string (ts[n]?.getD ByteArray.empty)) := by
        rw [HWr.out.cell (p := ⟨q, off + n, none⟩) (by simpa using hqlt)]; exact hck
      have HT := hide0 (cat_snoc ts n hlt')
      have hct := cat_take ts (n + 1)
      rw [HT.out, List.length_append] at hct
      generalize ts[n]?.getD ByteArray.empty = x at hck' HT hct
      have hxs : x.data.toList.length = x.size := rfl
      rw [hxs] at hct
      clear hcx hck hqlt hxs
      go_wp2_with fail
      refine (Tryz.Builder_WriteString_k w.heap.size w.heap.size _ x _ HBr.out (by rw [Lib.byteCells_length]; omega) (by omega)).mono ?_
      rintro e w2 ⟨rfl, hB2, hb2, hk2⟩
      rw [strCells_bytes] at hB2
      have HB2 := hide0 hB2
      clear hB2 hk2
      go_wp2
      go_roundw
      case rel => exact ⟨n + 1, by omega, by go_num, by rw [HT.out]; exact .inr HB2.out, HWr.out.trans hb2⟩
      case measure => simp [intOf]; omega
    · have HE := hide0 (List.take_of_length_le (l := ts) (i := n) (by omega))
      go_wp2_with fail
      refine (Tryz.Builder_String_any_k w.heap.size w.heap.size _ _ HBr.out (by omega)).mono ?_
      rintro e w7 ⟨rfl, hB7, hb7, hk7⟩
      go_wp2
      go_ret
      exact ⟨ret_str (by rw [HE.out]), HWr.out.trans hb7⟩
end Go.Proofs.YtdjllnhahhjgmaaGreat
namespace Go.Proofs.YtdjllnhahhjgmaaGreat
open Go.RowKit Chron
def seVal (p : List UInt8 × Int) : Value := .tuple #[.string ⟨p.1.toArray⟩, .int .i64 p.2]
theorem ret_se {p : List UInt8 × Int} {x : ByteArray} {y : Int} (hx : x = ⟨p.1.toArray⟩) (hy : y = p.2) : Ending.returned (.tuple #[.string x, .int .i64 y]) = .returned (seVal p) := by rw [hx, hy]; rfl
theorem ret_bad {p : List UInt8 × Int} (h : p = ([], 3)) : Ending.returned (.tuple #[.string ⟨#[]⟩, .int .i64 3]) = .returned (seVal p) := by rw [h]; rfl
theorem apply_long {o c : ByteArray} (h : 65536 < o.size ∨ 65536 < c.size) : applyB o.data.toList c.data.toList = ([], 3) := by
  rw [applyB, if_pos]; simpa using h
theorem apply_none {o c : ByteArray} (h : readNum c.data.toList = none) : applyB o.data.toList c.data.toList = ([], 3) := by
  rw [applyB]; split
  · rfl
  · rw [h]
theorem apply_none2 {o c : ByteArray} {f : Nat} {r : List UInt8} (h : readNum c.data.toList = some (f, r)) (h2 : readNum r = none) : applyB o.data.toList c.data.toList = ([], 3) := by
  rw [applyB]; split
  · rfl
  · rw [h]; simp only; rw [h2]
theorem apply_some {o c : ByteArray} {f e : Nat} {r m : List UInt8} (ho : o.size ≤ 65536) (hc : c.size ≤ 65536) (h : readNum c.data.toList = some (f, r)) (h2 : readNum r = some (e, m)) : applyB o.data.toList c.data.toList = joinB o.data.toList f e m := by
  rw [applyB, if_neg (by simp; omega), h]; simp only; rw [h2]
theorem join_bad {o : ByteArray} {f e : Nat} {m : List UInt8} (h : ¬ (f + e ≤ o.size ∧ f + m.length + e ≤ 65536)) : joinB o.data.toList f e m = ([], 3) := by
  rw [joinB, if_neg (by simpa using h)]
theorem join_good {o : ByteArray} {f e : Nat} {m : List UInt8} (h : f + e ≤ o.size ∧ f + m.length + e ≤ 65536) : joinB o.data.toList f e m = (o.data.toList.take f ++ m ++ o.data.toList.drop (o.size - e), 0) := by
  rw [joinB, if_pos (by simpa using h)]; rfl
theorem extract_front (s : ByteArray) (k : Nat) : s.extract 0 k = ⟨(s.data.toList.take k).toArray⟩ := by
  apply bytes_inj; simp [ByteArray.data_extract, Array.toList_extract, List.extract]
theorem tags_three (w : World) (a b c : ByteArray) (T : TypeId) : TagsAt (w.alloc (.cells #[.string a, .string b, .string c] T)) (some ⟨w.heap.size, 0, none⟩) [a, b, c] := by
  intro _
  refine ⟨w.heap.size, 0, rfl, fun i hi => ?_⟩
  simp only [World.cell?, heap_alloc_new]
  match i, hi with
  | 0, _ => rfl
  | 1, _ => rfl
  | 2, _ => rfl
set_option maxRecDepth 100000 in
set_option maxHeartbeats 800000 in
theorem apply_any (o c : ByteArray) (w : World) (ho : o.size ≤ maxLen) (hc : c.size ≤ maxLen) :
    Calls Tryz.prog 93 #[.string o, .string c] w fun e w' => e = .returned (seVal (applyB o.data.toList c.data.toList)) ∧ Below w.heap.size w w' := by
  have hR := fun w' => readNumber_any c w' hc
  unfold maxLen at ho hc
  by_cases h1 : 65536 < o.size
  · have HX := hide0 (apply_long (o := o) (c := c) (.inl h1))
    go_enter Tryz.func93, Tryz.ntmps93
    go_wp2
    go_ret2
    exact ⟨ret_bad HX.out, Below.refl _ _⟩
  by_cases h2 : 65536 < c.size
  · have HX := hide0 (apply_long (o := o) (c := c) (.inr h2))
    go_enter Tryz.func93, Tryz.ntmps93
    go_wp2
    go_ret2
    exact ⟨ret_bad HX.out, Below.refl _ _⟩
  rcases hq : readNum c.data.toList with _ | ⟨f, r⟩
  · have HX := hide0 (apply_none (o := o) hq)
    rw [hq] at hR
    clear hq
    go_enter Tryz.func93, Tryz.ntmps93
    go_wp2_with fail
    refine (hR _).mono ?_
    rintro e w' ⟨rfl, nq, rfl⟩
    simp only [rdVal]
    go_wp2
    go_ret2
    exact ⟨ret_bad HX.out, below_of_drewN _⟩
  have hrl : r.length ≤ c.size := by have := readNum_len hq; simpa using this
  have hR2 := fun w' => readNumber_any ⟨r.toArray⟩ w' (by unfold maxLen; show r.length ≤ _; omega)
  rw [hq] at hR
  rcases hq2 : readNum r with _ | ⟨n, m⟩
  · have HX := hide0 (apply_none2 (o := o) hq hq2)
    rw [show (⟨r.toArray⟩ : ByteArray).data.toList = r from rfl, hq2] at hR2
    clear hq hq2
    go_enter Tryz.func93, Tryz.ntmps93
    go_wp2_with fail
    refine (hR _).mono ?_
    rintro e w' ⟨rfl, nq, rfl⟩
    simp only [rdVal]
    go_wp2_with fail
    refine (hR2 _).mono ?_
    rintro e w' ⟨rfl, nq2, rfl⟩
    simp only [rdVal]
    go_wp2
    go_ret2
    exact ⟨ret_bad HX.out, below_of_drewN _⟩
  have hml : m.length ≤ r.length := by have := readNum_len hq2; simpa using this
  rw [show (⟨r.toArray⟩ : ByteArray).data.toList = r from rfl, hq2] at hR2
  have HX := hide0 (apply_some (o := o) (by omega) (by omega) hq hq2)
  have hsm : (⟨m.toArray⟩ : ByteArray).size = m.length := rfl
  clear hq hq2
  by_cases hf : o.size < f
  · have HY := hide0 (join_bad (o := o) (f := f) (e := n) (m := m) (by omega))
    go_enter Tryz.func93, Tryz.ntmps93
    go_wp2_with fail
    refine (hR _).mono ?_
    rintro e w' ⟨rfl, nq, rfl⟩
    simp only [rdVal]
    go_wp2_with fail
    refine (hR2 _).mono ?_
    rintro e w' ⟨rfl, nq2, rfl⟩
    simp only [rdVal]
    go_wp2
    go_ret2
    exact ⟨ret_bad (HX.out.trans HY.out), below_of_drewN _⟩
  by_cases hn : o.size - f < n
  · have HY := hide0 (join_bad (o := o) (f := f) (e := n) (m := m) (by omega))
    have hni : (o.size : Int) - (f : Int) < (n : Int) := by omega
    go_enter Tryz.func93, Tryz.ntmps93
    go_wp2_with fail
    refine (hR _).mono ?_
    rintro e w' ⟨rfl, nq, rfl⟩
    simp only [rdVal]
    go_wp2_with fail
    refine (hR2 _).mono ?_
    rintro e w' ⟨rfl, nq2, rfl⟩
    simp only [rdVal]
    go_wp2
    go_ret2
    exact ⟨ret_bad (HX.out.trans HY.out), below_of_drewN _⟩
  have hni : (n : Int) ≤ (o.size : Int) - (f : Int) := by omega
  by_cases hs : 65536 < f + m.length + n
  · have HY := hide0 (join_bad (o := o) (f := f) (e := n) (m := m) (by omega))
    go_enter Tryz.func93, Tryz.ntmps93
    go_wp2_with fail
    refine (hR _).mono ?_
    rintro e w' ⟨rfl, nq, rfl⟩
    simp only [rdVal]
    go_wp2_with fail
    refine (hR2 _).mono ?_
    rintro e w' ⟨rfl, nq2, rfl⟩
    simp only [rdVal]
    go_wp2
    go_ret2
    exact ⟨ret_bad (HX.out.trans HY.out), below_of_drewN _⟩
  have HY := hide0 (join_good (o := o) (f := f) (e := n) (m := m) (by omega))
  go_enter Tryz.func93, Tryz.ntmps93
  go_wp2_with fail
  refine (hR _).mono ?_
  rintro e w' ⟨rfl, nq, rfl⟩
  simp only [rdVal]
  go_wp2_with fail
  refine (hR2 _).mono ?_
  rintro e w' ⟨rfl, nq2, rfl⟩
  simp only [rdVal]
  have hJ : ∀ (X : World) (x y z : ByteArray), x = o.extract 0 f → y = ⟨m.toArray⟩ → z = o.extract (o.size - n) o.size → Calls Tryz.prog 102 #[.slice (some ⟨X.heap.size, 0, none⟩) 3 3] (X.alloc (.cells #[.string x, .string y, .string z] 9)) fun e w' => e = .returned (.string ⟨(cat [x, y, z]).toArray⟩) ∧ Below (X.heap.size + 1) (X.alloc (.cells #[.string x, .string y, .string z] 9)) w' := by
    intro X x y z hx hy hz
    have := join_any (some ⟨X.heap.size, 0, none⟩) 3 [x, y, z] _ (tags_three X x y z 9) (by subst hx hy hz; simp [cat]; omega) (by simp)
    rw [World.size_alloc] at this
    exact this
  obtain ⟨q, hq, hq2, HQ⟩ : ∃ q : Nat, IntKind.i64.wrap ((o.size : Int) - (n : Int)) = q ∧ q ≤ o.size ∧ Hid (q = o.size - n) := ⟨o.size - n, by rw [wrapI_small (by omega) (by omega)]; omega, by omega, rfl⟩
  rw [← HQ.out] at hJ
  have hfo : f ≤ o.size := by omega
  clear hR hR2
  go_wp2_with fail
  go_region_held (fun _ => True) (go_keep)
    (first | (go_at_call 102; refine (hJ _ _ _ _ (by first | rfl | go_goals) (by first | rfl | go_goals) (by first | rfl | go_goals)).mono ?_; rintro e w3 ⟨rfl, hb3⟩))
  go_wp2
  go_ret2
  refine ⟨(ret_se (p := (o.data.toList.take f ++ m ++ o.data.toList.drop (o.size - n), 0)) (by rw [extract_front, extract_end, HQ.out]; simp [cat]) rfl).trans (by rw [HX.out, HY.out]), ?_⟩
  have hbw := below_of_drewN (w := w) (nq + nq2 + 1)
  exact (hbw.alloc hbw.size _).trans (hb3.mono (Nat.le_succ_of_le hbw.size))

end Go.Proofs.YtdjllnhahhjgmaaGreat
