/- Walks and plain facts, in the order in which they lean on one another. -/
import Derived.Test.YtdjllnhahhjgmaaGreatDoorW09
import Derived.Test.YtdjllnhahhjgmaaGreatDoorW08
import Derived.Test.YtdjllnhahhjgmaaGreatDoorShelfB
import Derived.Sort.OwnSorted
import Derived.ChangeKeysEq
import Derived.Test.YtdjllnhahhjgmaaGreatDoorW05
import Derived.Test.YtdjllnhahhjgmaaGreatDoorW06
namespace Go.Proofs.YtdjllnhahhjgmaaGreatDoor
open Go.RowKit Chron
def memThen (n : Nat) (e : Ev) (ns : List (List UInt8)) (l : List UInt8) : Option (Ev × List (List UInt8) × List UInt8) :=
  match memL e l with
  | none => none
  | some (nm, e', r) => stepsL n 44 e' (ns ++ [nm]) r
def okAll (ns : List (List UInt8)) : Prop := ∀ x ∈ ns, okName x
def HeadR (S : Option (Ev × List (List UInt8) × List UInt8)) (b : Bool) (n : Nat) (e : Ev) (ns : List (List UInt8)) (lr : List UInt8) (br : Bool) : Prop :=
  (br = b ∧ S = stepsL n 44 e ns lr ∧ okAll ns) ∨ (S = none ∧ lr = [] ∧ br = true)
def MidR (S : Option (Ev × List (List UInt8) × List UInt8)) (b : Bool) (n : Nat) (e : Ev) (ns : List (List UInt8)) (lr : List UInt8) (br : Bool) : Prop :=
  (br = b ∧ S = memThen n e ns lr ∧ okAll ns) ∨ (S = none ∧ lr = [] ∧ br = true)
theorem steps_mem (n : Nat) (c : UInt8) (e : Ev) (ns : List (List UInt8)) (l : List UInt8) : stepsL (n + 1) c e ns l = (signL c l).bind (memThen n e ns) := by
  rw [stepsL, step_mem]
  cases signL c l with
  | none => rfl
  | some r => rfl
theorem MidR.start (l : List UInt8) (b : Bool) : MidR (stepsL 5 123 evZero [] l) b 4 evZero [] (stL (signL 123 l)) (stB b (signL 123 l)) := by
  rw [steps_mem]
  cases signL 123 l with
  | none => exact .inr ⟨rfl, rfl, rfl⟩
  | some r => exact .inl ⟨rfl, rfl, fun x hx => by cases hx⟩
theorem HeadR.mid {S : Option (Ev × List (List UInt8) × List UInt8)} {b br : Bool} {n : Nat} {e : Ev} {ns : List (List UInt8)} {lr : List UInt8} (h : HeadR S b (n + 1) e ns lr br) : MidR S b n e ns (stL (signL 44 lr)) (stB br (signL 44 lr)) := by
  rcases h with ⟨h1, h2, h3⟩ | ⟨h1, h2, h3⟩
  · rw [steps_mem] at h2
    cases hs : signL 44 lr with
    | none => rw [hs] at h2; exact .inr ⟨h2, rfl, rfl⟩
    | some r => rw [hs] at h2; exact .inl ⟨h1, h2, h3⟩
  · rw [h2, h3]
    exact .inr ⟨h1, rfl, rfl⟩
theorem field_nil (nm : List UInt8) (e : Ev) : fieldL nm e [] = none := by
  cases h : fieldL nm e [] with
  | none => rfl
  | some p => have := (field_suf (e' := p.1) (r := p.2) h).2; simp at this
theorem quote_nil : quoteL [] = none := by unfold quoteL; rw [sign_nil]
theorem MidR.head {S : Option (Ev × List (List UInt8) × List UInt8)} {b br : Bool} {n : Nat} {e e' : Ev} {ns : List (List UInt8)} {lr nm l2 l3 : List UInt8} {b2 b3 : Bool} (h : MidR S b n e ns lr br)
    (h2 : l2 = stL (qR (quoteL lr)) ∧ b2 = stB br (qR (quoteL lr))) (hn : ∀ p, quoteL lr = some p → nm = p.1) (h3 : l3 = stL (signL 58 l2) ∧ b3 = stB b2 (signL 58 l2)) (he : FV (fieldL nm e l3) e') :
    HeadR S b n e' (ns ++ [nm]) (stL (fR (fieldL nm e l3))) (stB b3 (fR (fieldL nm e l3))) := by
  have fail : l3 = [] → b3 = true → S = none → HeadR S b n e' (ns ++ [nm]) (stL (fR (fieldL nm e l3))) (stB b3 (fR (fieldL nm e l3))) := by
    intro a c d
    rw [a, c, field_nil]
    exact .inr ⟨d, rfl, rfl⟩
  obtain ⟨rfl, rfl⟩ := h2
  obtain ⟨rfl, rfl⟩ := h3
  rcases h with ⟨h1, h2, h3⟩ | ⟨h1, h2, h3⟩
  · cases hq : quoteL lr with
    | none =>
      rw [hq] at fail
      rw [hq] at he
      refine fail rfl rfl ?_
      rw [h2, memThen, memL, hq]
    | some p =>
      obtain ⟨q, r1⟩ := p
      have hnq : nm = q := hn _ hq
      subst hnq
      rw [hq] at fail he
      simp only [qR, Option.map_some, stL, stB] at fail he ⊢
      cases hs : signL 58 r1 with
      | none =>
        rw [hs] at fail he
        refine fail rfl rfl ?_
        rw [h2, memThen, memL, hq]; simp only [hs]
      | some r2 =>
        rw [hs] at he
        simp only at he ⊢
        cases hf : fieldL nm e r2 with
        | none =>
          refine .inr ⟨?_, rfl, rfl⟩
          rw [h2, memThen, memL, hq]; simp only [hs, hf, Option.map_none]
        | some z =>
          obtain ⟨e2, r3⟩ := z
          have := he _ hf
          simp only at this
          subst this
          refine .inl ⟨h1, ?_, ?_⟩
          · rw [h2, memThen, memL, hq]; simp only [hs, hf, Option.map_some]; rfl
          · intro x hx
            rcases List.mem_append.1 hx with hx | hx
            · exact h3 x hx
            · simp only [List.mem_singleton] at hx; rw [hx]; exact field_name hf
  · subst h2
    rw [quote_nil] at fail
    rw [quote_nil]
    rw [quote_nil] at he
    subst h3
    exact fail rfl rfl h1
theorem okName_mem {x : List UInt8} (h : okName x) : x ∈ namesL := by
  unfold namesL
  rcases h with rfl | rfl | rfl | rfl | rfl <;> simp
/- what stands at the end: all five names, and the bracket -/
theorem HeadR.done {l lr : List UInt8} {b br : Bool} {e : Ev} {ns : List (List UInt8)} (h : HeadR (stepsL 5 123 evZero [] l) b 0 e ns lr br) (hl : ns.length = 5) :
    (ns.mergeSort leL = namesL → stL (signL 125 lr) = stL (fR (eventL l)) ∧ stB br (signL 125 lr) = stB b (fR (eventL l)) ∧ FV (eventL l) e) ∧ (ns.mergeSort leL ≠ namesL → eventL l = none) := by
  unfold eventL
  rcases h with ⟨h1, h2, h3⟩ | ⟨h1, h2, h3⟩
  · rw [h2]
    simp only [stepsL]
    have key := names_iff hl (fun x hx => okName_mem (h3 x hx))
    constructor
    · intro hm
      rw [if_pos (key.1 hm), h1]
      cases signL 125 lr with
      | none => exact ⟨rfl, rfl, fun p hp => by cases hp⟩
      | some r2 => exact ⟨rfl, rfl, fun p hp => by rw [← Option.some.inj hp]⟩
    · intro hm
      rw [if_neg (fun h => hm (key.2 h))]
  · rw [h1, h2, h3]
    exact ⟨fun _ => ⟨rfl, rfl, fun p hp => by cases hp⟩, fun _ => rfl⟩
def hadC (had : List ByteArray) : Array Value := (had.map Value.string).toArray
structure Ev5 (R : Nat) (w wx : World) (lr : List UInt8) (br : Bool) (e : Ev) (x : Value) (hd : List ByteArray) : Prop where
  rd : Rd R wx lr br
  eb : Eb (w.heap.size + 1) (w.heap.size + 3) wx e x
  res : wx.heap[w.heap.size]? = some (.cells #[.int .i64 0, .string ⟨#[]⟩, .int .i64 0, .string ⟨#[]⟩, .slice none 0 0] 29)
  had : wx.heap[w.heap.size + 2]? = some (.cells (hadC hd) 107)
  len : hd.length = 5
  far : Far w wx [some R]
  low : R < w.heap.size
theorem Ev5.big {R : Nat} {w wx : World} {lr : List UInt8} {br : Bool} {e : Ev} {x : Value} {had : List ByteArray} (h : Ev5 R w wx lr br e x had) : w.heap.size + 3 ≤ wx.heap.size := (Array.getElem?_eq_some_iff.1 h.had).1
theorem Ev5.next {R : Nat} {w wx wy : World} {lr lr' : List UInt8} {br br' : Bool} {e : Ev} {x : Value} {had : List ByteArray} (h : Ev5 R w wx lr br e x had) (hr : Rd R wy lr' br') (hf : Far wx wy [some R]) : Ev5 R w wy lr' br' e x had := by
  have hb := h.big
  have hl := h.low
  refine ⟨hr, h.eb.far hf (by omega) (by omega), (hf.block _ (by omega) (by simp; omega)).trans h.res, (hf.block _ (by omega) (by simp; omega)).trans h.had, h.len, h.far.trans hf, h.low⟩
theorem Ev5.field {R : Nat} {w wx wy : World} {lr lr' : List UInt8} {br br' : Bool} {e e' : Ev} {x x' : Value} {had : List ByteArray} (h : Ev5 R w wx lr br e x had) (hr : Rd R wy lr' br') (he : Eb (w.heap.size + 1) (w.heap.size + 3) wy e' x') (hf : Far wx wy [some R, some (w.heap.size + 1)]) : Ev5 R w wy lr' br' e' x' had := by
  have hb := h.big
  have hl := h.low
  refine ⟨hr, he, (hf.block _ (by omega) (by simp; omega)).trans h.res, (hf.block _ (by omega) (by simp; omega)).trans h.had, h.len, ?_, h.low⟩
  refine ⟨hf.os.trans h.far.os, hf.tape.trans h.far.tape, hf.output.trans h.far.output, Nat.le_trans h.far.size hf.size, fun k hk hR => ?_⟩
  refine (hf.block k (Nat.lt_of_lt_of_le hk h.far.size) ?_).trans (h.far.block k hk hR)
  intro r hr
  simp only [List.mem_cons, List.mem_nil_iff, or_false] at hr
  rcases hr with rfl | rfl
  · exact hR _ (by simp)
  · simp only [ne_eq, Option.some.injEq]; omega
theorem Ev5.mark {R : Nat} {w wx : World} {lr : List UInt8} {br : Bool} {e : Ev} {x : Value} {had : List ByteArray} (h : Ev5 R w wx lr br e x had) (k : Nat) (s : ByteArray) : Ev5 R w (wx.setCell ⟨w.heap.size + 2, k, none⟩ (.string s)) lr br e x (had.set k s) := by
  have hl := h.low
  refine ⟨(Below.heap_setCell _ _ _ _ (by show R ≠ w.heap.size + 2; omega)).trans h.rd, ⟨(Below.heap_setCell _ _ _ _ (by show w.heap.size + 1 ≠ w.heap.size + 2; omega)).trans h.eb.box, ?_⟩, (Below.heap_setCell _ _ _ _ (by show w.heap.size ≠ w.heap.size + 2; omega)).trans h.res, ?_, by simp [h.len], h.far.setCell (.inr (by simp)) _, h.low⟩
  · exact own_of_block h.eb.own fun q hq => Below.heap_setCell _ _ _ _ (by show q ≠ w.heap.size + 2; have := (h.eb.own.lt _ hq).1; omega)
  · have := set_row (w := wx) (g := w.heap.size + 2) (i := k) (L := had.map Value.string) (t := 107) (u := .string s) h.had
    rw [this, hadC, List.map_set]
end Go.Proofs.YtdjllnhahhjgmaaGreatDoor
namespace Go.Proofs.YtdjllnhahhjgmaaGreatDoor
open Go.RowKit Chron
theorem had_cell {R : Nat} {w wx : World} {lr : List UInt8} {br : Bool} {e : Ev} {x : Value} {hd : List ByteArray} (h : Ev5 R w wx lr br e x hd) {k : Nat} {s : ByteArray} (hk : hd[k]? = some s) : wx.cell? ⟨w.heap.size + 2, k, none⟩ = some (.string s) ∧ ∀ o, wx.frozen? ⟨w.heap.size + 2, o, none⟩ = false := by
  have := h.had
  refine ⟨?_, fun o => by simp [World.frozen?, this]⟩
  simp [World.cell?, this, hadC, hk]
theorem len_sign (c : UInt8) (l : List UInt8) : (stL (signL c l)).length ≤ l.length := by
  cases hq : signL c l with
  | none => simp [stL]
  | some r => have := (sign_suf hq).2; simp only [stL]; omega
theorem len_quote (l : List UInt8) : (stL (qR (quoteL l))).length ≤ l.length := by
  cases hq : quoteL l with
  | none => simp [qR, stL]
  | some p => have := (quote_suf (s := p.1) (r := p.2) hq).2.1; simp only [qR, Option.map_some, stL]; omega
theorem len_field (nm : List UInt8) (e : Ev) (l : List UInt8) : (stL (fR (fieldL nm e l))).length ≤ l.length := by
  cases hq : fieldL nm e l with
  | none => simp [fR, stL]
  | some p => have := (field_suf (e' := p.1) (r := p.2) hq).2; simp only [fR, Option.map_some, stL]; omega
def LoopR (l : List UInt8) (b : Bool) (k : Nat) (e : Ev) (hd : List ByteArray) (lr : List UInt8) (br : Bool) : Prop :=
  (k = 0 ∧ MidR (stepsL 5 123 evZero [] l) b 4 e ((hd.take k).map bt) lr br) ∨ (0 < k ∧ HeadR (stepsL 5 123 evZero [] l) b (5 - k) e ((hd.take k).map bt) lr br)
theorem set_take {hd : List ByteArray} {k : Nat} {s : ByteArray} (hk : k < hd.length) : ((hd.set k s).take (k + 1)).map bt = (hd.take k).map bt ++ [bt s] := by
  rw [List.take_succ_eq_append_getElem (by simpa using hk), List.take_set, List.set_eq_of_length_le (by simp; omega)]
  simp
theorem loop_next {l : List UInt8} {b : Bool} {k : Nat} {e : Ev} {hd : List ByteArray} {lr : List UInt8} {br : Bool} (hk : k < 5) (h : HeadR (stepsL 5 123 evZero [] l) b (4 - k) e ((hd.take (k + 1)).map bt) lr br) : LoopR l b (k + 1) e hd lr br := by
  have e4 : 5 - (k + 1) = 4 - k := by omega
  refine .inr ⟨by omega, ?_⟩
  rw [e4]; exact h
def sorted (hd : List ByteArray) : List ByteArray := ((hd.map bt).mergeSort leL).map ba
theorem sorted_len (hd : List ByteArray) : (sorted hd).length = hd.length := by simp [sorted]
theorem sort_any (blk : Nat) (hd : List ByteArray) (X : World) (T : TypeId) (h5 : hd.length = 5) (hb : X.heap[blk]? = some (.cells (hadC hd) T)) :
    Calls Tryz.prog 66 #[.slice (some ⟨blk, 0, none⟩) 5 5] X fun e X' => e = .returned (.tuple #[]) ∧ Hid (X.grownBy X' (some blk)) ∧ Hid (X'.heap[blk]? = some (.cells (hadC (sorted hd)) T)) := by
  have hl : (hd.map bt).length = 5 := by simpa using h5
  have enc : ∀ ls : List (List UInt8), ls.map encStr = (ls.map ba).map Value.string := fun ls => by rw [List.map_map]; rfl
  have hbb : (hd.map bt).map ba = hd := (map_ba_bt rfl).symm
  have hH : Sort.Holds encStr X blk 0 (hd.map bt).toArray := holds_of_block hb (by rw [enc, hbb, hl]; show List.take 5 (hd.map Value.string) = _; rw [List.take_of_length_le (by simp [h5])])
  have := Tryz.slices_Sort_string blk 0 5 (hd.map bt) X hH (Array.getElem?_eq_some_iff.1 hb).1 (by rw [hl]; decide)
  rw [hl] at this
  refine this.mono ?_
  rintro e w' ⟨rfl, n, os, rfl⟩
  refine ⟨rfl, grownBy_sorted _, ?_⟩
  show _ = _
  rw [heap_sorted _ hb]
  have hsz : (hadC hd).size = 5 := by simp [hadC, h5]
  have hml : ((hd.map bt).mergeSort leL).length = 5 := by simp [h5]
  have ht := take_putCells (hadC hd) ((hd.map bt).mergeSort leL) (by omega)
  have hps : (Sort.putCells encStr 0 ((hd.map bt).mergeSort leL).toArray (hadC hd)).size = 5 := by simp [Sort.putCells, hsz]
  have hpl : (Sort.putCells encStr 0 ((hd.map bt).mergeSort leL).toArray (hadC hd)) = hadC (sorted hd) := by
    apply Array.toList_inj.1
    rw [hml, List.take_of_length_le (by simp [hps])] at ht
    rw [ht, enc]; rfl
  exact congrArg (fun c => some (Obj.cells c T (0, 0))) hpl
theorem plainText : Tryz.prog.plainKey 9 = true := by kernel_rfl
theorem cellsStr : Tryz.prog.cellsOf 9 = 1 := by kernel_rfl
theorem eq_step (W : World) (xs ys : Array Value) (i : Nat) (is : List Nat) (a b : ByteArray) (ha : xs[i]? = some (.string a)) (hb : ys[i]? = some (.string b)) :
    (Op.eqItems 9999 9 1 xs ys (i :: is)).run Tryz.prog W = if a = b then (Op.eqItems 9999 9 1 xs ys is).run Tryz.prog W else .ok false W := by
  have h1 : (part 9 xs (i * 1)).run Tryz.prog W = .ok (.string a) W := run_part_plain W plainText (by rw [Nat.mul_one]; exact ha)
  have h2 : (part 9 ys (i * 1)).run Tryz.prog W = .ok (.string b) W := run_part_plain W plainText (by rw [Nat.mul_one]; exact hb)
  have h3 : (Op.equalIn 9999 9 (.string a) (.string b)).run Tryz.prog W = .ok (a.toList == b.toList) W := run_equalIn_string W 9998 _ a b Tryz.underlying9
  simp only [Op.eqItems, Sem.run_bind, h1, h2, h3, Result.andThen_ok]
  by_cases he : a = b
  · subst he; simp
  · have : (a.toList == b.toList) = false := by
      rw [beq_eq_false_iff_ne]
      intro h
      exact he (by apply bytes_inj; rw [← ByteArray.toList_eq, h, ByteArray.toList_eq])
    rw [this, if_neg he]; rfl
theorem eq_five (W : World) (a0 a1 a2 a3 a4 b0 b1 b2 b3 b4 : ByteArray) : (Op.equalIn 10000 107 (.agg #[.string a0, .string a1, .string a2, .string a3, .string a4]) (.agg #[.string b0, .string b1, .string b2, .string b3, .string b4])).run Tryz.prog W = .ok (decide ([a0, a1, a2, a3, a4] = [b0, b1, b2, b3, b4])) W := by
  obtain ⟨i0, hi, _⟩ := info_parts infoText
  rw [run_equalIn_array W 9999 _ _ Tryz.underlying107 hi, cellsStr, show List.range 5 = [0, 1, 2, 3, 4] from rfl]
  rw [eq_step W _ _ 0 _ a0 b0 rfl rfl, eq_step W _ _ 1 _ a1 b1 rfl rfl, eq_step W _ _ 2 _ a2 b2 rfl rfl, eq_step W _ _ 3 _ a3 b3 rfl rfl, eq_step W _ _ 4 _ a4 b4 rfl rfl]
  by_cases h0 : a0 = b0
  · by_cases h1 : a1 = b1
    · by_cases h2 : a2 = b2
      · by_cases h3 : a3 = b3
        · by_cases h4 : a4 = b4
          · simp [h0, h1, h2, h3, h4, Op.eqItems]
          · simp [h0, h1, h2, h3, h4]
        · simp [h0, h1, h2, h3]
      · simp [h0, h1, h2]
    · simp [h0, h1]
  · simp [h0]
theorem Ev5.grown {R : Nat} {w wx wy : World} {lr : List UInt8} {br : Bool} {e : Ev} {x : Value} {hd hd' : List ByteArray} (h : Ev5 R w wx lr br e x hd) (hg : wx.grownBy wy (some (w.heap.size + 2))) (hb : wy.heap[w.heap.size + 2]? = some (.cells (hadC hd') 107)) (h5 : hd'.length = 5) : Ev5 R w wy lr br e x hd' := by
  have hl := h.low
  have hB := h.big
  refine ⟨(hg.block R (by omega) (by simp; omega)).trans h.rd, ⟨(hg.block _ (by omega) (by simp)).trans h.eb.box, ?_⟩, (hg.block _ (by omega) (by simp)).trans h.res, hb, h5, h.far.grown hg (fun q hq => .inr (by simp at hq; omega)), h.low⟩
  exact own_of_block h.eb.own fun q hq => hg.block q (h.eb.own.lt _ hq).2 (by have := (h.eb.own.lt _ hq).1; simp; omega)
theorem Ev5.out {R : Nat} {w wx : World} {lr : List UInt8} {br : Bool} {e : Ev} {x : Value} {hd : List ByteArray} (h : Ev5 R w wx lr br e x hd) (x0 x1 x2 x3 x4 : Value) :
    Rd R (((((wx.setCell ⟨w.heap.size, 0, none⟩ x0).setCell ⟨w.heap.size, 1, none⟩ x1).setCell ⟨w.heap.size, 2, none⟩ x2).setCell ⟨w.heap.size, 3, none⟩ x3).setCell ⟨w.heap.size, 4, none⟩ x4) lr br ∧
    (((((wx.setCell ⟨w.heap.size, 0, none⟩ x0).setCell ⟨w.heap.size, 1, none⟩ x1).setCell ⟨w.heap.size, 2, none⟩ x2).setCell ⟨w.heap.size, 3, none⟩ x3).setCell ⟨w.heap.size, 4, none⟩ x4).ownsRow w.heap.size 9 1 x e.tags.length (e.tags.map Value.string) ∧
    Far w (((((wx.setCell ⟨w.heap.size, 0, none⟩ x0).setCell ⟨w.heap.size, 1, none⟩ x1).setCell ⟨w.heap.size, 2, none⟩ x2).setCell ⟨w.heap.size, 3, none⟩ x3).setCell ⟨w.heap.size, 4, none⟩ x4) [some R] := by
  have hl := h.low
  have key : ∀ q, q ≠ w.heap.size → (((((wx.setCell ⟨w.heap.size, 0, none⟩ x0).setCell ⟨w.heap.size, 1, none⟩ x1).setCell ⟨w.heap.size, 2, none⟩ x2).setCell ⟨w.heap.size, 3, none⟩ x3).setCell ⟨w.heap.size, 4, none⟩ x4).heap[q]? = wx.heap[q]? := fun q hq => by
    rw [Below.heap_setCell _ _ _ _ hq, Below.heap_setCell _ _ _ _ hq, Below.heap_setCell _ _ _ _ hq, Below.heap_setCell _ _ _ _ hq, Below.heap_setCell _ _ _ _ hq]
  refine ⟨(key R (by omega)).trans h.rd, own_mono (own_of_block h.eb.own fun q hq => key q (by have := (h.eb.own.lt _ hq).1; omega)) (by omega), ?_⟩
  exact ((((h.far.setCell (.inr (Nat.le_refl _)) _).setCell (.inr (Nat.le_refl _)) _).setCell (.inr (Nat.le_refl _)) _).setCell (.inr (Nat.le_refl _)) _).setCell (.inr (Nat.le_refl _)) _
set_option maxRecDepth 100000 in
set_option maxHeartbeats 4000000 in
theorem revent_any (B R : Nat) (l : List UInt8) (b : Bool) (w : World) (G : Hid (Glob B w)) (hBR : Hid (B ≤ R)) (h : Hid (Rd R w l b)) (hl : l.length ≤ 1048576) :
    Calls Tryz.prog 41 #[.pointer (some ⟨R, 0, none⟩)] w fun e w' => ∃ (e' : Ev) (x' : Value), e = .returned (evVal e' x') ∧ Hid (St R w' b (fR (eventL l))) ∧ Hid (FV (eventL l) e') ∧ Hid (w'.ownsRow w.heap.size 9 1 x' e'.tags.length (e'.tags.map Value.string)) ∧ Hid (Far w w' [some R]) := by
  have hlow := h.out.lt
  have HW3 : Hid (Ev5 R w (((w.alloc (.cells #[.int .i64 0, .string ⟨#[]⟩, .int .i64 0, .string ⟨#[]⟩, .slice none 0 0] 29)).alloc (.cells #[.int .i64 0, .string ⟨#[]⟩, .int .i64 0, .string ⟨#[]⟩, .slice none 0 0] 29)).alloc (.cells #[.string ⟨#[]⟩, .string ⟨#[]⟩, .string ⟨#[]⟩, .string ⟨#[]⟩, .string ⟨#[]⟩] 107)) l b evZero (.slice none 0 0) [⟨#[]⟩, ⟨#[]⟩, ⟨#[]⟩, ⟨#[]⟩, ⟨#[]⟩]) := by
    refine ⟨?_, ⟨?_, World.ownsRow_nil _ _ _ _⟩, ?_, ?_, rfl, ?_, hlow⟩
    · exact Rd.more (Rd.more (Rd.more h.out ((Below.refl _ _).alloc (Nat.le_refl _) _)) ((Below.refl _ _).alloc (Nat.le_refl _) _)) ((Below.refl _ _).alloc (Nat.le_refl _) _)
    · rw [Below.heap_alloc _ _ _ (by simp)]
      have := heap_alloc_new (w.alloc (.cells #[.int .i64 0, .string ⟨#[]⟩, .int .i64 0, .string ⟨#[]⟩, .slice none 0 0] 29)) (.cells #[.int .i64 0, .string ⟨#[]⟩, .int .i64 0, .string ⟨#[]⟩, .slice none 0 0] 29)
      rw [World.size_alloc] at this; exact this
    · rw [Below.heap_alloc _ _ _ (by simp; omega), Below.heap_alloc _ _ _ (by simp), heap_alloc_new]
    · have := heap_alloc_new ((w.alloc (.cells #[.int .i64 0, .string ⟨#[]⟩, .int .i64 0, .string ⟨#[]⟩, .slice none 0 0] 29)).alloc (.cells #[.int .i64 0, .string ⟨#[]⟩, .int .i64 0, .string ⟨#[]⟩, .slice none 0 0] 29)) (.cells #[.string ⟨#[]⟩, .string ⟨#[]⟩, .string ⟨#[]⟩, .string ⟨#[]⟩, .string ⟨#[]⟩] 107)
      rw [World.size_alloc, World.size_alloc] at this; exact this
    · exact ((Far.refl w _).alloc _).alloc _ |>.alloc _
  have hS : (stL (signL 123 l)).length ≤ 1048576 := by
    cases hq : signL 123 l with
    | none => simp [stL]
    | some r => have := (sign_suf hq).2; simp only [stL]; omega
  have HM0 := hide0 (MidR.start l b)
  go_enter Tryz.func41, Tryz.ntmps41
  go_wp2_with fail
  refine (need_any R l b 123 123 rfl _ HW3.out.rd hl).mono ?_
  rintro e w1 ⟨rfl, H1, HF1⟩
  have HV1 := hide0 (HW3.out.next H1.out HF1.out)
  clear HW3 H1 HF1
  generalize stL (signL 123 l) = l1 at hS HM0 HV1
  generalize stB b (signL 123 l) = b1 at HM0 HV1
  go_wp2_with fail
  go_loopw [8] (fun iv wx => ∃ (k : Nat) (lr : List UInt8) (br : Bool) (e : Ev) (x : Value) (hd : List ByteArray), k ≤ 5 ∧ iv = .int .i64 k ∧ lr.length ≤ 1048576 ∧ Hid (LoopR l b k e hd lr br) ∧ Hid (Ev5 R w wx lr br e x hd)) (fun iv _ => 5 - (intOf iv).toNat)
  case atStart => exact ⟨0, l1, b1, evZero, _, _, by decide, rfl, hS, .inl ⟨rfl, HM0.out⟩, HV1⟩
  case round =>
    obtain ⟨k, lr, br, ev, x, hd, hk, rfl, hlr, HL, HV⟩ := hrel
    clear HM0 HV1 hS
    obtain ⟨ek, et, em, eb, ets⟩ := ev
    by_cases hlt : k < 5
    · obtain ⟨s0, hold⟩ : ∃ s0, hd[k]? = some s0 := ⟨_, List.getElem?_eq_getElem (by rw [HV.out.len]; omega)⟩
      have HOLD := hide0 hold
      by_cases h0 : 0 < k
      · have HM : Hid (MidR (stepsL 5 123 evZero [] l) b (4 - k) ⟨ek, et, em, eb, ets⟩ ((hd.take k).map bt) (stL (signL 44 lr)) (stB br (signL 44 lr))) := by
          rcases HL.out with ⟨h1, _⟩ | ⟨_, h2⟩
          · omega
          · have e5 : 5 - k = (4 - k) + 1 := by omega
            rw [e5] at h2
            exact h2.mid
        have hl1 := len_sign 44 lr
        clear hold
        go_wp2_with fail
        refine (need_any R lr br 44 44 rfl _ HV.out.rd hlr).mono ?_
        rintro e w1' ⟨rfl, H1, HF1⟩
        have HV' := hide0 (HV.out.next H1.out HF1.out)
        clear HV HL H1 HF1
        have hold := HOLD.out
        have HV := HV'
        clear HV'
        have hlr1 : (stL (signL 44 lr)).length ≤ 1048576 := by omega
        generalize stL (signL 44 lr) = lr1 at HV HM hlr1
        generalize stB br (signL 44 lr) = br1 at HV HM
        have G1 := hide0 (G.out.far hBR.out HV.out.far)
        go_wp2_with fail
        refine (rtext_any B R lr1 br1 _ G1 hBR HV.out.rd hlr1).mono ?_
        rintro e w2 ⟨s, rfl, H2, HS2, HF2⟩
        have HV2 := hide0 (HV.out.next H2.out HF2.out)
        obtain ⟨hc2, hf2⟩ := had_cell HV2.out hold
        have HV3 := hide0 (HV2.out.mark k s)
        have hl2 := len_quote lr1
        go_wp2_with fail
        refine (need_any R _ _ 58 58 rfl _ HV3.out.rd (by omega)).mono ?_
        rintro e w4 ⟨rfl, H4, HF4⟩
        have HV4 := hide0 (HV3.out.next H4.out HF4.out)
        obtain ⟨hc4, hf4⟩ := had_cell HV4.out (k := k) (s := s) (by rw [List.getElem?_set_self (by rw [HV.out.len]; omega)])
        have hl4 := len_sign 58 (stL (qR (quoteL lr1)))
        have G4 := hide0 (G.out.far hBR.out HV4.out.far)
        clear hc2 hf2
        go_wp2_with fail
        refine (rfield_any B R (w.heap.size + 1) (w.heap.size + 3) s _ _ ek et em eb ets x _ G4 hBR HV4.out.rd (by omega) HV4.out.eb ⟨by omega, by omega, by omega, HV4.out.big⟩).mono ?_
        rintro e w5 ⟨e', x', rfl, H5, HFV, HE5, HF5⟩
        have HV5 := hide0 (HV4.out.field H5.out HE5.out HF5.out)
        have hl5 := len_field (bt s) ⟨ek, et, em, eb, ets⟩ (stL (signL 58 (stL (qR (quoteL lr1)))))
        have HL5 := hide0 (HM.out.head (nm := bt s) ⟨rfl, rfl⟩ (fun p hp => by rw [HS2.out p hp]; exact bt_ba _) ⟨rfl, rfl⟩ HFV.out)
        rw [← set_take (k := k) (s := s) (by rw [HV.out.len]; omega)] at HL5
        have HL6 := hide0 (loop_next (by omega) HL5.out)
        clear hc4 hf4
        go_wp2
        go_roundw
        case rel => exact ⟨k + 1, _, _, e', x', hd.set k s, by omega, by go_num, by omega, HL6, HV5⟩
        case measure => simp [intOf]; omega
      · have hk0 : k = 0 := by omega
        have HM : Hid (MidR (stepsL 5 123 evZero [] l) b (4 - k) ⟨ek, et, em, eb, ets⟩ ((hd.take k).map bt) lr br) := by
          rcases HL.out with ⟨_, h1⟩ | ⟨h1, _⟩
          · rw [hk0] at h1 ⊢; exact h1
          · omega
        clear HL hk0
        obtain ⟨lr1, hq⟩ : ∃ lr1, lr = lr1 := ⟨_, rfl⟩
        subst hq
        obtain ⟨br1, hq⟩ : ∃ br1, br = br1 := ⟨_, rfl⟩
        subst hq
        have G1 := hide0 (G.out.far hBR.out HV.out.far)
        go_wp2_with fail
        refine (rtext_any B R lr br _ G1 hBR HV.out.rd hlr).mono ?_
        rintro e w2 ⟨s, rfl, H2, HS2, HF2⟩
        have HV2 := hide0 (HV.out.next H2.out HF2.out)
        obtain ⟨hc2, hf2⟩ := had_cell HV2.out hold
        have HV3 := hide0 (HV2.out.mark k s)
        have hl2 := len_quote lr
        go_wp2_with fail
        refine (need_any R _ _ 58 58 rfl _ HV3.out.rd (by omega)).mono ?_
        rintro e w4 ⟨rfl, H4, HF4⟩
        have HV4 := hide0 (HV3.out.next H4.out HF4.out)
        obtain ⟨hc4, hf4⟩ := had_cell HV4.out (k := k) (s := s) (by rw [List.getElem?_set_self (by rw [HV.out.len]; omega)])
        have hl4 := len_sign 58 (stL (qR (quoteL lr)))
        have G4 := hide0 (G.out.far hBR.out HV4.out.far)
        clear hc2 hf2
        go_wp2_with fail
        refine (rfield_any B R (w.heap.size + 1) (w.heap.size + 3) s _ _ ek et em eb ets x _ G4 hBR HV4.out.rd (by omega) HV4.out.eb ⟨by omega, by omega, by omega, HV4.out.big⟩).mono ?_
        rintro e w5 ⟨e', x', rfl, H5, HFV, HE5, HF5⟩
        have HV5 := hide0 (HV4.out.field H5.out HE5.out HF5.out)
        have hl5 := len_field (bt s) ⟨ek, et, em, eb, ets⟩ (stL (signL 58 (stL (qR (quoteL lr)))))
        have HL5 := hide0 (HM.out.head (nm := bt s) ⟨rfl, rfl⟩ (fun p hp => by rw [HS2.out p hp]; exact bt_ba _) ⟨rfl, rfl⟩ HFV.out)
        rw [← set_take (k := k) (s := s) (by rw [HV.out.len]; omega)] at HL5
        have HL6 := hide0 (loop_next (by omega) HL5.out)
        clear hc4 hf4
        go_wp2
        go_roundw
        case rel => exact ⟨k + 1, _, _, e', x', hd.set k s, by omega, by go_num, by omega, HL6, HV5⟩
        case measure => simp [intOf]; omega
    · have hk5 : k = 5 := by omega
      subst hk5
      have HD : Hid (((hd.map bt).mergeSort leL = namesL → stL (signL 125 lr) = stL (fR (eventL l)) ∧ stB br (signL 125 lr) = stB b (fR (eventL l)) ∧ FV (eventL l) ⟨ek, et, em, eb, ets⟩) ∧ ((hd.map bt).mergeSort leL ≠ namesL → eventL l = none)) := by
        rcases HL.out with ⟨h1, _⟩ | ⟨_, h2⟩
        · omega
        · rw [List.take_of_length_le (by rw [HV.out.len]; omega)] at h2
          exact h2.done (by simp [HV.out.len])
      clear HL
      go_wp2_with fail
      refine (need_any R lr br 125 125 rfl _ HV.out.rd hlr).mono ?_
      rintro e w2 ⟨rfl, H2, HF2⟩
      have HV2 := hide0 (HV.out.next H2.out HF2.out)
      go_wp2_with fail
      refine (sort_any (w.heap.size + 2) hd w2 _ HV2.out.len HV2.out.had).mono ?_
      rintro e w3 ⟨rfl, HG3, HS3⟩
      have HV3 := hide0 (HV2.out.grown HG3.out HS3.out (by rw [sorted_len]; exact HV2.out.len))
      have G3 := hide0 (G.out.far hBR.out HV3.out.far)
      have hsl := HV3.out.len
      have HSD : Hid ((sorted hd = namesL.map ba → (hd.map bt).mergeSort leL = namesL) ∧ (sorted hd ≠ namesL.map ba → (hd.map bt).mergeSort leL ≠ namesL)) := by
        refine ⟨fun h => ?_, fun h h2 => h (by rw [sorted, h2])⟩
        have := congrArg (List.map bt) h
        rw [sorted, List.map_map, List.map_map] at this
        have hid : (bt ∘ ba) = id := by funext s; exact bt_ba s
        rwa [hid, List.map_id, List.map_id] at this
      clear HV HV2 H2 HF2 HG3 HS3
      generalize sorted hd = sd at HV3 hsl HSD
      match sd, hsl, HV3, HSD with
      | [a0, a1, a2, a3, a4], _, HV3, HSD =>
        obtain ⟨f0, ff⟩ := had_cell HV3.out (k := 0) (s := a0) rfl
        obtain ⟨f1, _⟩ := had_cell HV3.out (k := 1) (s := a1) rfl
        obtain ⟨f2, _⟩ := had_cell HV3.out (k := 2) (s := a2) rfl
        obtain ⟨f3, _⟩ := had_cell HV3.out (k := 3) (s := a3) rfl
        obtain ⟨f4, _⟩ := had_cell HV3.out (k := 4) (s := a4) rfl
        have g0 := G3.out.names 0 (by decide)
        have g1 := G3.out.names 1 (by decide)
        have g2 := G3.out.names 2 (by decide)
        have g3 := G3.out.names 3 (by decide)
        have g4 := G3.out.names 4 (by decide)
        have heq := fun W => eq_five W a0 a1 a2 a3 a4 (ba (nameAt 0)) (ba (nameAt 1)) (ba (nameAt 2)) (ba (nameAt 3)) (ba (nameAt 4))
        obtain ⟨va, vc, hve, _⟩ := own_tags HV3.out.eb.own
        subst hve
        obtain ⟨d0, d1, d2, d3, d4, df⟩ := res_cells HV3.out.eb.box
        obtain ⟨r0, r1, r2, r3, r4, rf⟩ := res_cells HV3.out.res
        by_cases hsame : [a0, a1, a2, a3, a4] = [ba (nameAt 0), ba (nameAt 1), ba (nameAt 2), ba (nameAt 3), ba (nameAt 4)]
        · have hdc : decide ([a0, a1, a2, a3, a4] = [ba (nameAt 0), ba (nameAt 1), ba (nameAt 2), ba (nameAt 3), ba (nameAt 4)]) = true := decide_eq_true hsame
          simp only [hdc] at heq
          obtain ⟨q1, q2, q3⟩ := HD.out.1 (HSD.out.1 hsame)
          have HQ1 := hide0 q1
          have HQ2 := hide0 q2
          have HQ3 := hide0 q3
          clear hsame hdc q1 q2 q3
          have hO := HV3.out.out (.int .i64 ek) (.string et) (.int .i64 em) (.string eb) (.slice va ets.length vc)
          rw [HQ1.out, HQ2.out] at hO
          have HO := hide0 hO
          clear hO
          go_wp2_with fail
          refine bodyPost_ret (v := .agg #[.int .i64 ek, .string et, .int .i64 em, .string eb, .slice va ets.length vc]) (by simp [results, Tryz.results41, go_sem, r0, r1, r2, r3, r4]) rfl ?_
          exact ⟨⟨ek, et, em, eb, ets⟩, _, rfl, HO.out.1, HQ3, HO.out.2.1, HO.out.2.2⟩
        · have hdc : decide ([a0, a1, a2, a3, a4] = [ba (nameAt 0), ba (nameAt 1), ba (nameAt 2), ba (nameAt 3), ba (nameAt 4)]) = false := decide_eq_false hsame
          simp only [hdc] at heq
          have HQ := hide0 (HD.out.2 (HSD.out.2 hsame))
          clear hsame hdc
          go_wp2_with fail
          refine (fail_any R _ _ _ HV3.out.rd).mono ?_
          rintro e w4 ⟨rfl, H4, HF4⟩
          have HV4 := hide0 (HV3.out.next H4.out HF4.out)
          clear d0 d1 d2 d3 d4 df r0 r1 r2 r3 r4 rf
          obtain ⟨d0, d1, d2, d3, d4, df⟩ := res_cells HV4.out.eb.box
          obtain ⟨r0, r1, r2, r3, r4, rf⟩ := res_cells HV4.out.res
          have HO := hide0 (HV4.out.out (.int .i64 ek) (.string et) (.int .i64 em) (.string eb) (.slice va ets.length vc))
          have HFV : Hid (FV (eventL l) ⟨ek, et, em, eb, ets⟩) := by rw [HQ.out]; intro p hp; cases hp
          go_wp2_with fail
          refine bodyPost_ret (v := .agg #[.int .i64 ek, .string et, .int .i64 em, .string eb, .slice va ets.length vc]) (by simp [results, Tryz.results41, go_sem, r0, r1, r2, r3, r4]) rfl ?_
          exact ⟨⟨ek, et, em, eb, ets⟩, _, rfl, by rw [HQ.out]; exact HO.out.1, HFV, HO.out.2.1, HO.out.2.2⟩
end Go.Proofs.YtdjllnhahhjgmaaGreatDoor
namespace Go.Proofs.YtdjllnhahhjgmaaGreatDoor
open Go.RowKit Chron
theorem bool_cells {w : World} {N : Nat} {l : List Bool} {t : TypeId} (h : w.heap[N]? = some (.cells (l.map Value.bool).toArray t)) {i : Nat} {x : Bool} (hx : l[i]? = some x) : w.cell? ⟨N, i, none⟩ = some (.bool x) ∧ w.frozen? ⟨N, i, none⟩ = false := by
  constructor
  · simp [World.cell?, h, hx]
  · simp [World.frozen?, h]
set_option maxRecDepth 100000 in
set_option maxHeartbeats 4000000 in
theorem eventRef_any (s : ByteArray) (o : Option (List UInt8)) (w : World) (h : ∀ r, o = some r → Suf s r) (hs : s.size ≤ 1048576) :
    Calls Tryz.prog 46 #[.string s, .int .i64 (pos s o)] w fun e w' =>
      ∃ E v p, e = .returned (.tuple #[evVal E v, .int .i64 p]) ∧ EvR s o E p ∧ w'.ownsRow w.heap.size 9 1 v E.tags.length (E.tags.map Value.string) ∧ Below w.heap.size w w' := by
  have HH0 : Hid (Hb w.heap.size w (((w.alloc (.cells #[.int .i64 0, .string ⟨#[]⟩, .int .i64 0, .string ⟨#[]⟩, .slice none 0 0] 29)).alloc (.cells #[.int .i64 0, .string ⟨#[]⟩, .int .i64 0, .string ⟨#[]⟩, .slice none 0 0] 29)).alloc (.cells #[.bool false, .bool false, .bool false, .bool false, .bool false, .bool false] 111)) evZero (.slice none 0 0) [false, false, false, false, false, false]) := by
    refine ⟨?_, ?_, ?_, World.ownsRow_nil _ _ _ _, by simp [Value.ownBlock], (((Below.refl _ _).alloc (Nat.le_refl _) _).alloc (by simp) _).alloc (by simp only [World.size_alloc]; omega) _, rfl⟩
    · rw [Below.heap_alloc _ _ _ (by simp only [World.size_alloc]; omega), Below.heap_alloc _ _ _ (by simp), heap_alloc_new]
    · rw [Below.heap_alloc _ _ _ (by simp only [World.size_alloc]; omega)]
      have := heap_alloc_new (w.alloc (.cells #[.int .i64 0, .string ⟨#[]⟩, .int .i64 0, .string ⟨#[]⟩, .slice none 0 0] 29)) (.cells #[.int .i64 0, .string ⟨#[]⟩, .int .i64 0, .string ⟨#[]⟩, .slice none 0 0] 29)
      rw [World.size_alloc] at this; exact this
    · have := heap_alloc_new ((w.alloc (.cells #[.int .i64 0, .string ⟨#[]⟩, .int .i64 0, .string ⟨#[]⟩, .slice none 0 0] 29)).alloc (.cells #[.int .i64 0, .string ⟨#[]⟩, .int .i64 0, .string ⟨#[]⟩, .slice none 0 0] 29)) (.cells #[.bool false, .bool false, .bool false, .bool false, .bool false, .bool false] 111)
      rw [World.size_alloc, World.size_alloc] at this; exact this
  have HN0 : Hid (Now s o 5 123 evZero [] [false, false, false, false, false, false] o) := by
    refine ⟨rfl, List.nodup_nil, (fun nm hnm => by cases hnm), fun i => ?_, h⟩
    constructor
    · intro hi
      have : i < 6 := by have := (List.getElem?_eq_some_iff.1 hi).1; simpa using this
      match i, this, hi with
      | 0, _, hi => cases hi
      | 1, _, hi => cases hi
      | 2, _, hi => cases hi
      | 3, _, hi => cases hi
      | 4, _, hi => cases hi
      | 5, _, hi => cases hi
    · rintro ⟨nm, hnm, _⟩; cases hnm
  obtain ⟨p0, hp0, HP0⟩ : ∃ p0, pos s o = p0 ∧ Hid (pos s o = p0) := ⟨_, rfl, rfl⟩
  rw [hp0]
  clear hp0
  have n1 : ¬ w.heap.size = w.heap.size + 1 := by omega
  have n2 : ¬ w.heap.size + 1 = w.heap.size := by omega
  have n3 : ¬ w.heap.size + 1 + 1 = w.heap.size := by omega
  have n4 : ¬ w.heap.size = w.heap.size + 1 + 1 := by omega
  go_enter Tryz.func46, Tryz.ntmps46
  go_wp2_with fail
  go_loopw [1, 8, 9] (fun av cv iv wx => ∃ (i : Nat) (q : Option (List UInt8)) (c : UInt8) (E : Ev) (v : Value) (ns : List (List UInt8)) (hb : List Bool) (p z : Int), i ≤ 5 ∧ av = .int .i64 p ∧ cv = .int .u8 z ∧ iv = .int .i64 i ∧ Hid (pos s q = p ∧ z = (c.toNat : Int)) ∧ Hid (Now s o (5 - i) c E ns hb q) ∧ Hid (Hb w.heap.size w wx E v hb) ∧ Hid (0 < i → ∃ t, q = some t)) (fun _ _ iv _ => 5 - (intOf iv).toNat)
  case atStart => exact ⟨0, o, 123, evZero, .slice none 0 0, [], [false, false, false, false, false, false], p0, 123, by omega, rfl, rfl, rfl, ⟨HP0.out, rfl⟩, HN0, HH0, fun h => by omega⟩
  case round =>
    obtain ⟨i, q, c, E, v, ns, hb, p, z, hi, rfl, rfl, rfl, HPZ, HN, HH, HQ⟩ := hrel
    obtain ⟨va, vc, hve, _⟩ := own_tags HH.out.own
    subst hve
    obtain ⟨r0', r1', r2', r3', r4', rf⟩ := res_cells HH.out.res
    obtain ⟨d0, d1, d2, d3, d4, df⟩ := res_cells HH.out.box
    have hbig := HH.out.big
    obtain ⟨E0, E1, E2, E3, E4⟩ := E
    by_cases hi5 : i < 5
    · have hiI : (i : Int) < 5 := by omega
      obtain ⟨n, hn⟩ : ∃ n, 5 - i = n + 1 := ⟨4 - i, by omega⟩
      rw [hn] at HN
      have HNN := hide0 hn
      have hS := sign_pos s q c z HPZ.out.2 wr (HN.out.suf) hs
      rw [HPZ.out.1] at hS
      clear hn
      cases hqs : q.bind (signL c) with
      | none =>
        have HF : Hid (o.bind eventL = none) := HN.out.none hqs
        rw [hqs] at hS
        have hm : pos s none = -1 := rfl
        rw [hm] at hS
        go_wp2_with fail
        refine hS.mono ?_
        rintro e w1 ⟨rfl, hw1⟩
        have hw2 := hw1.symm
        subst hw2
        clear hw1 hS
        go_wp2
        refine bodyPost_ret (v := .tuple #[.agg #[.int .i64 E0, .string E1, .int .i64 E2, .string E3, .slice va E4.length vc], .int .i64 (-1)]) (by simp [results, Tryz.results46, go_sem, r0', r1', r2', r3', r4']) rfl ?_
        exact ⟨⟨E0, E1, E2, E3, E4⟩, .slice va E4.length vc, -1, rfl, EvR.no HF.out, HH.out.out.1, HH.out.out.2⟩
      | some t1 =>
        have ht1 : Suf s t1 := by
          cases q with
          | none => cases hqs
          | some t0 => exact (HN.out.suf t0 rfl).trans (sign_suf hqs).1
        rw [hqs] at hS
        obtain ⟨p1, hp1, HP1⟩ : ∃ p1, pos s (some t1) = p1 ∧ Hid (pos s (some t1) = p1) := ⟨_, rfl, rfl⟩
        have hp1n : 0 ≤ p1 := by rw [← hp1]; have := ht1.le; simp only [pos]; omega
        have hM := member_any s t1 E0 E1 E2 E3 E4 (.slice va E4.length vc) wr w.heap.size ht1 hs (by omega) HH.out.own
        rw [hp1] at hS hM
        clear hp1
        go_wp2_with fail
        refine hS.mono ?_
        rintro e w1 ⟨rfl, hw1⟩
        have hw2 := hw1.symm
        subst hw2
        clear hw1 hS
        go_wp2_with fail
        refine hM.mono ?_
        rintro e w2 ⟨E', y, which, p2, rfl, hMR, hy, hb2, hyo⟩
        obtain ⟨ya, yc, hye, _⟩ := own_tags hy
        subst hye
        have HH2 := hide0 (HH.out.more hb2)
        have hyap : (Value.slice ya E'.tags.length yc).ownBlock ≠ some w.heap.size ∧ (Value.slice ya E'.tags.length yc).ownBlock ≠ some (w.heap.size + 1) ∧ (Value.slice ya E'.tags.length yc).ownBlock ≠ some (w.heap.size + 2) := by
          have hap := HH.out.ap
          refine ⟨fun e => ?_, fun e => ?_, fun e => ?_⟩
          · rcases hyo _ e with h | h
            · exact hap.1 h
            · omega
          · rcases hyo _ e with h | h
            · exact hap.2.1 h
            · omega
          · rcases hyo _ e with h | h
            · exact hap.2.2 h
            · omega
        have HH3 := hide0 (HH2.out.put hy hyap)
        obtain ⟨F0, F1, F2, F3, F4⟩ := E'
        simp only at HH3
        clear hM hb2 hy hyo hyap r0' r1' r2' r3' r4' rf d0 d1 d2 d3 d4 df
        obtain ⟨r0', r1', r2', r3', r4', rf⟩ := res_cells HH2.out.res
        obtain ⟨d0, d1, d2, d3, d4, df⟩ := res_cells HH2.out.box
        simp only [evVal]
        cases hml : memL (capE ⟨E0, E1, E2, E3, E4⟩) t1 with
        | none =>
          have HF : Hid (o.bind eventL = none) := HN.out.bad hqs hml
          rw [MemR, hml] at hMR
          have hp2 : p2 = -1 := hMR
          subst hp2
          go_wp2
          refine bodyPost_ret (v := .tuple #[.agg #[.int .i64 F0, .string F1, .int .i64 F2, .string F3, .slice ya F4.length yc], .int .i64 (-1)]) (by simp [results, Tryz.results46, go_sem, r0', r1', r2', r3', r4']) rfl ?_
          exact ⟨⟨F0, F1, F2, F3, F4⟩, .slice ya F4.length yc, -1, rfl, EvR.no HF.out, HH3.out.out.1, HH3.out.out.2⟩
        | some q3 =>
          obtain ⟨nm, e', r⟩ := q3
          rw [MemR, hml] at hMR
          obtain ⟨hcap, hwh, hpr, hsr⟩ := hMR
          obtain ⟨j, hj, hj6⟩ := idx_bd (mem_name hml)
          obtain ⟨x, hx⟩ : ∃ x, hb[j]? = some x := ⟨_, List.getElem?_eq_getElem (by rw [HH.out.len]; exact hj6)⟩
          obtain ⟨g1, g2⟩ := bool_cells HH2.out.had hx
          have hp2n : 0 ≤ p2 := by rw [hpr]; have := hsr.le; simp only [pos]; omega
          have hw2 : which = (j : Int) := by rw [hwh, hj]
          subst hw2
          have HPR := hide0 hpr
          have hj6I : (j : Int) < 6 := by omega
          clear hpr hwh
          cases x with
          | true =>
            have HF : Hid (o.bind eventL = none) := HN.out.twice hqs hml (by
              obtain ⟨nm2, h2, h3⟩ := (HN.out.marks j).1 hx
              rw [idx_inj (mem_name hml) (HN.out.oks nm2 h2) (by rw [hj, h3])]; exact h2)
            clear hj hx
            go_wp2
            refine bodyPost_ret (v := .tuple #[.agg #[.int .i64 F0, .string F1, .int .i64 F2, .string F3, .slice ya F4.length yc], .int .i64 (-1)]) (by simp [results, Tryz.results46, go_sem, r0', r1', r2', r3', r4']) rfl ?_
            exact ⟨⟨F0, F1, F2, F3, F4⟩, .slice ya F4.length yc, -1, rfl, EvR.no HF.out, HH3.out.out.1, HH3.out.out.2⟩
          | false =>
            have HN2 : Hid (Now s o (5 - (i + 1)) 44 ⟨F0, F1, F2, F3, F4⟩ (ns ++ [nm]) (hb.set j true) (some r)) := by
              have hnn : 5 - (i + 1) = n := by have := HNN.out; omega
              rw [hnn]
              exact HN.out.next hqs hml hcap hsr hj HH.out.len (by rw [hx]; simp)
            have HH4 := hide0 (HH3.out.mark (i := j))
            clear hj hx hcap
            go_wp2
            go_roundw
            case rel => exact ⟨i + 1, some r, 44, ⟨F0, F1, F2, F3, F4⟩, .slice ya F4.length yc, ns ++ [nm], hb.set j true, p2, 44, by omega, rfl, rfl, by go_num, ⟨HPR.out.symm, rfl⟩, HN2, HH4, fun _ => ⟨r, rfl⟩⟩
            case measure => simp [intOf]; omega
    · have hiI : ¬ (i : Int) < 5 := by omega
      have hie : i = 5 := by omega
      obtain ⟨t, hqt⟩ := HQ.out (by omega)
      subst hqt
      have HF : Hid (EvR s o ⟨E0, E1, E2, E3, E4⟩ (pos s (signL 125 t))) := by
        have := HN.out
        rw [hie] at this
        exact this.done
      have hS := sign_any s t 125 125 rfl wr (HN.out.suf t rfl) hs
      rw [HPZ.out.1] at hS
      clear hie
      have HHd := hide0 (HH.out.more ((Below.refl _ _).drew))
      have hS2 : Calls Tryz.prog 45 #[.string s, .int .i64 p, .int .u8 125] wr.drew fun e w' => e = .returned (.int .i64 (pos s (signL 125 t))) ∧ w' = wr.drew := by
        have := sign_any s t 125 125 rfl wr.drew (HN.out.suf t rfl) hs
        rw [HPZ.out.1] at this
        exact this
      clear hS
      simp only at d0 d1 d2 d3
      go_wp2_with fail
      go_region_held (fun X => X.cell? ⟨w.heap.size + 1, 0, none⟩ = some (.int .i64 E0) ∧ X.cell? ⟨w.heap.size + 1, 1, none⟩ = some (.string E1) ∧ X.cell? ⟨w.heap.size + 1, 2, none⟩ = some (.int .i64 E2) ∧ X.cell? ⟨w.heap.size + 1, 3, none⟩ = some (.string E3) ∧ X.cell? ⟨w.heap.size + 1, 4, none⟩ = some (.slice va E4.length vc)) (go_keep)
        (first | (go_at_call 45; refine hS2.mono ?_; rintro e w1 ⟨rfl, hw1⟩; have hw2 := hw1.symm; subst hw2; clear hw1))
      all_goals
        go_wp2
        refine bodyPost_ret (v := .tuple #[.agg #[.int .i64 E0, .string E1, .int .i64 E2, .string E3, .slice va E4.length vc], .int .i64 (pos s (signL 125 t))]) (by simp [results, Tryz.results46, go_sem, r0', r1', r2', r3', r4']) rfl ?_
        exact ⟨⟨E0, E1, E2, E3, E4⟩, .slice va E4.length vc, _, rfl, HF.out, HHd.out.out.1, HHd.out.out.2⟩
end Go.Proofs.YtdjllnhahhjgmaaGreatDoor
namespace Chron
open Go Go.RowKit
structure Few (n : Nat) (e : Ev) : Prop where
  tags : e.tags.length ≤ n
  each : ∀ t ∈ e.tags, t.size ≤ n
  task : e.task.size ≤ n
  body : e.body.size ≤ n
theorem ba_size (l : List UInt8) : (ba l).size = l.length := rfl
theorem items_each {one : List UInt8 → Option (List UInt8 × List UInt8)} {hone : ∀ l x r, one l = some (x, r) → r.length < l.length} (hx : ∀ l x r, one l = some (x, r) → x.length ≤ l.length) : ∀ (n : Nat) {l r : List UInt8} {xs : List (List UInt8)}, l.length ≤ n → itemsL one hone l = some (xs, r) → ∀ x ∈ xs, x.length ≤ l.length
  | n, l, r, xs, hn, h => by
    cases ho : one l with
    | none => rw [items_none ho] at h; cases h
    | some p =>
      obtain ⟨x, r0⟩ := p
      have h0 := hone l x r0 ho
      have x0 := hx l x r0 ho
      cases hs : signL 44 r0 with
      | none =>
        rw [items_last ho hs] at h
        cases h3 : signL 93 r0 with
        | none => rw [h3] at h; cases h
        | some r3 =>
          rw [h3] at h
          simp only [Option.map_some, Option.some.injEq, Prod.mk.injEq] at h
          obtain ⟨rfl, rfl⟩ := h
          intro y hy
          simp only [List.mem_singleton] at hy
          rw [hy]; exact x0
      | some r2 =>
        rw [items_more ho hs] at h
        have hl2 := (sign_suf hs).2
        cases hi : itemsL one hone r2 with
        | none => rw [hi] at h; cases h
        | some q =>
          obtain ⟨ys, r3⟩ := q
          rw [hi] at h
          simp only [Option.map_some, Option.some.injEq, Prod.mk.injEq] at h
          obtain ⟨rfl, rfl⟩ := h
          match n, hn with
          | 0, hn => omega
          | n + 1, hn =>
            have ih := items_each hx n (by omega) hi
            intro y hy
            rcases List.mem_cons.1 hy with rfl | hy
            · exact x0
            · have := ih y hy; omega
theorem tags_each {l r : List UInt8} {xs : List (List UInt8)} (h : tagsL l = some (xs, r)) : ∀ x ∈ xs, x.length ≤ l.length := by
  unfold tagsL listL at h
  split at h
  · cases h
  · rename_i r0 e0
    have h0 := (sign_suf e0).2
    split at h
    · simp only [Option.some.injEq, Prod.mk.injEq] at h
      obtain ⟨rfl, _⟩ := h
      intro x hx; cases hx
    · intro x hx
      have := items_each (fun l x r h => by have := (quote_suf h).2.2; omega) _ (Nat.le_refl _) h x hx
      omega
theorem field_few {n : Nat} {nm l r : List UInt8} {e e' : Ev} (hn : l.length ≤ n) (he : Few n e) (h : fieldL nm e l = some (e', r)) : Few n e' := by
  unfold fieldL at h
  split at h
  · cases hc : quoteL l with
    | none => rw [hc] at h; cases h
    | some p =>
      rw [hc] at h
      simp only [Option.map_some, Option.some.injEq, Prod.mk.injEq] at h
      obtain ⟨rfl, _⟩ := h
      have := (quote_suf (s := p.1) (r := p.2) hc).2.2
      exact ⟨he.tags, he.each, he.task, by show (ba p.1).size ≤ n; rw [ba_size]; omega⟩
  · split at h
    · cases hc : quoteL l with
      | none => rw [hc] at h; cases h
      | some p =>
        rw [hc] at h
        simp only [Option.bind_some] at h
        cases hk : kindW p.1 with
        | none => rw [hk] at h; cases h
        | some k =>
          rw [hk] at h
          simp only [Option.map_some, Option.some.injEq, Prod.mk.injEq] at h
          obtain ⟨rfl, _⟩ := h
          exact ⟨he.tags, he.each, he.task, he.body⟩
    · split at h
      · cases hc : tagsL l with
        | none => rw [hc] at h; cases h
        | some p =>
          rw [hc] at h
          simp only [Option.map_some, Option.some.injEq, Prod.mk.injEq] at h
          obtain ⟨rfl, _⟩ := h
          have h1 := (list_suf (fun l x r h => (quote_suf h).1) (xs := p.1) (r := p.2) hc).2.2
          have h2 := tags_each (xs := p.1) (r := p.2) hc
          refine ⟨by show (p.1.map ba).length ≤ n; rw [List.length_map]; omega, fun t ht => ?_, he.task, he.body⟩
          obtain ⟨x, hx, rfl⟩ := List.mem_map.1 ht
          have := h2 x hx
          rw [ba_size]; omega
      · split at h
        · cases hc : quoteL l with
          | none => rw [hc] at h; cases h
          | some p =>
            rw [hc] at h
            simp only [Option.map_some, Option.some.injEq, Prod.mk.injEq] at h
            obtain ⟨rfl, _⟩ := h
            have := (quote_suf (s := p.1) (r := p.2) hc).2.2
            exact ⟨he.tags, he.each, by show (ba p.1).size ≤ n; rw [ba_size]; omega, he.body⟩
        · split at h
          · cases hc : countL l with
            | none => rw [hc] at h; cases h
            | some p =>
              rw [hc] at h
              simp only [Option.map_some, Option.some.injEq, Prod.mk.injEq] at h
              obtain ⟨rfl, _⟩ := h
              exact ⟨he.tags, he.each, he.task, he.body⟩
          · cases h
theorem step_few {n : Nat} {c : UInt8} {l nm r : List UInt8} {e e' : Ev} (hn : l.length ≤ n) (he : Few n e) (h : stepL c e l = some (nm, e', r)) : Few n e' := by
  unfold stepL at h
  split at h
  · cases h
  · rename_i r0 e0
    split at h
    · cases h
    · rename_i nm' r1 e1
      split at h
      · cases h
      · rename_i r2 e2
        cases hf : fieldL nm' e r2 with
        | none => rw [hf] at h; cases h
        | some p =>
          rw [hf] at h
          simp only [Option.map_some, Option.some.injEq, Prod.mk.injEq] at h
          obtain ⟨_, rfl, _⟩ := h
          have a0 := (sign_suf e0).2
          have a1 := (quote_suf e1).2.1
          have a2 := (sign_suf e2).2
          exact field_few (by omega) he hf
theorem steps_few {n : Nat} : ∀ (k : Nat) {c : UInt8} {e e' : Ev} {had had' : List (List UInt8)} {l r : List UInt8}, l.length ≤ n → Few n e → stepsL k c e had l = some (e', had', r) → Few n e'
  | 0, c, e, e', had, had', l, r, _, he, h => by
    simp only [stepsL, Option.some.injEq, Prod.mk.injEq] at h
    obtain ⟨rfl, _⟩ := h
    exact he
  | k + 1, c, e, e', had, had', l, r, hn, he, h => by
    simp only [stepsL] at h
    split at h
    · cases h
    · rename_i nm e1 r1 hs
      have a2 := (step_suf hs).2
      exact steps_few k (by omega) (step_few hn he hs) h
theorem event_few {l r : List UInt8} {e : Ev} (h : eventL l = some (e, r)) : Few l.length e := by
  unfold eventL at h
  split at h
  · cases h
  · rename_i e' had r0 hs
    split at h
    · cases hc : signL 125 r0 with
      | none => rw [hc] at h; cases h
      | some r2 =>
        rw [hc] at h
        simp only [Option.map_some, Option.some.injEq, Prod.mk.injEq] at h
        obtain ⟨rfl, rfl⟩ := h
        refine steps_few 5 (Nat.le_refl _) ⟨?_, ?_, ?_, ?_⟩ hs
        · show 0 ≤ _; omega
        · intro t ht; cases ht
        · show 0 ≤ _; omega
        · show 0 ≤ _; omega
    · cases h
end Chron
namespace Go.Proofs.YtdjllnhahhjgmaaGreatDoor
open Go.RowKit Chron
/- an event, and where its tags lie -/
structure Item where
  ev : Ev
  at' : Option Addr
  cap : Nat
def Item.val (i : Item) : Value := .agg #[.int .i64 i.ev.kind, .string i.ev.task, .int .i64 i.ev.time, .string i.ev.body, .slice i.at' i.ev.tags.length i.cap]
structure ItemOk (w : World) (i : Item) : Prop where
  tags : TagsAt w i.at' i.ev.tags
  short : Short i.ev.tags
  few : i.ev.tags.length * 16 ≤ 140737488351232
  task : i.ev.task.size ≤ maxLen
  body : i.ev.body.size ≤ maxLen
structure CellsAt (w : World) (b o : Nat) (i : Item) : Prop where
  c0 : w.cell? ⟨b, o, none⟩ = some (.int .i64 i.ev.kind)
  c1 : w.cell? ⟨b, o + 1, none⟩ = some (.string i.ev.task)
  c2 : w.cell? ⟨b, o + 2, none⟩ = some (.int .i64 i.ev.time)
  c3 : w.cell? ⟨b, o + 3, none⟩ = some (.string i.ev.body)
  c4 : w.cell? ⟨b, o + 4, none⟩ = some (.slice i.at' i.ev.tags.length i.cap)
def EvsAt (w : World) (a : Option Addr) (l : List Item) : Prop :=
  0 < l.length → ∃ b off, a = some ⟨b, off, none⟩ ∧ ∀ k i, l[k]? = some i → CellsAt w b (off + k * 5) i ∧ ItemOk w i
def evs (l : List Item) : List Ev := l.map (·.ev)
theorem ItemOk.below {w w' : World} {i : Item} {B : Nat} (h : ItemOk w i) (hb : Below B w w') (hB : w.heap.size ≤ B) : ItemOk w' i := ⟨h.tags.below hb hB, h.short, h.few, h.task, h.body⟩
theorem CellsAt.below {w w' : World} {b o : Nat} {i : Item} {B : Nat} (h : CellsAt w b o i) (hb : Below B w w') (hB : w.heap.size ≤ B) : CellsAt w' b o i := by
  have hlt := Nat.lt_of_lt_of_le (World.block_lt_of_cell? w _ h.c0) hB
  exact ⟨(hb.cell (p := ⟨b, o, none⟩) hlt).trans h.c0, (hb.cell (p := ⟨b, o + 1, none⟩) hlt).trans h.c1, (hb.cell (p := ⟨b, o + 2, none⟩) hlt).trans h.c2, (hb.cell (p := ⟨b, o + 3, none⟩) hlt).trans h.c3, (hb.cell (p := ⟨b, o + 4, none⟩) hlt).trans h.c4⟩
theorem EvsAt.below {w w' : World} {a : Option Addr} {l : List Item} {B : Nat} (h : EvsAt w a l) (hb : Below B w w') (hB : w.heap.size ≤ B) : EvsAt w' a l := by
  intro h0
  obtain ⟨b, off, rfl, hc⟩ := h h0
  exact ⟨b, off, rfl, fun k i hi => ⟨(hc k i hi).1.below hb hB, (hc k i hi).2.below hb hB⟩⟩
set_option maxRecDepth 100000 in
set_option maxHeartbeats 1000000 in
theorem refuse_any (a : Option Addr) (cap : Nat) (l : List Item) (w : World) (hl : Hid (EvsAt w a l)) (hn : l.length * 72 ≤ 140737488351232) :
    Calls Tryz.prog 22 #[.slice a l.length cap] w fun e w' => e = .returned (.int .i64 (expB (evs l)).2) ∧ Below w.heap.size w w' := by
  by_cases hmany : 200 < l.length
  · have HE : Hid ((expB (evs l)).2 = 5) := by show _ = _; rw [expB, if_pos (by simpa [evs] using hmany)]
    go_enter Tryz.func22, Tryz.ntmps22
    go_wp2
    go_ret
    exact ⟨ret_int HE.out.symm, Below.refl _ _⟩
  · go_enter Tryz.func22, Tryz.ntmps22
    go_wp2
    go_loopw [10] (fun i wx => ∃ k : Nat, k ≤ l.length ∧ i = .int .i64 k ∧ Hid (∀ x ∈ (evs l).take k, isB x = true) ∧ Hid (Below w.heap.size w wx)) (fun i _ => l.length - (intOf i).toNat)
    case atStart => exact ⟨0, Nat.zero_le _, rfl, by intro x hx; simp at hx, Below.refl _ _⟩
    case round =>
      obtain ⟨k, hk, rfl, HA, HW⟩ := hrel
      by_cases hlt : k < l.length
      · obtain ⟨b1, o1, rfl, hc1⟩ := hl.out.below HW.out (Nat.le_refl _) (by omega)
        obtain ⟨⟨⟨kd, tk, tm, bd, ts⟩, ta, tc⟩, hx⟩ : ∃ x, l[k]? = some x := ⟨_, List.getElem?_eq_getElem hlt⟩
        obtain ⟨⟨c0, c1, c2, c3, c4⟩, hok⟩ := hc1 k _ hx
        simp only at c0 c1 c2 c3 c4
        have HOK := hide0 hok
        have HX := hide0 hx
        clear hc1 hok hx
        have hI := is_any kd tk tm bd ta tc ts (wr.alloc (.cells #[.int .i64 kd, .string tk, .int .i64 tm, .string bd, .slice ta ts.length tc] 29)) (HOK.out.tags.alloc _) HOK.out.short (by have := HOK.out.few; unfold maxLen; simp only at this; omega) HOK.out.task HOK.out.body
        have hsz := HW.out.size
        generalize hq : isB ⟨kd, tk, tm, bd, ts⟩ = q at hI
        have HQ : Hid _ := hq
        clear hq
        have hev : (evs l)[k]? = some ⟨kd, tk, tm, bd, ts⟩ := by rw [evs, List.getElem?_map, HX.out]; rfl
        cases q
        · have HE : Hid ((expB (evs l)).2 = 2) := by
            show _ = _
            rw [expB, if_neg (by simpa [evs] using hmany), if_neg]
            rw [List.all_eq_true]
            intro h
            have := h _ (List.mem_of_getElem? hev)
            rw [HQ.out] at this
            cases this
          clear hev
          go_wp2_with fail
          refine hI.mono ?_
          rintro e w1 ⟨rfl, hb1⟩
          go_wp2
          go_ret
          exact ⟨ret_int HE.out.symm, (HW.out.alloc hsz _).trans (hb1.mono (by rw [World.size_alloc]; omega))⟩
        · have HA2 : Hid (∀ x ∈ (evs l).take (k + 1), isB x = true) := by
            intro x hx
            have hk' := (List.getElem?_eq_some_iff.1 hev).1
            rw [List.take_succ_eq_append_getElem hk', List.mem_append] at hx
            rcases hx with hx | hx
            · exact HA.out x hx
            · simp only [List.mem_singleton] at hx
              rw [List.getElem?_eq_getElem hk'] at hev
              rw [hx, Option.some.inj hev]; exact HQ.out
          clear hev
          go_wp2_with fail
          refine hI.mono ?_
          rintro e w1 ⟨rfl, hb1⟩
          have HW1 := hide0 ((HW.out.alloc hsz _).trans (hb1.mono (by rw [World.size_alloc]; omega)))
          clear hb1 hI
          go_wp2
          go_roundw
          case rel => exact ⟨k + 1, by omega, by go_num, HA2, HW1⟩
          case measure => simp [intOf]; omega
      · have HE : Hid ((expB (evs l)).2 = 0) := by
          show _ = _
          rw [expB, if_neg (by simpa [evs] using hmany), if_pos]
          rw [List.all_eq_true]
          intro x hx
          refine HA.out x ?_
          rwa [List.take_of_length_le (by simp [evs]; omega)]
        go_wp2
        go_ret
        exact ⟨ret_int HE.out.symm, HW.out⟩
end Go.Proofs.YtdjllnhahhjgmaaGreatDoor
