/- Walks and plain facts, in the order in which they lean on one another. -/
import Derived.Test.YtdjllnhahhjgmaaGreatDoorW15
import Derived.Test.YtdjllnhahhjgmaaGreatDoorW14
import Derived.Test.YtdjllnhahhjgmaaGreatDoorW02
import Derived.Test.YtdjllnhahhjgmaaGreatDoorW01
namespace Chron
open Go Go.RowKit
theorem cutF : ∀ (f : Nat) (b : Bool) (n : Nat) (p q : List UInt8), n < 128 ^ f → 0 < f → (b = true ∨ 1 ≤ n) → numF f n = p ++ q → q ≠ [] → readF f b p = none ∧ ∃ m, readF f b (p ++ [1]) = some (m, []) ∧ m ≤ max n 1
  | 0, _, _, _, _, _, h, _, _, _ => by omega
  | f + 1, b, n, p, q, hn, _, hb, he, hq => by
    cases p with
    | nil => exact ⟨rfl, 1, rfl, Nat.le_max_right _ _⟩
    | cons c p =>
      by_cases hs : n < 128
      · rw [numF_small hs] at he
        simp at he
        exact absurd he.2.2 hq
      · rw [numF_more (by omega)] at he
        simp only [List.cons_append, List.cons.injEq] at he
        obtain ⟨rfl, he⟩ := he
        have e : (UInt8.ofNat (128 + n % 128)).toNat = 128 + n % 128 := by simp; omega
        rw [Nat.pow_succ] at hn
        have hf : 0 < f := by
          rcases Nat.eq_zero_or_pos f with h0 | h0
          · subst h0; simp at hn; omega
          · exact h0
        obtain ⟨h1, m, h2, h3⟩ := cutF f false (n / 128) p q (Nat.div_lt_of_lt_mul (by omega)) hf (Or.inr (by omega)) he hq
        refine ⟨?_, n % 128 + 128 * m, ?_, ?_⟩
        · simp only [readF, e, h1]
          rw [if_neg (by omega)]
        · simp only [List.cons_append, readF, e, h2]
          rw [if_neg (by omega)]
          simp
        · omega
theorem cutNum {n : Nat} {p q : List UInt8} (hn : n < 128 ^ 9) (h : num n = p ++ q) (hq : q ≠ []) : readNum p = none ∧ ∃ m, readNum (p ++ [1]) = some (m, []) ∧ m ≤ max n 1 := by
  rw [num, numF_fuel 9 10 n (by omega) (by omega) hn] at h
  exact cutF 9 true n p q hn (by omega) (Or.inl rfl) h hq
/- where the reading has come to the end -/
def overRdr : Rdr := ⟨[], true, false⟩
theorem numR_cut {least most : Int} {n : Nat} {p q : List UInt8} (h2 : (n : Int) ≤ most) (h1 : 1 ≤ most) (h3 : n < 128 ^ 9) (h : num n = p ++ q) (hq : q ≠ []) : numR least most ⟨p, false, false⟩ = (0, overRdr) := by
  obtain ⟨a, m, b, c⟩ := cutNum h3 h hq
  simp only [numR, Rdr.stop, Bool.or_self, Bool.false_eq_true, if_false, a, cutNumR, b]
  rw [if_neg (by omega)]
  rfl
theorem numR_over (least most : Int) : numR least most overRdr = (0, overRdr) := rfl
theorem textR_over (most : Int) : textR most overRdr = ([], overRdr) := rfl
theorem bareR_over (v : Int) : bareR v overRdr = (zeroEv, overRdr) := rfl
theorem bodyR_over (old : ByteArray) : bodyR old overRdr = (noB, overRdr) := rfl
theorem evR_over (v : Int) (old : ByteArray) : (evR v old overRdr).2 = overRdr := rfl
theorem evsR_over (v : Int) : ∀ (n : Nat) (l : List Ev), (evsR v n l overRdr).2 = overRdr
  | 0, _ => rfl
  | n + 1, _ => evsR_over v n _
theorem split_pre {p q a b : List UInt8} (h : a ++ b = p ++ q) (_ : q ≠ []) : (∃ q', q' ≠ [] ∧ a = p ++ q') ∨ (∃ p', p = a ++ p' ∧ b = p' ++ q) := by
  rcases List.append_eq_append_iff.1 h with ⟨p', h1, h2⟩ | ⟨q', h1, h2⟩
  · exact .inr ⟨p', h1, h2⟩
  · cases q' with
    | nil => exact .inr ⟨[], by simpa using h1.symm, by simpa using h2.symm⟩
    | cons c r => exact .inl ⟨c :: r, by simp, h1⟩
theorem textR_cut {most : Int} {t p q : List UInt8} (h1 : (t.length : Int) ≤ most) (h0 : 1 ≤ most) (h2 : t.length < 128 ^ 9) (h : text t = p ++ q) (hq : q ≠ []) : textR most ⟨p, false, false⟩ = ([], overRdr) := by
  rcases split_pre h hq with ⟨q', hq', e⟩ | ⟨p', rfl, e⟩
  · unfold textR
    rw [numR_cut h1 h0 h2 e hq']
    rfl
  · unfold textR
    rw [numR_go (by omega) h1 h2]
    have : 0 < q.length := List.length_pos_iff.2 hq
    have hl : t.length = p'.length + q.length := by rw [e]; simp
    simp only
    rw [if_pos (by omega)]
    rfl
theorem evR_cut {v : Int} {old : ByteArray} {e : Ev} {p q : List UInt8} (h : goesB v e = true) (ho : old.size ≤ 60) (hp : evB v old e = p ++ q) (hq : q ≠ []) : (evR v old ⟨p, false, false⟩).2 = overRdr := by
  have hk := is_known (goes_is h)
  have h1 := (bare_len h).2
  have h2 := chg_len ho hk.body
  have h3 := (dec_of (bare_goes h)).2
  rcases split_pre hp hq with ⟨q', hq', e'⟩ | ⟨p', rfl, e'⟩
  · have hb : bareR v ⟨p, false, false⟩ = (zeroEv, overRdr) := by
      unfold bareR
      rw [textR_cut (by omega) (by omega) (by omega) e' hq']
      rfl
    unfold evR
    rw [hb]
    rfl
  · have hb : bareR v ⟨text (encB v (bareEv e)).1 ++ p', false, false⟩ = (bareEv e, ⟨p', false, false⟩) := by
      unfold bareR
      rw [textR_go (by omega) (by omega), h3]
      simp [Rdr.stop, bareOk, bareEv]
    have hd : bodyR old ⟨p', false, false⟩ = (noB, overRdr) := by
      unfold bodyR
      rw [textR_cut (by omega) (by omega) (by omega) e' hq]
      rfl
    unfold evR
    rw [hb, hd]
theorem evsR_cut {v : Int} : ∀ (l l0 : List Ev) (p q : List UInt8), (∀ e ∈ l, goesB v e = true) → (lastB noB l0).size ≤ 60 → evsB v (lastB noB l0) l = p ++ q → q ≠ [] → (evsR v l.length l0 ⟨p, false, false⟩).2 = overRdr
  | [], l0, p, q, _, _, h, hq => by simp [evsB] at h; exact absurd h.2 hq
  | e :: l, l0, p, q, h, ho, hp, hq => by
    have he := h e List.mem_cons_self
    have hb : lastB noB (l0 ++ [e]) = e.body := by rw [lastB_append]; rfl
    simp only [List.length_cons, evsR]
    rcases split_pre hp hq with ⟨q', hq', e'⟩ | ⟨p', rfl, e'⟩
    · rw [evR_cut he ho e' hq']
      exact evsR_over _ _ _
    · rw [evR_go he ho]
      simp only
      exact evsR_cut l (l0 ++ [e]) p' q (fun x hx => h x (List.mem_cons_of_mem _ hx)) (by rw [hb]; exact (is_known (goes_is he)).body) (by rw [hb]; exact e') hq
theorem entryR_cut {c : Chunk} {l0 : List Ev} {p q : List UInt8} (h : Good l0.length c) (ho : (lastB noB l0).size ≤ 60) (hp : entryB c.1 (lastB noB l0) c.2 = p ++ q) (hq : q ≠ []) : (entryR l0 ⟨p, false, false⟩).2 = overRdr := by
  have hv := h.ver
  have hl : 1 ≤ c.2.length := List.length_pos_iff.2 h.some
  have hf := h.few
  rw [entryB, headB, List.append_assoc] at hp
  unfold entryR
  rcases split_pre hp hq with ⟨q', hq', e'⟩ | ⟨p', rfl, e'⟩
  · rw [numR_cut (n := c.1.toNat) (by omega) (by omega) (by omega) e' hq', numR_over]
    rfl
  · rw [numR_go (by omega) (by omega) (by omega)]
    simp only
    rcases split_pre e' hq with ⟨q'', hq'', e''⟩ | ⟨p'', rfl, e''⟩
    · rw [numR_cut (n := c.2.length) (by omega) (by omega) (by omega) e'' hq'']
      rfl
    · rw [numR_go (by omega) (by omega) (by omega)]
      simp only
      rw [show ((c.1.toNat : Nat) : Int) = c.1 by omega]
      exact evsR_cut c.2 l0 p'' q h.goes ho e'' hq
/- entries, each good behind the others -/
def GoodC : Nat → List Chunk → Prop
  | _, [] => True
  | n, c :: r => Good n c ∧ GoodC (n + c.2.length) r
theorem GoodC.append : ∀ {n : Nat} {a b : List Chunk}, GoodC n (a ++ b) ↔ GoodC n a ∧ GoodC (n + (evsOf a).length) b
  | n, [], b => by simp [GoodC, evsOf]
  | n, c :: r, b => by
    simp only [List.cons_append, GoodC, evsOf, List.length_append]
    rw [GoodC.append (a := r) (b := b), ← Nat.add_assoc]
    exact ⟨fun h => ⟨⟨h.1, h.2.1⟩, h.2.2⟩, fun h => ⟨h.1.1, h.1.2, h.2⟩⟩
theorem GoodC.is : ∀ {n : Nat} {a : List Chunk}, GoodC n a → ∀ e ∈ evsOf a, isB e = true
  | _, [], _, e, he => by simp [evsOf] at he
  | n, c :: r, h, e, he => by
    simp only [evsOf, List.mem_append] at he
    rcases he with he | he
    · exact goes_is (h.1.goes e he)
    · exact GoodC.is h.2 e he
theorem GoodC.few : ∀ {n : Nat} {a : List Chunk}, GoodC n a → n ≤ 200 → n + (evsOf a).length ≤ 200
  | _, [], _, hn => by simpa [evsOf] using hn
  | n, c :: r, h, hn => by
    have h1 := h.1.few
    have := GoodC.few h.2 h1
    simp only [evsOf, List.length_append]; omega
/- a piece of an entry that is cut off; or nothing -/
def Torn (l : List Ev) (p : List UInt8) : Prop := p = [] ∨ ∃ c q, Good l.length c ∧ entryB c.1 (lastB noB l) c.2 = p ++ q ∧ q ≠ []
theorem entry_pos (v : Int) (old : ByteArray) (l : List Ev) : 2 ≤ (entryB v old l).length := by
  have h1 := num_pos v.toNat
  have h2 := num_pos l.length
  simp only [entryB, headB, List.length_append]; omega
theorem readR_go (size : Nat) : ∀ (cs : List Chunk) (f : Nat) (l : List Ev) (whole : Nat) (p : List UInt8), GoodC l.length cs → (∀ e ∈ l, isB e = true) → Torn (l ++ evsOf cs) p → (fileB (lastB noB l) cs ++ p).length ≤ f → whole = size - (fileB (lastB noB l) cs ++ p).length → (fileB (lastB noB l) cs ++ p).length ≤ size →
    readR size f l whole ⟨fileB (lastB noB l) cs ++ p, false, false⟩ = (l ++ evsOf cs, size - p.length, true)
  | [], f, l, whole, p, _, hl, ht, hf, hw, hs => by
    simp only [fileB, List.nil_append, evsOf, List.append_nil] at *
    cases f with
    | zero => rw [readR, hw]; rfl
    | succ f =>
      rw [readR]
      by_cases hp : p = []
      · subst hp; simp [hw]
      · rw [if_neg hp]
        rcases ht with ht | ⟨c, q, hg, he, hq⟩
        · exact absurd ht hp
        · rw [entryR_cut hg (lastB_size (by decide) l hl) he hq]
          simp [overRdr, Rdr.stop, hw]
  | c :: r, f, l, whole, p, hg, hl, ht, hf, hw, hs => by
    have hlast : lastB noB (l ++ c.2) = lastB (lastB noB l) c.2 := lastB_append _ _ _
    have hle := entry_pos c.1 (lastB noB l) c.2
    cases f with
    | zero => simp only [fileB, List.length_append] at hf; omega
    | succ f =>
      have hne : fileB (lastB noB l) (c :: r) ++ p ≠ [] := by
        intro h
        have := congrArg List.length h
        simp only [fileB, List.length_append, List.length_nil] at this; omega
      rw [readR]
      rw [if_neg hne]
      simp only [fileB, List.append_assoc]
      rw [entryR_go hg.1 (lastB_size (by decide) l hl)]
      simp only [Rdr.stop, Bool.or_self, Bool.false_eq_true, if_false, evsOf]
      rw [← hlast]
      have hlen : (l ++ c.2).length = l.length + c.2.length := by simp
      have e : (fileB (lastB noB l) (c :: r) ++ p).length = (entryB c.1 (lastB noB l) c.2).length + (fileB (lastB noB (l ++ c.2)) r ++ p).length := by
        rw [hlast]; simp [fileB]
      have := readR_go size r f (l ++ c.2) (size - (fileB (lastB noB (l ++ c.2)) r ++ p).length) p (by rw [hlen]; exact hg.2)
        (fun e he => by
          rcases List.mem_append.1 he with h | h
          · exact hl e h
          · exact goes_is (hg.1.goes e h))
        (by rw [List.append_assoc]; exact ht) (by rw [e] at hf; omega) rfl (by rw [e] at hs; omega)
      rw [this]
      simp
theorem readB_go {cs : List Chunk} {p : List UInt8} (hg : GoodC 0 cs) (ht : Torn (evsOf cs) p) : readB (fileB noB cs ++ p) = (evsOf cs, (fileB noB cs).length, true) := by
  have := readR_go (fileB noB cs ++ p).length cs (fileB noB cs ++ p).length [] 0 p hg (fun e he => by simp at he) ht (Nat.le_refl _) (Nat.sub_self _).symm (Nat.le_refl _)
  have e : (fileB noB cs ++ p).length - p.length = (fileB noB cs).length := by rw [List.length_append]; omega
  rw [← e]
  exact this
/- a file, cut anywhere -/
theorem fileB_cut : ∀ (cs : List Chunk) (l : List Ev) (n : Nat), GoodC l.length cs → ∃ a b p, cs = a ++ b ∧ (fileB (lastB noB l) cs).take n = fileB (lastB noB l) a ++ p ∧ Torn (l ++ evsOf a) p ∧ (fileB (lastB noB l) a).length ≤ min n (fileB (lastB noB l) cs).length ∧ (b = [] → p = []) ∧ ∀ c r, b = c :: r → min n (fileB (lastB noB l) cs).length < (fileB (lastB noB l) a).length + (entryB c.1 (lastB noB (l ++ evsOf a)) c.2).length
  | [], l, n, _ => ⟨[], [], [], rfl, by simp [fileB], .inl rfl, by simp [fileB], fun _ => rfl, fun c r h => by simp at h⟩
  | c :: r, l, n, h => by
    have hlast : lastB noB (l ++ c.2) = lastB (lastB noB l) c.2 := lastB_append _ _ _
    by_cases hn : (entryB c.1 (lastB noB l) c.2).length ≤ n
    · have hlen : (l ++ c.2).length = l.length + c.2.length := by simp
      obtain ⟨a, b, p, e1, e2, e3, e4, e5, e6⟩ := fileB_cut r (l ++ c.2) (n - (entryB c.1 (lastB noB l) c.2).length) (by rw [hlen]; exact h.2)
      rw [hlast] at e2 e4 e6
      refine ⟨c :: a, b, p, by rw [e1]; rfl, ?_, ?_, ?_, e5, ?_⟩
      · simp only [fileB, List.append_assoc]
        rw [List.take_append, List.take_of_length_le hn, e2]
      · simp only [evsOf]; rw [← List.append_assoc]; exact e3
      · simp only [fileB, List.length_append]; omega
      · intro c' r' hb
        have := e6 c' r' hb
        simp only [fileB, List.length_append, evsOf]
        rw [← List.append_assoc]
        omega
    · refine ⟨[], c :: r, (entryB c.1 (lastB noB l) c.2).take n, rfl, ?_, ?_, by simp [fileB], (by intro h; simp at h), ?_⟩
      · simp only [fileB]
        rw [List.take_append_of_le_length (by omega)]
        simp
      · refine .inr ⟨c, (entryB c.1 (lastB noB l) c.2).drop n, ?_, ?_, ?_⟩
        · simp only [evsOf, List.append_nil]; exact h.1
        · simp only [evsOf, List.append_nil]; exact (List.take_append_drop _ _).symm
        · intro hd
          have := congrArg List.length hd
          simp at this; omega
      · intro c' r' hb
        simp only [List.cons.injEq] at hb
        obtain ⟨rfl, rfl⟩ := hb
        simp only [fileB, List.length_nil, evsOf, List.append_nil, List.length_append]
        omega
end Chron
namespace Go.Proofs.YtdjllnhahhjgmaaGreatDoor
open Go.RowKit Chron
def cat (ts : List ByteArray) : List UInt8 := (ts.map (fun t => t.data.toList)).flatten
theorem cat_snoc (ts : List ByteArray) (k : Nat) (h : k < ts.length) : cat (ts.take (k + 1)) = cat (ts.take k) ++ (ts[k]?.getD ByteArray.empty).data.toList := by
  rw [List.take_succ_eq_append_getElem h]
  rw [List.getElem?_eq_getElem h]
  simp only [cat, List.map_append, List.flatten_append, List.map_cons, List.map_nil, List.flatten_cons, List.flatten_nil, List.append_nil, Option.getD_some]
theorem cat_take (ts : List ByteArray) (k : Nat) : (cat (ts.take k)).length ≤ (cat ts).length := by
  have e : cat ts = cat (ts.take k) ++ cat (ts.drop k) := by
    conv => lhs; rw [← List.take_append_drop k ts]
    simp only [cat, List.map_append, List.flatten_append]
  rw [e, List.length_append]; omega
set_option maxRecDepth 100000 in
set_option maxHeartbeats 400000 in
theorem join_any (a : Option Addr) (cap : Nat) (ts : List ByteArray) (w : World) (ht : Hid (TagsAt w a ts)) (hl : (cat ts).length ≤ 65536) (hn : ts.length ≤ 4) :
    Calls Tryz.prog 156 #[.slice a ts.length cap] w fun e w' => e = .returned (.string ⟨(cat ts).toArray⟩) ∧ Below w.heap.size w w' := by
  have HBN := hide0 (builder_new 116 5 w)
  go_enter Tryz.func156, Tryz.ntmps156
  go_wp2_with fail
  go_loopw [8] (fun i wx => ∃ n : Nat, n ≤ ts.length ∧ i = .int .i64 n ∧ Hid (Lib.IsBuilderF 116 5 w.heap.size w.heap.size (Lib.byteCells (cat (ts.take n))) wx) ∧ Hid (Below w.heap.size w wx)) (fun i _ => ts.length - (intOf i).toNat)
  case atStart => exact ⟨0, Nat.zero_le _, rfl, by simpa [cat] using HBN, (Below.refl _ _).alloc (Nat.le_refl _) _⟩
  case round =>
    obtain ⟨n, hnl, rfl, HBr, HWr⟩ := hrel
    have hlt := builder_lt HBr.out
    by_cases hlt' : n < ts.length
    · obtain ⟨q, off, rfl, hcx⟩ := ht.out (by omega)
      have hck := hcx n hlt'
      have hqlt := World.block_lt_of_cell? w _ hck
      have hck' : wr.cell? ⟨q, off + n, none⟩ = some (.string (ts[n]?.getD ByteArray.empty)) := by
        rw [HWr.out.cell (p := ⟨q, off + n, none⟩) (by simpa using hqlt)]; exact hck
      have HT := hide0 (cat_snoc ts n hlt')
      have hct := cat_take ts (n + 1)
      rw [HT.out, List.length_append] at hct
      generalize ts[n]?.getD ByteArray.empty = x at hck' HT hct
      have hxs : x.data.toList.length = x.size := rfl
      rw [hxs] at hct
      clear hcx hck hqlt hxs
      go_wp2_with fail
      refine (Tryz.Builder_WriteString_k w.heap.size w.heap.size _ x _ HBr.out (by rw [Lib.byteCells_length]; omega) (by omega)).mono ?_
      rintro e w2 ⟨rfl, hB2, hb2, hk2⟩
      rw [strCells_bytes] at hB2
      have HB2 := hide0 hB2
      clear hB2 hk2
      go_wp2
      go_roundw
      case rel => exact ⟨n + 1, by omega, by go_num, by rw [HT.out]; exact .inr HB2.out, HWr.out.trans hb2⟩
      case measure => simp [intOf]; omega
    · have HE := hide0 (List.take_of_length_le (l := ts) (i := n) (by omega))
      go_wp2_with fail
      refine (Tryz.Builder_String_any_k w.heap.size w.heap.size _ _ HBr.out (by omega)).mono ?_
      rintro e w7 ⟨rfl, hB7, hb7, hk7⟩
      go_wp2
      go_ret
      exact ⟨ret_str (by rw [HE.out]), HWr.out.trans hb7⟩
end Go.Proofs.YtdjllnhahhjgmaaGreatDoor
namespace Go.Proofs.YtdjllnhahhjgmaaGreatDoor
open Go.RowKit Chron
def seVal (p : List UInt8 × Int) : Value := .tuple #[.string ⟨p.1.toArray⟩, .int .i64 p.2]
theorem ret_se {p : List UInt8 × Int} {x : ByteArray} {y : Int} (hx : x = ⟨p.1.toArray⟩) (hy : y = p.2) : Ending.returned (.tuple #[.string x, .int .i64 y]) = .returned (seVal p) := by rw [hx, hy]; rfl
theorem ret_bad {p : List UInt8 × Int} (h : p = ([], 3)) : Ending.returned (.tuple #[.string ⟨#[]⟩, .int .i64 3]) = .returned (seVal p) := by rw [h]; rfl
theorem apply_long {o c : ByteArray} (h : 65536 < o.size ∨ 65536 < c.size) : applyB o.data.toList c.data.toList = ([], 3) := by
  rw [applyB, if_pos]; simpa using h
theorem apply_none {o c : ByteArray} (h : readNum c.data.toList = none) : applyB o.data.toList c.data.toList = ([], 3) := by
  rw [applyB]; split
  · rfl
  · rw [h]
theorem apply_none2 {o c : ByteArray} {f : Nat} {r : List UInt8} (h : readNum c.data.toList = some (f, r)) (h2 : readNum r = none) : applyB o.data.toList c.data.toList = ([], 3) := by
  rw [applyB]; split
  · rfl
  · rw [h]; simp only; rw [h2]
theorem apply_some {o c : ByteArray} {f e : Nat} {r m : List UInt8} (ho : o.size ≤ 65536) (hc : c.size ≤ 65536) (h : readNum c.data.toList = some (f, r)) (h2 : readNum r = some (e, m)) : applyB o.data.toList c.data.toList = joinB o.data.toList f e m := by
  rw [applyB, if_neg (by simp; omega), h]; simp only; rw [h2]
theorem join_bad {o : ByteArray} {f e : Nat} {m : List UInt8} (h : ¬ (f + e ≤ o.size ∧ f + m.length + e ≤ 65536)) : joinB o.data.toList f e m = ([], 3) := by
  rw [joinB, if_neg (by simpa using h)]
theorem join_good {o : ByteArray} {f e : Nat} {m : List UInt8} (h : f + e ≤ o.size ∧ f + m.length + e ≤ 65536) : joinB o.data.toList f e m = (o.data.toList.take f ++ m ++ o.data.toList.drop (o.size - e), 0) := by
  rw [joinB, if_pos (by simpa using h)]; rfl
theorem extract_front (s : ByteArray) (k : Nat) : s.extract 0 k = ⟨(s.data.toList.take k).toArray⟩ := by
  apply bytes_inj; simp [ByteArray.data_extract, Array.toList_extract, List.extract]
theorem tags_three (w : World) (a b c : ByteArray) (T : TypeId) : TagsAt (w.alloc (.cells #[.string a, .string b, .string c] T)) (some ⟨w.heap.size, 0, none⟩) [a, b, c] := by
  intro _
  refine ⟨w.heap.size, 0, rfl, fun i hi => ?_⟩
  simp only [World.cell?, heap_alloc_new]
  match i, hi with
  | 0, _ => rfl
  | 1, _ => rfl
  | 2, _ => rfl
set_option maxRecDepth 100000 in
set_option maxHeartbeats 800000 in
theorem apply_any (o c : ByteArray) (w : World) (ho : o.size ≤ maxLen) (hc : c.size ≤ maxLen) :
    Calls Tryz.prog 131 #[.string o, .string c] w fun e w' => e = .returned (seVal (applyB o.data.toList c.data.toList)) ∧ Below w.heap.size w w' := by
  have hR := fun w' => readNumber_any c w' hc
  unfold maxLen at ho hc
  by_cases h1 : 65536 < o.size
  · have HX := hide0 (apply_long (o := o) (c := c) (.inl h1))
    go_enter Tryz.func131, Tryz.ntmps131
    go_wp2
    go_ret2
    exact ⟨ret_bad HX.out, Below.refl _ _⟩
  by_cases h2 : 65536 < c.size
  · have HX := hide0 (apply_long (o := o) (c := c) (.inr h2))
    go_enter Tryz.func131, Tryz.ntmps131
    go_wp2
    go_ret2
    exact ⟨ret_bad HX.out, Below.refl _ _⟩
  rcases hq : readNum c.data.toList with _ | ⟨f, r⟩
  · have HX := hide0 (apply_none (o := o) hq)
    rw [hq] at hR
    clear hq
    go_enter Tryz.func131, Tryz.ntmps131
    go_wp2_with fail
    refine (hR _).mono ?_
    rintro e w' ⟨rfl, nq, rfl⟩
    simp only [rdVal]
    go_wp2
    go_ret2
    exact ⟨ret_bad HX.out, below_of_drewN _⟩
  have hrl : r.length ≤ c.size := by have := readNum_len hq; simpa using this
  have hR2 := fun w' => readNumber_any ⟨r.toArray⟩ w' (by unfold maxLen; show r.length ≤ _; omega)
  rw [hq] at hR
  rcases hq2 : readNum r with _ | ⟨n, m⟩
  · have HX := hide0 (apply_none2 (o := o) hq hq2)
    rw [show (⟨r.toArray⟩ : ByteArray).data.toList = r from rfl, hq2] at hR2
    clear hq hq2
    go_enter Tryz.func131, Tryz.ntmps131
    go_wp2_with fail
    refine (hR _).mono ?_
    rintro e w' ⟨rfl, nq, rfl⟩
    simp only [rdVal]
    go_wp2_with fail
    refine (hR2 _).mono ?_
    rintro e w' ⟨rfl, nq2, rfl⟩
    simp only [rdVal]
    go_wp2
    go_ret2
    exact ⟨ret_bad HX.out, below_of_drewN _⟩
  have hml : m.length ≤ r.length := by have := readNum_len hq2; simpa using this
  rw [show (⟨r.toArray⟩ : ByteArray).data.toList = r from rfl, hq2] at hR2
  have HX := hide0 (apply_some (o := o) (by omega) (by omega) hq hq2)
  have hsm : (⟨m.toArray⟩ : ByteArray).size = m.length := rfl
  clear hq hq2
  by_cases hf : o.size < f
  · have HY := hide0 (join_bad (o := o) (f := f) (e := n) (m := m) (by omega))
    go_enter Tryz.func131, Tryz.ntmps131
    go_wp2_with fail
    refine (hR _).mono ?_
    rintro e w' ⟨rfl, nq, rfl⟩
    simp only [rdVal]
    go_wp2_with fail
    refine (hR2 _).mono ?_
    rintro e w' ⟨rfl, nq2, rfl⟩
    simp only [rdVal]
    go_wp2
    go_ret2
    exact ⟨ret_bad (HX.out.trans HY.out), below_of_drewN _⟩
  by_cases hn : o.size - f < n
  · have HY := hide0 (join_bad (o := o) (f := f) (e := n) (m := m) (by omega))
    have hni : (o.size : Int) - (f : Int) < (n : Int) := by omega
    go_enter Tryz.func131, Tryz.ntmps131
    go_wp2_with fail
    refine (hR _).mono ?_
    rintro e w' ⟨rfl, nq, rfl⟩
    simp only [rdVal]
    go_wp2_with fail
    refine (hR2 _).mono ?_
    rintro e w' ⟨rfl, nq2, rfl⟩
    simp only [rdVal]
    go_wp2
    go_ret2
    exact ⟨ret_bad (HX.out.trans HY.out), below_of_drewN _⟩
  have hni : (n : Int) ≤ (o.size : Int) - (f : Int) := by omega
  by_cases hs : 65536 < f + m.length + n
  · have HY := hide0 (join_bad (o := o) (f := f) (e := n) (m := m) (by omega))
    go_enter Tryz.func131, Tryz.ntmps131
    go_wp2_with fail
    refine (hR _).mono ?_
    rintro e w' ⟨rfl, nq, rfl⟩
    simp only [rdVal]
    go_wp2_with fail
    refine (hR2 _).mono ?_
    rintro e w' ⟨rfl, nq2, rfl⟩
    simp only [rdVal]
    go_wp2
    go_ret2
    exact ⟨ret_bad (HX.out.trans HY.out), below_of_drewN _⟩
  have HY := hide0 (join_good (o := o) (f := f) (e := n) (m := m) (by omega))
  go_enter Tryz.func131, Tryz.ntmps131
  go_wp2_with fail
  refine (hR _).mono ?_
  rintro e w' ⟨rfl, nq, rfl⟩
  simp only [rdVal]
  go_wp2_with fail
  refine (hR2 _).mono ?_
  rintro e w' ⟨rfl, nq2, rfl⟩
  simp only [rdVal]
  have hJ : ∀ (X : World) (x y z : ByteArray), x = o.extract 0 f → y = ⟨m.toArray⟩ → z = o.extract (o.size - n) o.size → Calls Tryz.prog 156 #[.slice (some ⟨X.heap.size, 0, none⟩) 3 3] (X.alloc (.cells #[.string x, .string y, .string z] 9)) fun e w' => e = .returned (.string ⟨(cat [x, y, z]).toArray⟩) ∧ Below (X.heap.size + 1) (X.alloc (.cells #[.string x, .string y, .string z] 9)) w' := by
    intro X x y z hx hy hz
    have := join_any (some ⟨X.heap.size, 0, none⟩) 3 [x, y, z] _ (tags_three X x y z 9) (by subst hx hy hz; simp [cat]; omega) (by simp)
    rw [World.size_alloc] at this
    exact this
  obtain ⟨q, hq, hq2, HQ⟩ : ∃ q : Nat, IntKind.i64.wrap ((o.size : Int) - (n : Int)) = q ∧ q ≤ o.size ∧ Hid (q = o.size - n) := ⟨o.size - n, by rw [wrapI_small (by omega) (by omega)]; omega, by omega, rfl⟩
  rw [← HQ.out] at hJ
  have hfo : f ≤ o.size := by omega
  clear hR hR2
  go_wp2_with fail
  go_region_held (fun _ => True) (go_keep)
    (first | (go_at_call 156; refine (hJ _ _ _ _ (by first | rfl | go_goals) (by first | rfl | go_goals) (by first | rfl | go_goals)).mono ?_; rintro e w3 ⟨rfl, hb3⟩))
  go_wp2
  go_ret2
  refine ⟨(ret_se (p := (o.data.toList.take f ++ m ++ o.data.toList.drop (o.size - n), 0)) (by rw [extract_front, extract_end, HQ.out]; simp [cat]) rfl).trans (by rw [HX.out, HY.out]), ?_⟩
  have hbw := below_of_drewN (w := w) (nq + nq2 + 1)
  exact (hbw.alloc hbw.size _).trans (hb3.mono (Nat.le_succ_of_le hbw.size))

end Go.Proofs.YtdjllnhahhjgmaaGreatDoor
namespace Go.Proofs.YtdjllnhahhjgmaaGreatDoor
open Go.RowKit Chron
theorem make_long {o c : ByteArray} (h : 65536 < o.size ∨ 65536 < c.size) : makeB o.data.toList c.data.toList = ([], 3) := by
  rw [makeB, if_pos]; simpa using h
theorem make_eq {o c : ByteArray} {f e : Nat} (h1 : o.size ≤ 65536) (h2 : c.size ≤ 65536) (hf : fr o.data.toList c.data.toList = f) (he : en o.data.toList c.data.toList = e) :
    makeB o.data.toList c.data.toList = (num f ++ num e ++ (c.data.toList.drop f).take (c.size - f - e), 0) := by
  rw [makeB, if_neg (by simp; omega), hf, he, mid, hf, he]; rfl
set_option maxRecDepth 100000 in
set_option maxHeartbeats 3000000 in
theorem make_any (o c : ByteArray) (w : World) (ho : o.size ≤ maxLen) (hc : c.size ≤ maxLen) :
    Calls Tryz.prog 82 #[.string o, .string c] w fun e w' => e = .returned (seVal (makeB o.data.toList c.data.toList)) ∧ Below w.heap.size w w' := by
  unfold maxLen at ho hc
  by_cases h1 : 65536 < o.size
  · have HX := hide0 (make_long (o := o) (c := c) (.inl h1))
    go_enter Tryz.func82, Tryz.ntmps82
    go_wp2
    go_ret2
    exact ⟨ret_bad HX.out, Below.refl _ _⟩
  by_cases h2 : 65536 < c.size
  · have HX := hide0 (make_long (o := o) (c := c) (.inr h2))
    go_enter Tryz.func82, Tryz.ntmps82
    go_wp2
    go_ret2
    exact ⟨ret_bad HX.out, Below.refl _ _⟩
  have hF := fun w' => front_any o c w' (by omega) (by omega)
  have hfl := fr_le o.data.toList c.data.toList
  have hel := en_le o.data.toList c.data.toList
  have h3 : o.data.toList.length = o.size := rfl
  have h4 : c.data.toList.length = c.size := rfl
  rw [h3, h4] at hfl hel
  rw [show pre o.data.toList c.data.toList = fr o.data.toList c.data.toList from rfl] at hF
  obtain ⟨f, hf⟩ : ∃ f, fr o.data.toList c.data.toList = f := ⟨_, rfl⟩
  obtain ⟨n, hn⟩ : ∃ n, en o.data.toList c.data.toList = n := ⟨_, rfl⟩
  have HX := hide0 (make_eq (o := o) (c := c) (by omega) (by omega) hf hn)
  have hn2 : pre (o.data.toList.drop f).reverse (c.data.toList.drop f).reverse = n := by rw [← hf]; exact hn
  rw [hf] at hF hfl hel
  rw [hn] at hel
  obtain ⟨O, hO, hOs⟩ : ∃ O : ByteArray, o.extract f o.size = O ∧ O.data.toList = o.data.toList.drop f := ⟨_, rfl, by rw [extract_end]⟩
  obtain ⟨N, hN, hNs⟩ : ∃ N : ByteArray, c.extract f c.size = N ∧ N.data.toList = c.data.toList.drop f := ⟨_, rfl, by rw [extract_end]⟩
  have hOl : O.size = o.size - f := by have := congrArg List.length hOs; rw [List.length_drop] at this; exact this
  have hNl : N.size = c.size - f := by have := congrArg List.length hNs; rw [List.length_drop] at this; exact this
  have hE := fun w' => end_any O N w' (by omega) (by omega)
  rw [hOs, hNs, hn2] at hE
  obtain ⟨q, hq, hq2, HQ⟩ : ∃ q : Nat, IntKind.i64.wrap ((N.size : Int) - (n : Int)) = q ∧ q ≤ N.size ∧ Hid (q = c.size - f - n) := ⟨N.size - n, by rw [wrapI_small (by omega) (by omega)]; omega, by omega, by show _ = _; omega⟩
  have hNk : ∀ (k : Nat) (w' : World), k ≤ 65536 → Hid (Below w.heap.size w w') → Calls Tryz.prog 81 #[.int .i64 k] w' fun e w'' => e = .returned (.string ⟨(num k).toArray⟩) ∧ Hid (Below w.heap.size w w'') := by
    intro k w' hk HB
    refine (wireNumber_any (k : Int) w' (by omega) (by show (k : Int).toNat < 128 ^ 9; omega)).mono ?_
    rintro e w'' ⟨rfl, hb⟩
    exact ⟨by rw [Int.toNat_natCast], HB.out.trans (hb.mono HB.out.size)⟩
  have hfo : f ≤ o.size := hfl.1
  have hfc : f ≤ c.size := hfl.2
  have hl1 := num_len f
  have hl2 := num_len n
  have HNS := hide0 hNs
  have hf6 : f ≤ 65536 := by omega
  have hn6 : n ≤ 65536 := by omega
  have hN6 : N.size ≤ 65536 := by omega
  clear hf hn hn2 hOs hNs hOl hNl
  go_enter Tryz.func82, Tryz.ntmps82
  go_wp2_with fail
  refine (hF _).mono ?_
  rintro e w1 ⟨rfl, nq, rfl⟩
  go_wp2_with fail
  go_quiet (fail)
  go_wp2_with fail
  refine (hE _).mono ?_
  rintro e w1 ⟨rfl, nq2, rfl⟩
  go_wp2_with fail
  clear hF hE h3 h4
  go_region_held (fun _ => True) (go_keep)
    (first
      | (go_at_call 81; refine (hNk _ _ (by assumption) (by first | assumption | exact below_of_drewN _)).mono ?_; rintro e w3 ⟨rfl, HB3⟩))
  all_goals
    go_wp2
    go_ret2
    exact ⟨(ret_se (p := (num f ++ num n ++ (c.data.toList.drop f).take (c.size - f - n), 0)) (by rw [extract_front, HNS.out, HQ.out]; apply bytes_inj; simp) rfl).trans (by rw [HX.out]), HB3.out⟩
end Go.Proofs.YtdjllnhahhjgmaaGreatDoor
namespace Go.Proofs.YtdjllnhahhjgmaaGreatDoor
open Go.RowKit Chron
theorem lastB_get : ∀ (old : ByteArray) (l : List Ev) (n : Nat) (e : Ev), l[n]? = some e → lastB old (l.take (n + 1)) = e.body
  | _, [], _, _, h => by simp at h
  | old, x :: r, 0, e, h => by simp at h; subst h; simp [lastB]
  | old, x :: r, n + 1, e, h => by
    simp only [List.getElem?_cons_succ] at h
    rw [List.take_succ_cons, lastB]
    exact lastB_get x.body r n e h
theorem lastB_end (old : ByteArray) (l : List Ev) (e : Ev) (h : l[l.length - 1]? = some e) : lastB old l = e.body := by
  have hl := (List.getElem?_eq_some_iff.1 h).1
  have := lastB_get old l (l.length - 1) e h
  rw [show l.length - 1 + 1 = l.length by omega, List.take_length] at this
  exact this
theorem evsB_get (v : Int) : ∀ (old : ByteArray) (l : List Ev) (n : Nat) (e : Ev), l[n]? = some e → evsB v old (l.take (n + 1)) = evsB v old (l.take n) ++ evB v (lastB old (l.take n)) e
  | _, [], _, _, h => by simp at h
  | old, x :: r, 0, e, h => by simp at h; subst h; simp [evsB, lastB]
  | old, x :: r, n + 1, e, h => by
    simp only [List.getElem?_cons_succ] at h
    rw [List.take_succ_cons, List.take_succ_cons, evsB, evsB, lastB, evsB_get v x.body r n e h, List.append_assoc]
theorem text_small {l : List UInt8} (h : l.length ≤ 321) : (text l).length ≤ l.length + 2 := by
  have := num_fuel (f := 2) (k := l.length) (by omega) (by omega) (by omega)
  simp only [text, List.length_append]; omega
theorem evB_len {v : Int} {old : ByteArray} {e : Ev} (h : goesB v e = true) (ho : old.size ≤ 60) : (evB v old e).length ≤ 400 := by
  have h1 := (bare_len h).2
  have h2 := chg_len ho (is_known (goes_is h)).body
  have h3 := text_small h1
  have h4 := text_small (l := chgB old e.body) (by omega)
  simp only [evB, List.length_append]; omega
theorem evsB_len (v : Int) : ∀ (old : ByteArray) (l : List Ev), (∀ e ∈ l, goesB v e = true) → old.size ≤ 60 → (evsB v old l).length ≤ 400 * l.length
  | _, [], _, _ => by simp [evsB]
  | old, e :: r, h, ho => by
    have h1 := evB_len (h e List.mem_cons_self) ho
    have h2 := evsB_len v e.body r (fun x hx => h x (List.mem_cons_of_mem _ hx)) (is_known (goes_is (h e List.mem_cons_self))).body
    simp only [evsB, List.length_append, List.length_cons]; omega
theorem entryB_len {v : Int} {old : ByteArray} {l : List Ev} (h : ∀ e ∈ l, goesB v e = true) (ho : old.size ≤ 60) : (entryB v old l).length ≤ 400 * l.length + 20 := by
  have h1 := evsB_len v old l h ho
  have h2 := num_len v.toNat
  have h3 := num_len l.length
  simp only [entryB, headB, List.length_append]; omega
set_option maxRecDepth 100000 in
set_option maxHeartbeats 400000 in
theorem lastBody_any (a : Option Addr) (cap : Nat) (its : List Item) (w : World) (hE : Hid (EvsAt w a its)) (hl : its.length ≤ 1000000) :
    Calls Tryz.prog 54 #[.slice a its.length cap] w fun e w' => e = .returned (.string (lastB noB (evs its))) ∧ w' = w := by
  by_cases h0 : its.length = 0
  · have hn : its = [] := List.eq_nil_of_length_eq_zero h0
    subst hn
    go_enter Tryz.func54, Tryz.ntmps54
    go_wp2
    go_ret
    exact ⟨rfl, rfl⟩
  · obtain ⟨b, off, rfl, hc⟩ := hE.out (by omega)
    have hlt : its.length - 1 < its.length := by omega
    obtain ⟨hcell, _⟩ := hc (its.length - 1) its[its.length - 1] (List.getElem?_eq_getElem hlt)
    have HL : Hid (lastB noB (evs its) = its[its.length - 1].ev.body) := lastB_end noB (evs its) _ (by simp [evs, hlt])
    have hc3 := hcell.c3
    clear hc hcell
    generalize its[its.length - 1].ev.body = x at HL hc3
    obtain ⟨m, hm⟩ : ∃ m : Nat, its.length = m + 1 := ⟨its.length - 1, by omega⟩
    rw [hm] at hc3 ⊢
    simp only [Nat.add_sub_cancel] at hc3
    go_enter Tryz.func54, Tryz.ntmps54
    go_wp2
    go_ret
    exact ⟨by rw [HL.out]; rfl, rfl⟩
set_option maxRecDepth 100000 in
theorem bput_any (b : Nat) (l : List UInt8) (s : ByteArray) (w : World) (h : Hid (Lib.IsBuilderF 116 5 b b (Lib.byteCells l) w)) (hl : l.length + s.size ≤ 1000000) :
    Calls Tryz.prog 74 #[.pointer (some ⟨b, 0, none⟩), .string s] w fun e w' => (∃ r, e = .returned r) ∧ Hid (Lib.IsBuilderF 116 5 b b (Lib.byteCells (l ++ s.data.toList)) w') ∧ Below b w w' := by
  have hlt := builder_lt h.out
  refine (Tryz.Builder_WriteString_k b b _ s w h.out (by rw [Lib.byteCells_length]; omega) (by omega)).mono ?_
  rintro e w2 ⟨rfl, hB2, hb2, _⟩
  rw [strCells_bytes] at hB2
  exact ⟨⟨_, rfl⟩, Or.inr hB2, hb2⟩
/- where a writing stands: the builder, and all that was there before -/
structure Wr (w wx : World) (l : List UInt8) : Prop where
  bld : Lib.IsBuilderF 116 5 w.heap.size w.heap.size (Lib.byteCells l) wx
  bel : Below w.heap.size w wx
theorem Wr.more {w wx wy : World} {l : List UInt8} (h : Wr w wx l) (hb : Below wx.heap.size wx wy) : Wr w wy l := ⟨builder_below h.bld hb, h.bel.trans (hb.mono h.bel.size)⟩
theorem Wr.lt {w wx : World} {l : List UInt8} (h : Wr w wx l) : w.heap.size < wx.heap.size := builder_lt h.bld
theorem wput_any (w wx : World) (l : List UInt8) (s : ByteArray) (h : Hid (Wr w wx l)) (hl : l.length + s.size ≤ 1000000) :
    Calls Tryz.prog 74 #[.pointer (some ⟨w.heap.size, 0, none⟩), .string s] wx fun e w' => (∃ r, e = .returned r) ∧ Hid (Wr w w' (l ++ s.data.toList)) ∧ Below w.heap.size wx w' := by
  refine (bput_any w.heap.size l s wx h.out.bld hl).mono ?_
  rintro e w2 ⟨hr, hB, hb⟩
  exact ⟨hr, ⟨hB.out, h.out.bel.trans hb⟩, hb⟩
set_option maxRecDepth 100000 in
set_option maxHeartbeats 4000000 in
theorem write_any (v : Int) (body : ByteArray) (a : Option Addr) (cap : Nat) (its : List Item) (w : World) (hE : Hid (EvsAt w a its)) (hv1 : 1 ≤ v) (hv3 : v ≤ 3) (hb : body.size ≤ 60) (hok : Hid (∀ e ∈ evs its, goesB v e = true)) (hl : its.length ≤ 200) :
    Calls Tryz.prog 53 #[.int .i64 v, .string body, .slice a its.length cap] w fun e w' => e = .returned (.string ⟨(entryB v body (evs its)).toArray⟩) ∧ Below w.heap.size w w' := by
  have HW0 : Hid (Wr w (w.alloc (.cells #[.pointer none, .slice none 0 0] 116)) []) := ⟨builder_new _ _ w, (Below.refl _ _).alloc (Nat.le_refl _) _⟩
  have hn1 := num_len v.toNat
  have hn2 := num_len its.length
  have hN2 : ∀ w', Calls Tryz.prog 81 #[.int .i64 (its.length : Int)] w' fun e w'' => e = .returned (.string ⟨(num its.length).toArray⟩) ∧ Below w'.heap.size w' w'' := by
    intro w'
    have := wireNumber_any (its.length : Int) w' (by omega) (by show (its.length : Int).toNat < 128 ^ 9; omega)
    rw [Int.toNat_natCast] at this
    exact this
  go_enter Tryz.func53, Tryz.ntmps53
  go_wp2_with fail
  refine (wireNumber_any v _ (by omega) (by show v.toNat < 128 ^ 9; omega)).mono ?_
  rintro e w1 ⟨rfl, hb1⟩
  have HW1 := hide0 (HW0.out.more hb1)
  clear HW0 hb1
  go_wp2_with fail
  refine (wput_any w w1 _ _ HW1 (by show 0 + (num v.toNat).length ≤ _; omega)).mono ?_
  rintro e w2 ⟨⟨r2, rfl⟩, HW2, _⟩
  clear HW1
  go_wp2_with fail
  refine (hN2 _).mono ?_
  rintro e w3 ⟨rfl, hb3⟩
  have HW3 := hide0 (HW2.out.more hb3)
  clear HW2 hb3
  go_wp2_with fail
  refine (wput_any w w3 _ _ HW3 (by show ([] ++ num v.toNat).length + (num its.length).length ≤ _; simp only [List.nil_append]; omega)).mono ?_
  rintro e w4 ⟨⟨r4, rfl⟩, HW4, _⟩
  have HW5 : Hid (Wr w w4 (headB v its.length ++ evsB v body ((evs its).take 0))) := by
    have e : headB v its.length ++ evsB v body ((evs its).take 0) = [] ++ (⟨(num v.toNat).toArray⟩ : ByteArray).data.toList ++ (⟨(num its.length).toArray⟩ : ByteArray).data.toList := by simp [headB, evsB]
    rw [e]; exact HW4
  clear HW3 HW4 hN2
  have hes : (evs its).length = its.length := by simp [evs]
  go_wp2_with fail
  go_loopw [1, 23] (fun bv iv wx => ∃ n : Nat, n ≤ its.length ∧ iv = .int .i64 n ∧ bv = .string (lastB body ((evs its).take n)) ∧ Hid (Wr w wx (headB v its.length ++ evsB v body ((evs its).take n)))) (fun _ i _ => its.length - (intOf i).toNat)
  case atStart => exact ⟨0, Nat.zero_le _, rfl, rfl, HW5⟩
  case round =>
    obtain ⟨n, hn, rfl, rfl, HW⟩ := hrel
    clear HW5
    have hgd : ∀ e ∈ (evs its).take n, goesB v e = true := fun e he => hok.out e (List.mem_of_mem_take he)
    have hbn := lastB_size hb ((evs its).take n) (fun e he => goes_is (hgd e he))
    have hsz := evsB_len v body ((evs its).take n) hgd hb
    have htk : ((evs its).take n).length ≤ 200 := by rw [List.length_take]; omega
    have hhd : (headB v its.length).length ≤ 20 := by simp only [headB, List.length_append]; omega
    clear hgd
    by_cases hlt : n < its.length
    · have hEw := hE.out.below HW.out.bel (Nat.le_refl _)
      obtain ⟨g, off, rfl, hc⟩ := hEw (by omega)
      obtain ⟨hcell, hitem⟩ := hc n its[n] (List.getElem?_eq_getElem hlt)
      have hx : (evs its)[n]? = some its[n].ev := by simp [evs, hlt]
      have hgood := hok.out its[n].ev (List.mem_of_getElem? hx)
      have HX := hide0 hx
      generalize its[n] = it at hcell hitem hgood HX hx
      obtain ⟨⟨k, t, m, b, ts⟩, ia, ic⟩ := it
      obtain ⟨c0, c1, c2, c3, c4⟩ := hcell
      have hK := is_known (goes_is hgood)
      have hlines := hK.lines
      have hSh : Short ts := fun i hi => by rw [List.getElem?_eq_getElem hi]; exact Nat.le_trans (hlines _ (List.getElem_mem hi)) (by decide)
      have hbl := bare_len hgood
      have hcl := chg_len hbn hK.body
      have HG := hide0 hgood
      have ht0 := hK.task
      have hb0 := hK.body
      have hf0 := hK.few
      simp only at c0 c1 c2 c3 c4 ht0 hb0 hf0 hcl
      have htags := hitem.tags
      simp only at htags
      have HNX : Hid (headB v its.length ++ evsB v body ((evs its).take (n + 1)) = headB v its.length ++ evsB v body ((evs its).take n) ++ evB v (lastB body ((evs its).take n)) ⟨k, t, m, b, ts⟩ ∧ lastB body ((evs its).take (n + 1)) = b) := ⟨by rw [evsB_get v body (evs its) n _ hx, List.append_assoc], lastB_get body (evs its) n _ hx⟩
      have hacc : (headB v its.length ++ evsB v body ((evs its).take n)).length ≤ 90000 := by rw [List.length_append]; omega
      clear hc hK hlines hitem hx hgood hEw
      generalize lastB body ((evs its).take n) = old at *
      generalize headB v its.length ++ evsB v body ((evs its).take n) = acc at *
      have hs0 := HW.out.lt
      go_wp2_with fail
      have hM := make_any old b (wr.alloc (.cells #[.int .i64 k, .string t, .int .i64 m, .string b, .slice ia ts.length ic] 29)) (by unfold maxLen; omega) (by unfold maxLen; omega)
      refine hM.mono ?_
      rintro e w1 ⟨rfl, hb1⟩
      simp only [seVal]
      have hs1 := hb1.size
      rw [World.size_alloc] at hs1
      have hbx := (hb1.block wr.heap.size (by rw [World.size_alloc]; omega)).trans (heap_alloc_new wr _)
      obtain ⟨k0, k1, k2, k3, k4, kz⟩ := res_cells hbx
      have hB1 : Below wr.heap.size wr (w1.setCell ⟨wr.heap.size, 3, none⟩ (.string ⟨#[]⟩)) := (((Below.refl _ _).alloc (Nat.le_refl _) _).trans (hb1.mono (by simp))).setCell (Nat.le_refl _) _
      have HW1 := hide0 (HW.out.more hB1)
      have hT1 := htags.below hB1 (Nat.le_refl _)
      clear hM hB1 hb1 HW htags c0 c1 c2 c3 c4
      go_wp2_with fail
      refine (encode_any v k t m ⟨#[]⟩ ia ic ts _ hT1 hSh (by unfold maxLen; omega) (by unfold maxLen; omega) (by decide)).mono ?_
      rintro e w2 ⟨rfl, hb2⟩
      have HW2 := hide0 (HW1.out.more hb2)
      clear HW1 hT1 hb2 hbx k0 k1 k2 k3 k4 kz hSh
      have hbe : (encB v ⟨k, t, m, ⟨#[]⟩, ts⟩).1.length ≤ 321 := hbl.2
      have HEV : Hid (evB v old ⟨k, t, m, b, ts⟩ = text (encB v ⟨k, t, m, ⟨#[]⟩, ts⟩).1 ++ text (makeB old.data.toList b.data.toList).1) := rfl
      have hce : (makeB old.data.toList b.data.toList).1.length ≤ 62 := hcl
      clear hbl hcl
      generalize (encB v ⟨k, t, m, ⟨#[]⟩, ts⟩).1 = bare at *
      generalize (makeB old.data.toList b.data.toList).1 = chg at *
      have htb := text_small hbe
      have htc := text_small (l := chg) (by omega)
      go_wp2_with fail
      refine (wireText_any ⟨bare.toArray⟩ _ (by show bare.length ≤ _; omega)).mono ?_
      rintro e w3 ⟨rfl, hb3⟩
      have HW3 := hide0 (HW2.out.more hb3)
      clear HW2 hb3
      go_wp2_with fail
      refine (wput_any w w3 _ _ HW3 (by show acc.length + (text bare).length ≤ _; omega)).mono ?_
      rintro e w4 ⟨⟨r5, rfl⟩, HW4, _⟩
      clear HW3
      go_wp2_with fail
      refine (wireText_any ⟨chg.toArray⟩ _ (by show chg.length ≤ _; omega)).mono ?_
      rintro e w5 ⟨rfl, hb5⟩
      have HW5 := hide0 (HW4.out.more hb5)
      clear HW4 hb5
      go_wp2_with fail
      refine (wput_any w w5 _ _ HW5 (by show (acc ++ text bare).length + (text chg).length ≤ _; rw [List.length_append]; omega)).mono ?_
      rintro e w6 ⟨⟨r6, rfl⟩, HW6, _⟩
      clear HW5
      go_wp2
      go_roundw
      case rel => exact ⟨n + 1, by omega, by go_num, by rw [HNX.out.2], by rw [HNX.out.1, HEV.out, ← List.append_assoc]; exact HW6⟩
      case measure => simp [intOf]; omega
    · have hnn : n = its.length := by omega
      have HFIN : Hid (headB v its.length ++ evsB v body ((evs its).take n) = entryB v body (evs its)) := by
        have : (evs its).take n = evs its := by rw [hnn, ← hes, List.take_length]
        show headB v its.length ++ evsB v body ((evs its).take n) = _
        rw [this, entryB, hes]
      rw [HFIN.out] at HW
      have hs0 := HW.out.lt
      go_wp2_with fail
      refine (Tryz.Builder_String_any_k w.heap.size w.heap.size _ _ HW.out.bld (by omega)).mono ?_
      rintro e w7 ⟨rfl, _, hb7, _⟩
      go_wp2
      go_ret
      exact ⟨rfl, HW.out.bel.trans hb7⟩
end Go.Proofs.YtdjllnhahhjgmaaGreatDoor
namespace Go.Proofs.YtdjllnhahhjgmaaGreatDoor
open Go.RowKit Chron
theorem goes_three {e : Ev} (h : isB e = true) : goesB 3 e = true := by
  have h3 : isVer 3 = true := by decide
  have h4 : fitsB 3 e = true := by simp [fitsB]
  simp only [goesB, h3, h, h4, Bool.and_self]
theorem EvsAt.front {w : World} {a : Option Addr} {its : List Item} (h : EvsAt w a its) (n : Nat) : EvsAt w a (its.take n) := by
  intro h0
  obtain ⟨b, off, rfl, hc⟩ := h (by rw [List.length_take] at h0; omega)
  refine ⟨b, off, rfl, fun k i hk => hc k i ?_⟩
  have := (List.getElem?_eq_some_iff.1 hk).1
  rw [List.length_take] at this
  rw [List.getElem?_take, if_pos (by omega)] at hk
  exact hk
theorem evsAt_one (X : World) {i : Item} (hi : ItemOk X i) : EvsAt (X.alloc (.cells #[.int .i64 i.ev.kind, .string i.ev.task, .int .i64 i.ev.time, .string i.ev.body, .slice i.at' i.ev.tags.length i.cap] 29)) (some ⟨X.heap.size, 0, none⟩) [i] := by
  intro _
  refine ⟨X.heap.size, 0, rfl, fun k j hk => ?_⟩
  have hk0 : k = 0 := by
    have := (List.getElem?_eq_some_iff.1 hk).1
    simp at this; exact this
  subst hk0
  simp only [List.getElem?_cons_zero, Option.some.injEq] at hk
  subst hk
  obtain ⟨c0, c1, c2, c3, c4, _⟩ := res_cells (heap_alloc_new X (.cells #[.int .i64 i.ev.kind, .string i.ev.task, .int .i64 i.ev.time, .string i.ev.body, .slice i.at' i.ev.tags.length i.cap] 29))
  exact ⟨⟨c0, c1, c2, c3, c4⟩, hi.below ((Below.refl _ _).alloc (Nat.le_refl _) _) (Nat.le_refl _)⟩
theorem anew_get (l : List Ev) (n : Nat) (e : Ev) (h : l[n]? = some e) : fileB noB (anewC (l.take (n + 1))) = fileB noB (anewC (l.take n)) ++ entryB 3 (lastB noB (l.take n)) [e] := by
  have h1 : anewC (l.take (n + 1)) = anewC (l.take n) ++ [(3, [e])] := by
    rw [List.take_add_one, h]; simp [anewC]
  rw [h1, fileB_append, evsOf_anew]
  simp [fileB]
theorem anew_len (l : List Ev) (h : ∀ e ∈ l, isB e = true) : ∀ n, (fileB noB (anewC (l.take n))).length ≤ 420 * n
  | 0 => by simp [anewC, fileB]
  | n + 1 => by
    have ih := anew_len l h n
    by_cases hn : n < l.length
    · rw [anew_get l n l[n] (List.getElem?_eq_getElem hn), List.length_append]
      have := entryB_len (v := 3) (old := lastB noB (l.take n)) (l := [l[n]]) (fun e he => by simp at he; subst he; exact goes_three (h _ (List.getElem_mem hn))) (lastB_size (by decide) _ (fun e he => h e (List.mem_of_mem_take he)))
      simp only [List.length_singleton] at this
      omega
    · rw [List.take_of_length_le (by omega)] at ih ⊢
      omega
set_option maxRecDepth 100000 in
set_option maxHeartbeats 4000000 in
theorem writeAnew_any (a : Option Addr) (cap : Nat) (its : List Item) (w : World) (hE : Hid (EvsAt w a its)) (hok : Hid (∀ e ∈ evs its, isB e = true)) (hl : its.length ≤ 200) (hcap : its.length ≤ cap) :
    Calls Tryz.prog 38 #[.slice a its.length cap] w fun e w' => ∃ fv, e = .returned fv ∧ Hid (OwnB w' w.heap.size 5 fv (fileB noB (anewC (evs its))).length (Lib.byteCells (fileB noB (anewC (evs its))))) ∧ Below w.heap.size w w' := by
  obtain ⟨i0, hi, hz0, hz1, hz2⟩ := info_parts infoByte
  have hes : (evs its).length = its.length := by simp [evs]
  go_enter Tryz.func38, Tryz.ntmps38
  go_wp2_with fail
  go_loopw [3, 8] (fun fv iv wx => ∃ n : Nat, n ≤ its.length ∧ iv = .int .i64 n ∧ Hid (OwnB wx w.heap.size 5 fv (fileB noB (anewC ((evs its).take n))).length (Lib.byteCells (fileB noB (anewC ((evs its).take n))))) ∧ Hid (Below w.heap.size w wx)) (fun _ i _ => its.length - (intOf i).toNat)
  case atStart => exact ⟨0, Nat.zero_le _, rfl, OwnB.of (World.ownsRow_nil _ _ _ _), Below.refl _ _⟩
  case round =>
    obtain ⟨n, hn, rfl, HO, HB⟩ := hrel
    have hfl := anew_len (evs its) hok.out n
    by_cases hlt : n < its.length
    · have HEw := hide0 (hE.out.below HB.out (Nat.le_refl _))
      obtain ⟨g, off, rfl, hc⟩ := HEw.out (by omega)
      obtain ⟨hcell, hitem⟩ := hc n its[n] (List.getElem?_eq_getElem hlt)
      have hx : (evs its)[n]? = some its[n].ev := by simp [evs, hlt]
      have hgood := hok.out its[n].ev (List.mem_of_getElem? hx)
      have HF : Hid (fileB noB (anewC ((evs its).take (n + 1))) = fileB noB (anewC ((evs its).take n)) ++ entryB 3 (lastB noB ((evs its).take n)) [its[n].ev]) := anew_get _ _ _ hx
      have hold := lastB_size (old := noB) (by decide) ((evs its).take n) (fun e he => hok.out e (List.mem_of_mem_take he))
      have hel := entryB_len (v := 3) (old := lastB noB ((evs its).take n)) (l := [its[n].ev]) (fun e he => by simp at he; subst he; exact goes_three hgood) hold
      have htk : (its.take n).length = n := by rw [List.length_take]; omega
      have hLB : ∀ w', Below wr.heap.size wr w' → Calls Tryz.prog 54 #[.slice (some ⟨g, off, none⟩) n cap] w' fun e w'' => e = .returned (.string (lastB noB ((evs its).take n))) ∧ w'' = w' := by
        intro w' hb'
        have := lastBody_any (some ⟨g, off, none⟩) cap (its.take n) w' ((HEw.out.below hb' (Nat.le_refl _)).front n) (by omega)
        rw [htk] at this
        have e : evs (its.take n) = (evs its).take n := by simp [evs, List.map_take]
        rw [e] at this
        exact this
      have hWR : ∀ (X : World) (o : Obj), Below wr.heap.size wr X → X.heap[wr.heap.size]? = some o → Calls Tryz.prog 53 #[.int .i64 3, .string (lastB noB ((evs its).take n)), .slice (some ⟨X.heap.size, 0, none⟩) 1 1] (X.alloc (.cells #[.int .i64 its[n].ev.kind, .string its[n].ev.task, .int .i64 its[n].ev.time, .string its[n].ev.body, .slice its[n].at' its[n].ev.tags.length its[n].cap] 29)) fun e w'' => e = .returned (.string ⟨(entryB 3 (lastB noB ((evs its).take n)) [its[n].ev]).toArray⟩) ∧ Hid (Below wr.heap.size wr w'') ∧ w''.heap[wr.heap.size]? = some o := by
        intro X o hX hXo
        have hs := hX.size
        have hXs := (Array.getElem?_eq_some_iff.1 hXo).1
        refine (write_any 3 (lastB noB ((evs its).take n)) _ 1 [its[n]] _ (evsAt_one X (hitem.below hX (Nat.le_refl _))) (by decide) (by decide) hold (fun e he => by simp [evs] at he; subst he; exact goes_three hgood) (by simp)).mono ?_
        rintro e w'' ⟨rfl, hb''⟩
        exact ⟨rfl, (hX.alloc hs _).trans (hb''.mono (by rw [World.size_alloc]; omega)), (hb''.block _ (by rw [World.size_alloc]; omega)).trans ((Below.heap_alloc _ _ _ hXs).trans hXo)⟩
      generalize its[n] = it at hcell hitem hgood hx HF hel hWR
      obtain ⟨⟨k, t, m, b, ts⟩, ia, ic⟩ := it
      obtain ⟨c0, c1, c2, c3, c4⟩ := hcell
      simp only at c0 c1 c2 c3 c4 hWR
      simp only [List.length_singleton] at hel
      clear hc hitem hx hgood
      generalize lastB noB ((evs its).take n) = old at *
      generalize entryB 3 old [⟨k, t, m, b, ts⟩] = entry at *
      generalize fileB noB (anewC ((evs its).take n)) = file at *
      have hsz := HB.out.size
      have hbA : Below wr.heap.size wr (wr.alloc (.cells #[.int .i64 k, .string t, .int .i64 m, .string b, .slice ia ts.length ic] 29)).drew := ((Below.refl _ _).alloc (Nat.le_refl _) _).drew
      have hbB : Below wr.heap.size wr ((wr.alloc (.cells #[.int .i64 k, .string t, .int .i64 m, .string b, .slice ia ts.length ic] 29)).alloc (.cells #[.int .i64 k, .string t, .int .i64 m, .string b, .slice ia ts.length ic] 29)).drew := (((Below.refl _ _).alloc (Nat.le_refl _) _).alloc (by simp) _).drew
      have hW1 := hWR _ _ hbA (heap_alloc_new wr (.cells #[.int .i64 k, .string t, .int .i64 m, .string b, .slice ia ts.length ic] 29))
      rw [show (wr.alloc (.cells #[.int .i64 k, .string t, .int .i64 m, .string b, .slice ia ts.length ic] 29)).drew.heap.size = wr.heap.size + 1 from World.size_alloc _ _] at hW1
      obtain ⟨k0, k1, k2, k3, k4, kz⟩ := res_cells (heap_alloc_new wr (.cells #[.int .i64 k, .string t, .int .i64 m, .string b, .slice ia ts.length ic] 29))
      have hncap : ¬ ((cap : Int) < (n : Int)) := by omega
      have hn1 : file.length + (⟨entry.toArray⟩ : ByteArray).size ≤ maxLen := by show file.length + entry.length ≤ _; unfold maxLen; omega
      have hn2 : file.length + (⟨entry.toArray⟩ : ByteArray).size ≤ 140737488355328 := by show file.length + entry.length ≤ _; omega
      clear hWR
      go_wp2_with fail
      go_region_law (first
        | (have hq9 := HO7.out
           refine step_append_str _ rfl _ _ 63 9 rfl w.heap.size 5 i0 Tryz.underlying63 Tryz.underlying9 hi hz0 hz1 hz2 _ file.length (Lib.byteCells file) rfl hq9 ⟨entry.toArray⟩ rfl hn1 hn2 hs7 ?_
           clear hq9
           intro fa fc w8 hown8 hgr8 hat8)
        | (go_simp; go_at_call 54; refine (hLB _ (by first | exact hbA | exact hbB)).mono ?_; rintro e w' ⟨rfl, rfl⟩)
        | (go_simp; go_at_call 53; refine hW1.mono ?_; rintro e w7 ⟨rfl, HB7, hx7⟩; have HO7 := hide0 (HO.out.block (fun q hq => HB7.out.block q (HO.out.lt q hq).2)); have hs7 : w.heap.size ≤ w7.heap.size := Nat.le_trans hsz HB7.out.size))
      all_goals
        have HO8 : Hid (OwnB w8 w.heap.size 5 (.slice fa (file.length + entry.length) fc) (file.length + entry.length) (Lib.byteCells file ++ Lib.strCells ⟨entry.toArray⟩)) := hown8
        have HB8 := hide0 (Below.grown (HB.out.trans (HB7.out.mono hsz)) hgr8 hs7 (fun q hq => (HO7.out.lt _ hq).1))
        clear hown8 hgr8 hat8
        go_wp2
        go_roundw
        case rel => exact ⟨n + 1, by omega, by go_num, by rw [HF.out, List.length_append, ← strCells_bytes file ⟨entry.toArray⟩]; exact HO8, HB8⟩
        case measure => simp [intOf]; omega
    · have hnn : n = its.length := by omega
      have HT : Hid ((evs its).take n = evs its) := by show _ = _; rw [hnn, ← hes, List.take_length]
      rw [HT.out] at HO
      obtain ⟨fa, fc, rfl, _⟩ := HO.out.shape
      go_wp2
      go_ret
      exact ⟨_, rfl, HO, HB.out⟩
end Go.Proofs.YtdjllnhahhjgmaaGreatDoor
namespace Go.Proofs.YtdjllnhahhjgmaaGreatDoor
open Go.RowKit Chron
def refB (v : Int) (n : Nat) (l : List Ev) : Int := if isVer v = false then 1 else if 200 < n + l.length then 5 else if l.all (goesB v) = true then 0 else 2
set_option maxRecDepth 100000 in
set_option maxHeartbeats 2000000 in
theorem arefuse_any (p : Nat) (v s : Int) (fv : Value) (ea : Option Addr) (n ec : Nat) (a : Option Addr) (cap : Nat) (ls : List Item) (w : World) (hb : w.heap[p]? = some (.cells #[.int .i32 s, .int .u32 0, fv, .slice ea n ec] 78)) (hn : n ≤ 200) (hE : Hid (EvsAt w a ls)) (hl : ls.length ≤ 100000000) :
    Calls Tryz.prog 52 #[.pointer (some ⟨p, 0, none⟩), .int .i64 v, .slice a ls.length cap] w fun e w' => e = .returned (.int .i64 (refB v n (evs ls))) ∧ Below w.heap.size w w' := by
  have hes : (evs ls).length = ls.length := by simp [evs]
  obtain ⟨c0, c1, c2, c3, cz⟩ := four_cells hb
  by_cases hv : isVer v = true
  · by_cases hm : 200 < n + ls.length
    · have HR : Hid (refB v n (evs ls) = 5) := by show _ = _; rw [refB, if_neg (by simp [hv]), if_pos (by omega)]
      have hlt : 200 - (n : Int) < (ls.length : Int) := by omega
      go_enter Tryz.func52, Tryz.ntmps52
      go_wp2_with (go_at_call 79; refine (isVersion_any _ _).mono ?_; rintro e w' ⟨rfl, rfl⟩)
      go_ret
      exact ⟨by rw [HR.out]; rfl, Below.refl _ _⟩
    · have hlt : ¬ 200 - (n : Int) < (ls.length : Int) := by omega
      have HR : Hid (refB v n (evs ls) = if (evs ls).all (goesB v) = true then 0 else 2) := by show _ = _; rw [refB, if_neg (by simp [hv]), if_neg (by omega)]
      go_enter Tryz.func52, Tryz.ntmps52
      go_wp2_with (go_at_call 79; refine (isVersion_any _ _).mono ?_; rintro e w' ⟨rfl, rfl⟩)
      clear hlt
      go_loopw [23] (fun iv wx => ∃ i : Nat, i ≤ ls.length ∧ iv = .int .i64 i ∧ Hid (∀ e ∈ (evs ls).take i, goesB v e = true) ∧ Hid (Below w'.heap.size w' wx)) (fun i _ => ls.length - (intOf i).toNat)
      case atStart => exact ⟨0, Nat.zero_le _, rfl, (fun e he => by simp at he), Below.refl _ _⟩
      case round =>
        obtain ⟨i, hi, rfl, HG, HB⟩ := hrel
        by_cases hlt : i < ls.length
        · have hEw := hE.out.below HB.out (Nat.le_refl _)
          obtain ⟨g, off, rfl, hc⟩ := hEw (by omega)
          obtain ⟨hcell, hitem⟩ := hc i ls[i] (List.getElem?_eq_getElem hlt)
          have hx : (evs ls)[i]? = some ls[i].ev := by simp [evs, hlt]
          have HX := hide0 hx
          generalize ls[i] = it at hcell hitem HX hx
          obtain ⟨⟨k, t, m, b, ts⟩, ia, ic⟩ := it
          obtain ⟨d0, d1, d2, d3, d4⟩ := hcell
          obtain ⟨htg, hsh, hfw, htk, hbd⟩ := hitem
          simp only at d0 d1 d2 d3 d4 htg hsh hfw htk hbd
          have hsz := HB.out.size
          clear hc hEw hx
          go_wp2_with fail
          refine (goesInto_any v k t m b ia ic ts _ (TagsAt.alloc htg _) hsh (by unfold maxLen; omega) htk hbd).mono ?_
          rintro e w2 ⟨rfl, hb2⟩
          have HB2 := hide0 ((HB.out.alloc hsz _).trans (hb2.mono (by rw [World.size_alloc]; omega)))
          clear hb2 d0 d1 d2 d3 d4 htg hsh hfw htk hbd
          by_cases hgo : goesB v ⟨k, t, m, b, ts⟩ = true
          · have HG2 : Hid (∀ e ∈ (evs ls).take (i + 1), goesB v e = true) := by
              intro e he
              rw [List.take_add_one, HX.out] at he
              rcases List.mem_append.1 he with h | h
              · exact HG.out e h
              · simp at h; subst h; exact hgo
            rw [hgo]
            go_wp2
            go_roundw
            case rel => exact ⟨i + 1, by omega, by go_num, HG2, HB2⟩
            case measure => simp [intOf]; omega
          · have hgo' : goesB v ⟨k, t, m, b, ts⟩ = false := by simpa using hgo
            have HR2 : Hid (refB v n (evs ls) = 2) := by
              show _ = _
              rw [HR.out, if_neg]
              intro h
              rw [List.all_eq_true] at h
              have := h _ (List.mem_of_getElem? HX.out)
              rw [hgo'] at this
              cases this
            rw [hgo']
            go_wp2
            go_ret
            exact ⟨by rw [HR2.out]; rfl, HB2.out⟩
        · have HR2 : Hid (refB v n (evs ls) = 0) := by
            show _ = _
            rw [HR.out, if_pos]
            rw [List.all_eq_true]
            intro e he
            refine HG.out e ?_
            rw [List.take_of_length_le (by omega)]
            exact he
          go_wp2
          go_ret
          exact ⟨by rw [HR2.out]; rfl, HB.out⟩
  · have hv' : isVer v = false := by simpa using hv
    have HR : Hid (refB v n (evs ls) = 1) := by show _ = _; rw [refB, if_pos hv']
    clear hv
    go_enter Tryz.func52, Tryz.ntmps52
    go_wp2_with (go_at_call 79; refine (isVersion_any _ _).mono ?_; rintro e w' ⟨rfl, rfl⟩)
    go_ret
    exact ⟨by rw [HR.out]; rfl, Below.refl _ _⟩
end Go.Proofs.YtdjllnhahhjgmaaGreatDoor
