/- Walks and plain facts, in the order in which they lean on one another. -/
import Derived.WalkKit
import Derived.Laws.BitsAllLaws
import Derived.Lib.Strings
import Derived.Lib.IndexBytes
import Derived.Lib.ItoaNum
import Derived.Test.YtdjllnhahhjgmaaGreatProg
import Derived.WalkSpells
import Derived.WalkLawsBesides
import Derived.BigQuiet
import Derived.Deep.QuietTactic
import Derived.Test.YtdjllnhahhjgmaaGreatShelf
import Derived.Deep.DeepCutAuto
namespace Chron
open Go Go.RowKit

def isVer (v : Int) : Bool := decide (1 ≤ v) && decide (v ≤ 3)
def shift (v : Int) : Int := if v = 2 then 1 else 0
def byteOk (c : UInt8) : Bool := decide (32 ≤ (c.toNat : Int)) && decide ((c.toNat : Int) ≤ 126)
def lineB (s : ByteArray) : Bool := decide (s.size ≤ 60) && s.data.toList.all byteOk
def nameB (s : ByteArray) : Bool := !s.toList.isEmpty && lineB s

theorem isVer_eq {v : Int} : isVer v = decide (1 ≤ v ∧ v ≤ 3) := by simp [isVer]
theorem shift_two {v : Int} (h : v = 2) : shift v = 1 := by simp [shift, h]
theorem shift_not {v : Int} (h : ¬ v = 2) : shift v = 0 := by simp [shift, h]
theorem take_snoc (s : ByteArray) (k : Nat) (h : k < s.size) : s.data.toList.take (k + 1) = s.data.toList.take k ++ [s[k]] := by
  rw [List.take_succ_eq_append_getElem (by simpa using h)]; rfl
theorem all_step (s : ByteArray) (k : Nat) (h : k < s.size) (ha : (s.data.toList.take k).all byteOk = true) (h1 : 32 ≤ (s[k].toNat : Int)) (h2 : (s[k].toNat : Int) ≤ 126) :
    (s.data.toList.take (k + 1)).all byteOk = true := by
  rw [take_snoc s k h, List.all_append, ha]; simp [byteOk, h1, h2]
theorem all_fails (s : ByteArray) (k : Nat) (h : k < s.size) (h1 : (s[k].toNat : Int) < 32 ∨ 126 < (s[k].toNat : Int)) : lineB s = false := by
  have hm : s[k] ∈ s.data.toList := by
    have : s.data.toList[k]'(by simpa using h) = s[k] := rfl
    rw [← this]; exact List.getElem_mem _
  have hb : byteOk s[k] = false := by
    unfold byteOk; rcases h1 with h1 | h1
    · rw [decide_eq_false (by omega)]; rfl
    · rw [decide_eq_false (p := (s[k].toNat : Int) ≤ 126) (by omega)]; simp
  have : s.data.toList.all byteOk = false := by
    rw [List.all_eq_false]; exact ⟨_, hm, by simp [hb]⟩
  simp [lineB, this]
theorem line_long {s : ByteArray} (h : 60 < s.size) : lineB s = false := by
  simp [lineB]; omega
theorem line_done {s : ByteArray} {k : Nat} (h : s.size ≤ 60) (hk : s.size ≤ k) (ha : (s.data.toList.take k).all byteOk = true) : lineB s = true := by
  rw [List.take_of_length_le (by simpa using hk)] at ha
  simp only [lineB, ha, Bool.and_true, decide_eq_true_eq]; exact h


/- numbers as bytes -/
def numF : Nat → Nat → List UInt8
  | 0, _ => []
  | f + 1, n => if n < 128 then [UInt8.ofNat n] else UInt8.ofNat (128 + n % 128) :: numF f (n / 128)
def num (n : Nat) : List UInt8 := numF 10 n
def text (s : List UInt8) : List UInt8 := num s.length ++ s

theorem numF_small {f n : Nat} (h : n < 128) : numF (f + 1) n = [UInt8.ofNat n] := by simp [numF, h]
theorem numF_more {f n : Nat} (h : 128 ≤ n) : numF (f + 1) n = UInt8.ofNat (128 + n % 128) :: numF f (n / 128) := by
  simp [numF, Nat.not_lt.2 h]
theorem numF_len (f n : Nat) : (numF f n).length ≤ f := by
  induction f generalizing n with
  | zero => simp [numF]
  | succ f ih => unfold numF; split
                 · simp
                 · have := ih (n / 128); simp; omega
theorem num_len (n : Nat) : (num n).length ≤ 10 := numF_len 10 n
theorem or_fin : ∀ x : Fin 256, bits .or .u8 ((x.val : Nat) : Int) 128 = ((128 + x.val % 128 : Nat) : Int) := by decide +kernel
theorem or_byte (k : Int) (h : 0 ≤ k) : bits .or .u8 (k % 256) 128 = (((UInt8.ofNat (128 + k.toNat % 128)).toNat : Nat) : Int) := by
  obtain ⟨n, rfl⟩ := Int.eq_ofNat_of_zero_le h
  have := or_fin ⟨n % 256, by omega⟩
  simp only [] at this
  rw [show ((n : Int) % 256) = ((n % 256 : Nat) : Int) by omega, this]
  simp
  omega
/- one step of the loop that writes a number -/
theorem num_step {n : Nat} {k : Int} {acc : List UInt8} {f : Nat} (hk : 128 ≤ k) (hl : acc.length + f = 9) (hb : k.toNat < 128 ^ f) (he : acc ++ numF (f + 1) k.toNat = num n) :
    ∃ g, (acc ++ [UInt8.ofNat (128 + k.toNat % 128)]).length + g = 9 ∧ (k / 128).toNat < 128 ^ g ∧ (acc ++ [UInt8.ofNat (128 + k.toNat % 128)]) ++ numF (g + 1) (k / 128).toNat = num n := by
  match f, hb with
  | 0, hb => simp at hb; omega
  | g + 1, hb =>
    have hd : (k / 128).toNat = k.toNat / 128 := by omega
    refine ⟨g, by simp; omega, ?_, ?_⟩
    · rw [hd]; rw [Nat.pow_succ] at hb; exact Nat.div_lt_of_lt_mul (by omega)
    · rw [hd, ← he, numF_more (f := g + 1) (by omega)]; simp
theorem num_last {n : Nat} {k : Int} {acc : List UInt8} {f : Nat} (h0 : 0 ≤ k) (hk : k < 128) (he : acc ++ numF (f + 1) k.toNat = num n) : num n = acc ++ [UInt8.ofNat k.toNat] := by
  rw [← he, numF_small (by omega)]

/- numbers read from bytes: place by place, the lowest seven bits first -/
def readF : Nat → Bool → List UInt8 → Option (Nat × List UInt8)
  | 0, _, _ => none
  | _ + 1, _, [] => none
  | f + 1, first, c :: r =>
    if c.toNat < 128 then (if c.toNat = 0 ∧ first = false then none else some (c.toNat, r))
    else match readF f false r with
      | none => none
      | some (n, r') => some (c.toNat - 128 + 128 * n, r')
def readNum (l : List UInt8) : Option (Nat × List UInt8) := readF 9 true l
/- what is read behind n, which k bytes have told -/
def lift (n k : Nat) : Option (Nat × List UInt8) → Option (Nat × List UInt8)
  | none => none
  | some (m, r) => some (n + 128 ^ k * m, r)

theorem andNot_fin : ∀ x : Fin 256, bits .andNot .u8 ((x.val : Nat) : Int) 128 = ((x.val % 128 : Nat) : Int) := by decide +kernel
theorem andNot_byte (c : UInt8) : bits .andNot .u8 (c.toNat : Int) 128 = ((c.toNat % 128 : Nat) : Int) := andNot_fin ⟨c.toNat, c.toNat_lt⟩
theorem wrap_small {n : Int} (h0 : 0 ≤ n) (h1 : n < 9223372036854775808) : wrap64 n = n := by unfold wrap64; omega
theorem i64_or (a b : Nat) (ha : a < 9223372036854775808) (hb : b < 9223372036854775808) : bits .or .i64 (a : Int) (b : Int) = ((a ||| b : Nat) : Int) := by
  have hx : a ||| b < 2 ^ 63 := Nat.or_lt_two_pow (by omega) (by omega)
  show IntKind.i64.wrap ((BitVec.ofInt 64 (a : Int) ||| BitVec.ofInt 64 (b : Int)).toNat : Int) = _
  rw [BitVec.toNat_or, ofInt_u64 a (by omega), ofInt_u64 b (by omega)]
  simp [IntKind.wrap, IntKind.bits, IntKind.signed]
  omega
theorem pow_split (k : Nat) : (2 : Nat) ^ (7 * k) = 128 ^ k := by rw [Nat.pow_mul]
theorem pow_le8 {k : Nat} (h : k < 9) : (128 : Nat) ^ k ≤ 128 ^ 8 := Nat.pow_le_pow_right (by omega) (by omega)
theorem or_step {n k : Nat} (c : UInt8) (hk : k < 9) (hn : n < 128 ^ k) :
    bits .or .i64 (n : Int) (wrap64 (wrap64 (bits .andNot .u8 (c.toNat : Int) 128) * 2 ^ (7 * k))) = ((n + c.toNat % 128 * 128 ^ k : Nat) : Int) := by
  have h8 := pow_le8 hk
  have hc : c.toNat % 128 < 128 := Nat.mod_lt _ (by omega)
  have hm : c.toNat % 128 * 128 ^ k ≤ 127 * 128 ^ 8 := Nat.mul_le_mul (by omega) h8
  rw [andNot_byte, wrap_small (n := ((c.toNat % 128 : Nat) : Int)) (by omega) (by omega)]
  have e : ((c.toNat % 128 : Nat) : Int) * 2 ^ (7 * k) = ((c.toNat % 128 * 128 ^ k : Nat) : Int) := by
    rw [← pow_split k]; simp
  rw [e, wrap_small (by omega) (by omega), i64_or _ _ (by omega) (by omega)]
  have ho := Nat.shiftLeft_add_eq_or_of_lt (b := n) (i := 7 * k) (by rw [pow_split]; exact hn) (c.toNat % 128)
  rw [Nat.shiftLeft_eq, pow_split] at ho
  rw [Nat.or_comm, ← ho, Nat.add_comm]
theorem drop_cons (s : ByteArray) (k : Nat) (h : k < s.size) : s.data.toList.drop k = s[k] :: s.data.toList.drop (k + 1) := by
  rw [List.drop_eq_getElem_cons (by simpa using h)]; rfl
theorem bytes_inj {a b : ByteArray} (h : a.data.toList = b.data.toList) : a = b := by
  obtain ⟨⟨a⟩⟩ := a; obtain ⟨⟨b⟩⟩ := b; simp at h; rw [h]
theorem mk_append (l : List UInt8) (s : ByteArray) : (⟨l.toArray⟩ ++ s : ByteArray) = ⟨(l ++ s.data.toList).toArray⟩ := by
  apply bytes_inj; obtain ⟨⟨s⟩⟩ := s; simp
theorem extract_end (s : ByteArray) (k : Nat) : s.extract k s.size = ⟨(s.data.toList.drop k).toArray⟩ := by
  apply bytes_inj; rw [Lib.extract_to_end]
def first (k : Nat) : Bool := decide (k = 0)
def Reads (l : List UInt8) (n k : Nat) : Prop := n < 128 ^ k ∧ readNum l = lift n k (readF (9 - k) (first k) (l.drop k))
theorem reads_start (l : List UInt8) : Reads l 0 0 := by
  refine ⟨by simp, ?_⟩
  show readF 9 true l = lift 0 0 (readF 9 true l)
  rcases readF 9 true l with _ | ⟨m, r⟩ <;> simp [lift]
theorem reads_more {s : ByteArray} {n k : Nat} (h : Reads s.data.toList n k) (hk : k < 9) (hlt : k < s.size) (hc : 128 ≤ (s[k].toNat : Int)) :
    Reads s.data.toList (n + s[k].toNat % 128 * 128 ^ k) (k + 1) := by
  obtain ⟨h1, h2⟩ := h
  have hb : s[k].toNat < 256 := s[k].toNat_lt
  have hm : s[k].toNat % 128 = s[k].toNat - 128 := by omega
  refine ⟨?_, ?_⟩
  · rw [Nat.pow_succ]
    have : s[k].toNat % 128 * 128 ^ k ≤ 127 * 128 ^ k := Nat.mul_le_mul_right _ (by omega)
    omega
  · rw [h2, drop_cons s k hlt, show 9 - k = (8 - k) + 1 by omega, show 9 - (k + 1) = 8 - k by omega]
    rw [readF, if_neg (by omega), show first (k + 1) = false by simp [first]]
    rcases readF (8 - k) false (s.data.toList.drop (k + 1)) with _ | ⟨m, r⟩
    · rfl
    · simp only [lift]
      rw [hm, Nat.pow_succ]
      congr 2
      rw [Nat.mul_add, Nat.mul_comm (128 ^ k) (s[k].toNat - 128), ← Nat.mul_assoc, Nat.add_assoc]
theorem reads_zero {s : ByteArray} {n k : Nat} (h : Reads s.data.toList n k) (hk : k < 9) (hlt : k < s.size) (hc : s[k].toNat = 0) (h0 : 0 < k) : readNum s.data.toList = none := by
  rw [h.2, drop_cons s k hlt, show 9 - k = (8 - k) + 1 by omega, readF, if_pos (by omega), if_pos ⟨hc, by simp [first]; omega⟩]; rfl
theorem reads_last {s : ByteArray} {n k : Nat} (h : Reads s.data.toList n k) (hk : k < 9) (hlt : k < s.size) (hc : (s[k].toNat : Int) < 128) (h0 : ¬ (s[k].toNat = 0 ∧ 0 < k)) :
    readNum s.data.toList = some (n + s[k].toNat % 128 * 128 ^ k, s.data.toList.drop (k + 1)) := by
  rw [h.2, drop_cons s k hlt, show 9 - k = (8 - k) + 1 by omega, readF, if_pos (by omega), if_neg (by simp [first]; omega)]
  simp only [lift]
  rw [Nat.mod_eq_of_lt (by omega), Nat.mul_comm]
theorem reads_end {s : ByteArray} {n k : Nat} (h : Reads s.data.toList n k) (hk : ¬ (k < s.size ∧ k < 9)) : readNum s.data.toList = none := by
  rw [h.2]
  by_cases h9 : k < 9
  · rw [List.drop_of_length_le (by simp; omega), show 9 - k = (8 - k) + 1 by omega, readF]; rfl
  · rw [show 9 - k = 0 by omega, readF]; rfl
def readTx (l : List UInt8) : Option (List UInt8 × List UInt8) :=
  match readNum l with
  | none => none
  | some (n, r) => if n ≤ r.length then some (r.take n, r.drop n) else none
theorem readF_len : ∀ (f : Nat) (b : Bool) (l : List UInt8) (n : Nat) (r : List UInt8), readF f b l = some (n, r) → r.length < l.length
  | 0, _, _, _, _, h => by simp [readF] at h
  | f + 1, _, [], _, _, h => by simp [readF] at h
  | f + 1, b, c :: l, n, r, h => by
    unfold readF at h
    split at h
    · split at h
      · cases h
      · simp only [Option.some.injEq, Prod.mk.injEq] at h
        rw [← h.2]; simp
    · rcases hq : readF f false l with _ | ⟨m, r'⟩
      · rw [hq] at h; cases h
      · rw [hq] at h
        simp only [Option.some.injEq, Prod.mk.injEq] at h
        have := readF_len f false l m r' hq
        rw [← h.2]; simp; omega
theorem readNum_len {l : List UInt8} {n : Nat} {r : List UInt8} (h : readNum l = some (n, r)) : r.length ≤ l.length := Nat.le_of_lt (readF_len 9 true l n r h)
theorem readTx_some {l : List UInt8} {n : Nat} {r : List UInt8} (h : readNum l = some (n, r)) (hn : n ≤ r.length) : readTx l = some (r.take n, r.drop n) := by
  rw [readTx, h]; simp [hn]
theorem extract_mk_take (r : List UInt8) (n : Nat) : (⟨r.toArray⟩ : ByteArray).extract 0 n = ⟨(r.take n).toArray⟩ := by
  apply bytes_inj; rw [Lib.extract_data]; simp
theorem extract_mk_drop (r : List UInt8) (n : Nat) : (⟨r.toArray⟩ : ByteArray).extract n (⟨r.toArray⟩ : ByteArray).size = ⟨(r.drop n).toArray⟩ := by
  apply bytes_inj; rw [Lib.extract_to_end]
/- tags -/
def tagOk (ts : List ByteArray) (i : Nat) : Bool :=
  nameB (ts[i]?.getD ByteArray.empty) && (decide (i = 0) || Op.bytesLess (ts[i - 1]?.getD ByteArray.empty).toList (ts[i]?.getD ByteArray.empty).toList)
def tagsB (ts : List ByteArray) : Bool := decide (ts.length ≤ 4) && (List.range ts.length).all (tagOk ts)
theorem tags_many {ts : List ByteArray} (h : 4 < ts.length) : tagsB ts = false := by simp [tagsB]; omega
theorem tags_all {ts : List ByteArray} {k : Nat} (h4 : ts.length ≤ 4) (hk : ts.length ≤ k) (h : ∀ j, j < k → tagOk ts j = true) : tagsB ts = true := by
  simp only [tagsB, Bool.and_eq_true, decide_eq_true_eq, List.all_eq_true, List.mem_range]
  exact ⟨h4, fun j hj => h j (by omega)⟩
theorem tags_not {ts : List ByteArray} {k : Nat} (hk : k < ts.length) (h : tagOk ts k = false) : tagsB ts = false := by
  have : (List.range ts.length).all (tagOk ts) = false := by
    rw [List.all_eq_false]; exact ⟨k, by simpa using hk, by simp [h]⟩
  simp [tagsB, this]
theorem tag_first {ts : List ByteArray} {k : Nat} {t : ByteArray} {x : Bool} (h : tagOk ts k = (nameB t && (decide (k = 0) || x))) (hn : nameB t = true) (hk : ¬ 0 < k) : tagOk ts k = true := by
  rw [h, hn]; simp; left; omega
theorem tag_rise {ts : List ByteArray} {k : Nat} {t : ByteArray} {x : Bool} (h : tagOk ts k = (nameB t && (decide (k = 0) || x))) (hn : nameB t = true) (hx : (!x) = false) : tagOk ts k = true := by
  rw [h, hn]; simp at hx; simp [hx]
theorem tag_fall {ts : List ByteArray} {k : Nat} {t : ByteArray} {x : Bool} (h : tagOk ts k = (nameB t && (decide (k = 0) || x))) (hk : 0 < k) (hx : (!x) = true) : tagOk ts k = false := by
  rw [h]; simp at hx; simp [hx]; omega
theorem tag_bad {ts : List ByteArray} {k : Nat} {t : ByteArray} {x : Bool} (h : tagOk ts k = (nameB t && (decide (k = 0) || x))) (hn : nameB t = false) : tagOk ts k = false := by
  rw [h, hn]; simp
theorem tag_next {ts : List ByteArray} {k : Nat} (h : ∀ j, j < k → tagOk ts j = true) (hk : tagOk ts k = true) : ∀ j, j < k + 1 → tagOk ts j = true := by
  intro j hj
  rcases Nat.lt_or_ge j k with h1 | h1
  · exact h j h1
  · rw [show j = k by omega]; exact hk
/- an event -/
structure Ev where
  kind : Int
  task : ByteArray
  time : Int
  body : ByteArray
  tags : List ByteArray
def isB (e : Ev) : Bool :=
  decide (1 ≤ e.kind) && (decide (e.kind ≤ 4) && (nameB e.task && (decide (0 ≤ e.time) && (decide (e.time ≤ 1125899906842624) && (lineB e.body && tagsB e.tags)))))
def dashB (t : ByteArray) : Bool := t.toList == [45]
def fitsB (v : Int) (e : Ev) : Bool :=
  !(decide (v ≤ 2) && decide (0 < e.tags.length)) && (decide (1 < v) || (decide (e.time = 0) && (decide (e.kind ≠ 4) && !dashB e.task)))
def goesB (v : Int) (e : Ev) : Bool := isVer v && (isB e && fitsB v e)
theorem shift_bd (v : Int) : 0 ≤ shift v ∧ shift v ≤ 1 := by unfold shift; split <;> omega
theorem wrapI_small {n : Int} (h0 : -9223372036854775808 ≤ n) (h1 : n < 9223372036854775808) : IntKind.i64.wrap n = n := by
  simp [IntKind.wrap, IntKind.bits, IntKind.signed]; omega
end Chron
namespace Chron
open Go Go.RowKit
/- the bytes of an event -/
def timePart (m : Int) : List UInt8 := if m = 0 then [] else num 3 ++ num m.toNat
def bodyPart (b : ByteArray) : List UInt8 := if b.toList = [] then [] else num 4 ++ text b.data.toList
def tagPart (t : ByteArray) : List UInt8 := num 5 ++ text t.data.toList
def tagParts (ts : List ByteArray) : List UInt8 := (ts.map tagPart).flatten
def front (j : Nat) (t : ByteArray) : List UInt8 := num 1 ++ num j ++ (num 2 ++ text t.data.toList)
def fieldsB (v : Int) (e : Ev) : List UInt8 := front (e.kind - shift v).toNat e.task ++ timePart e.time ++ bodyPart e.body ++ tagParts e.tags
def Lines (ts : List ByteArray) : Prop := ∀ t ∈ ts, t.size ≤ 60
theorem text_len (l : List UInt8) : (text l).length ≤ l.length + 10 := by have := num_len l.length; simp [text]; omega
theorem front_len (j : Nat) (t : ByteArray) (h : t.size ≤ 60) : (front j t).length ≤ 100 := by
  have h1 := num_len 1; have h2 := num_len 2; have h3 := num_len j; have h4 := text_len t.data.toList
  have h5 : t.data.toList.length = t.size := by simp
  simp only [front, List.length_append]; omega
theorem timePart_len (m : Int) : (timePart m).length ≤ 20 := by
  have h1 := num_len 3; have h2 := num_len m.toNat
  unfold timePart; split <;> simp; omega
theorem bodyPart_len (b : ByteArray) (h : b.size ≤ 60) : (bodyPart b).length ≤ 80 := by
  have h1 := num_len 4; have h4 := text_len b.data.toList
  have h5 : b.data.toList.length = b.size := by simp
  unfold bodyPart; split
  · simp
  · simp only [List.length_append]; omega
theorem tagPart_len (t : ByteArray) (h : t.size ≤ 60) : (tagPart t).length ≤ 80 := by
  have h1 := num_len 5; have h4 := text_len t.data.toList
  have h5 : t.data.toList.length = t.size := by simp
  simp only [tagPart, List.length_append]; omega
theorem tagParts_len : ∀ (ts : List ByteArray), Lines ts → (tagParts ts).length ≤ 80 * ts.length
  | [], _ => by simp [tagParts]
  | t :: ts, h => by
    have h1 := tagPart_len t (h t (by simp))
    have h2 := tagParts_len ts (fun x hx => h x (by simp [hx]))
    simp only [tagParts, List.map_cons, List.flatten_cons, List.length_append, List.length_cons] at h2 ⊢
    omega
theorem tagParts_snoc (ts : List ByteArray) (k : Nat) (h : k < ts.length) : tagParts (ts.take (k + 1)) = tagParts (ts.take k) ++ tagPart (ts[k]?.getD ByteArray.empty) := by
  rw [List.take_succ_eq_append_getElem h]
  simp only [tagParts, List.map_append, List.map_cons, List.map_nil, List.flatten_append, List.flatten_cons, List.flatten_nil, List.append_nil]
  rw [List.getElem?_eq_getElem h]; rfl
theorem Lines.take {ts : List ByteArray} (h : Lines ts) (k : Nat) : Lines (ts.take k) := fun t ht => h t (List.mem_of_mem_take ht)
theorem Lines.get {ts : List ByteArray} (h : Lines ts) {i : Nat} (hi : i < ts.length) : (ts[i]?.getD ByteArray.empty).size ≤ 60 := by
  rw [List.getElem?_eq_getElem hi]; exact h _ (List.getElem_mem hi)
def letterOf (k : Int) : UInt8 := if k = 1 then 98 else if k = 2 then 100 else 102
def letterB (e : Ev) : List UInt8 := letterOf e.kind :: text e.task.data.toList ++ e.body.data.toList
def encB (v : Int) (e : Ev) : List UInt8 × Int :=
  if isVer v = false then ([], 1) else if goesB v e = false then ([], 2) else if v = 1 then (letterB e, 0) else (fieldsB v e, 0)
theorem letter_cases {k : Int} (h1 : 1 ≤ k) (h4 : k ≤ 4) (h : ¬ k = 4) : k = 1 ∧ letterOf k = 98 ∨ k = 2 ∧ letterOf k = 100 ∨ k = 3 ∧ letterOf k = 102 := by
  have : k = 1 ∨ k = 2 ∨ k = 3 := by omega
  rcases this with rfl | rfl | rfl <;> simp [letterOf]
theorem letter_eq {e b : ByteArray} {c : UInt8} {x : List UInt8} (he : e.data.toList = [c]) : e ++ ⟨x.toArray⟩ ++ b = ⟨(c :: x ++ b.data.toList).toArray⟩ := by
  apply bytes_inj
  obtain ⟨⟨e⟩⟩ := e; obtain ⟨⟨b⟩⟩ := b
  simp at he; subst he; simp
/- what is known of an event -/
structure Known (e : Ev) : Prop where
  k1 : 1 ≤ e.kind
  k4 : e.kind ≤ 4
  task : e.task.size ≤ 60
  named : e.task.toList ≠ []
  t0 : 0 ≤ e.time
  t1 : e.time ≤ 1125899906842624
  body : e.body.size ≤ 60
  few : e.tags.length ≤ 4
  lines : Lines e.tags
theorem line_size {s : ByteArray} (h : lineB s = true) : s.size ≤ 60 := by simp [lineB] at h; exact h.1
theorem name_size {s : ByteArray} (h : nameB s = true) : s.size ≤ 60 := by simp only [nameB, Bool.and_eq_true] at h; exact line_size h.2
theorem name_ne {s : ByteArray} (h : nameB s = true) : s.toList ≠ [] := by simp [nameB] at h; exact h.1
theorem tags_known {ts : List ByteArray} (h : tagsB ts = true) : ts.length ≤ 4 ∧ Lines ts := by
  simp only [tagsB, Bool.and_eq_true, decide_eq_true_eq, List.all_eq_true, List.mem_range] at h
  refine ⟨h.1, fun t ht => ?_⟩
  obtain ⟨i, hi, rfl⟩ := List.getElem_of_mem ht
  have := h.2 i hi
  simp only [tagOk, Bool.and_eq_true] at this
  have h1 := name_size this.1
  rw [List.getElem?_eq_getElem hi] at h1
  exact h1
theorem is_known {e : Ev} (h : isB e = true) : Known e := by
  simp only [isB, Bool.and_eq_true, decide_eq_true_eq] at h
  obtain ⟨h1, h2, h3, h4, h5, h6, h7⟩ := h
  exact ⟨h1, h2, name_size h3, name_ne h3, h4, h5, line_size h6, (tags_known h7).1, (tags_known h7).2⟩
theorem goes_is {v : Int} {e : Ev} (h : goesB v e = true) : isB e = true := by simp only [goesB, Bool.and_eq_true] at h; exact h.2.1
theorem goes_ver {v : Int} {e : Ev} (h : goesB v e = true) : isVer v = true := by simp only [goesB, Bool.and_eq_true] at h; exact h.1
theorem goes_one {e : Ev} (h : goesB 1 e = true) : ¬ e.kind = 4 ∧ e.time = 0 ∧ e.tags.length = 0 ∧ dashB e.task = false := by
  simp [goesB, fitsB] at h
  obtain ⟨_, _, h1, h2, h3, h4⟩ := h
  exact ⟨h3, h2, by rw [h1]; rfl, h4⟩
theorem time_small {m : Int} (h : m ≤ 1125899906842624) : m.toNat < 128 ^ 9 := by omega
end Chron
namespace Chron
open Go Go.RowKit
def escB (c : UInt8) : List UInt8 := if c = 34 ∨ c = 92 then [92, c] else [c]
def inQ (s : List UInt8) : List UInt8 := s.flatMap escB
def qB (s : List UInt8) : List UInt8 := 34 :: (inQ s ++ [34])
theorem escB_len (c : UInt8) : (escB c).length ≤ 2 := by unfold escB; split <;> simp
theorem inQ_len (s : List UInt8) : (inQ s).length ≤ 2 * s.length := by
  induction s with
  | nil => simp [inQ]
  | cons c s ih => have := escB_len c; simp only [inQ, List.flatMap_cons, List.length_append, List.length_cons] at *; omega
theorem qB_len (s : List UInt8) : (qB s).length ≤ 2 * s.length + 2 := by have := inQ_len s; simp [qB]; omega
theorem inQ_take (s : ByteArray) (k : Nat) (h : k < s.size) : inQ (s.data.toList.take (k + 1)) = inQ (s.data.toList.take k) ++ escB s[k] := by
  rw [take_snoc s k h, inQ, inQ, List.flatMap_append]; simp
theorem esc_yes {c : UInt8} (h : (c.toNat : Int) = 34 ∨ (c.toNat : Int) = 92) : escB c = [92, c] := by
  have : c = 34 ∨ c = 92 := by
    rcases h with h | h
    · exact .inl (UInt8.toNat_inj.1 (by simpa using (by omega : c.toNat = 34)))
    · exact .inr (UInt8.toNat_inj.1 (by simpa using (by omega : c.toNat = 92)))
  simp [escB, this]
theorem esc_no {c : UInt8} (h1 : ¬ (c.toNat : Int) = 34) (h2 : ¬ (c.toNat : Int) = 92) : escB c = [c] := by
  have : ¬ (c = 34 ∨ c = 92) := by
    rintro (rfl | rfl)
    · exact h1 rfl
    · exact h2 rfl
  simp [escB, this]
/- texts with a comma between two -/
def jn : List (List UInt8) → List UInt8
  | [] => []
  | x :: r => x ++ r.flatMap (fun y => 44 :: y)
theorem jn_snoc {l : List (List UInt8)} (h : l ≠ []) (y : List UInt8) : jn (l ++ [y]) = jn l ++ 44 :: y := by
  match l, h with
  | x :: r, _ => simp [jn]
theorem jn_one (y : List UInt8) : jn [y] = y := by simp [jn]
theorem jn_len {l : List (List UInt8)} {m : Nat} (h : ∀ x ∈ l, x.length ≤ m) : (jn l).length ≤ l.length * (m + 1) := by
  match l with
  | [] => simp [jn]
  | x :: r =>
    have hr : ∀ r : List (List UInt8), (∀ y ∈ r, y.length ≤ m) → (r.flatMap (fun y => (44 : UInt8) :: y)).length ≤ r.length * (m + 1) := by
      intro r
      induction r with
      | nil => simp
      | cons y r ih =>
        intro h
        have h1 := h y (by simp)
        have h2 := ih (fun z hz => h z (by simp [hz]))
        simp only [List.flatMap_cons, List.length_append, List.length_cons]
        rw [Nat.add_mul]
        omega
    have h1 := h x (by simp)
    have h2 := hr r (fun y hy => h y (by simp [hy]))
    simp only [jn, List.length_append, List.length_cons]
    rw [Nat.add_mul]
    omega
theorem jn_take_zero {l : List (List UInt8)} {y : List UInt8} (h : l[0]? = some y) : jn (l.take 1) = y := by
  match l, h with
  | x :: r, h => simp at h; subst h; simp [jn]
theorem jn_take {l : List (List UInt8)} {k : Nat} {y : List UInt8} (h : l[k]? = some y) (h0 : 0 < k) : jn (l.take (k + 1)) = jn (l.take k) ++ 44 :: y := by
  have hk := (List.getElem?_eq_some_iff.1 h).1
  have hy : l[k] = y := by rw [List.getElem?_eq_getElem hk] at h; exact Option.some.inj h
  rw [List.take_succ_eq_append_getElem hk, hy, jn_snoc]
  intro e
  have := congrArg List.length e
  rw [List.length_take, List.length_nil] at this
  omega
def listB (l : List (List UInt8)) : List UInt8 := 91 :: (jn l ++ [93])
def wordB (k : Int) : List UInt8 := if k = 1 then [98, 101, 103, 117, 110] else if k = 2 then [100, 111, 110, 101] else if k = 3 then [102, 97, 105, 108, 101, 100] else [110, 111, 116, 101, 100]
def lit1 : List UInt8 := [123, 34, 98, 111, 100, 121, 34, 58]
def lit2 : List UInt8 := [44, 34, 107, 105, 110, 100, 34, 58]
def lit3 : List UInt8 := [44, 34, 116, 97, 103, 115, 34, 58]
def lit4 : List UInt8 := [44, 34, 116, 97, 115, 107, 34, 58]
def lit5 : List UInt8 := [44, 34, 116, 105, 109, 101, 34, 58]
def tagsT (ts : List ByteArray) : List (List UInt8) := ts.map fun t => qB t.data.toList
def tellB (e : Ev) : List UInt8 := lit1 ++ qB e.body.data.toList ++ lit2 ++ qB (wordB e.kind) ++ lit3 ++ listB (tagsT e.tags) ++ lit4 ++ qB e.task.data.toList ++ lit5 ++ Lib.itoa e.time ++ [125]
def expB (l : List Ev) : List UInt8 × Int := if 200 < l.length then ([], 5) else if l.all isB then (listB (l.map tellB), 0) else ([], 2)
theorem tagsT_at {ts : List ByteArray} {k : Nat} (h : k < ts.length) : (tagsT ts)[k]? = some (qB (ts[k]?.getD ByteArray.empty).data.toList) := by simp [tagsT, h]
theorem tagsT_len (ts : List ByteArray) : (tagsT ts).length = ts.length := by simp [tagsT]
theorem tagsT_short {ts : List ByteArray} (h : ∀ t ∈ ts, t.size ≤ 60) : ∀ x ∈ tagsT ts, x.length ≤ 122 := by
  intro x hx
  simp only [tagsT, List.mem_map] at hx
  obtain ⟨t, ht, rfl⟩ := hx
  have := qB_len t.data.toList
  have := h t ht
  simp at *
  omega
theorem digits_len (f : Nat) : ∀ u, u < 10 ^ f → (Lib.decDigits u).length ≤ max f 1 := by
  induction f with
  | zero => intro u h; rw [Lib.decDigits, dif_pos (by omega)]; simp
  | succ f ih =>
    intro u h
    rw [Lib.decDigits]
    split
    · simp only [List.length_singleton]; omega
    · have := ih (u / 10) (by rw [Nat.pow_succ] at h; exact Nat.div_lt_of_lt_mul (by omega))
      rename_i h9
      rcases Nat.eq_zero_or_pos f with rfl | hf
      · simp at h; omega
      · simp; omega
theorem itoa_len {m : Int} (h0 : 0 ≤ m) (h1 : m ≤ 1125899906842624) : (Lib.itoa m).length ≤ 16 := by
  have := digits_len 16 m.toNat (by omega)
  rw [Lib.itoa, if_neg (by omega)]; omega
theorem word_len (k : Int) : (wordB k).length ≤ 6 := by unfold wordB; split; · simp
                                                        split; · simp
                                                        split <;> simp
theorem word_q (k : Int) : qB (wordB k) = 34 :: (wordB k ++ [34]) := by
  unfold wordB; split; · decide
  split; · decide
  split <;> decide
theorem tell_len {e : Ev} (h : isB e = true) : (tellB e).length ≤ 1000 := by
  obtain ⟨h1, h4, htk, _, ht0, ht1, hbd, hfew, hlines⟩ := is_known h
  have a1 := qB_len e.body.data.toList
  have a2 := qB_len e.task.data.toList
  have a3 := qB_len (wordB e.kind)
  have a4 := word_len e.kind
  have a5 := itoa_len ht0 ht1
  have a6 := jn_len (tagsT_short hlines)
  rw [tagsT_len] at a6
  have a7 : e.tags.length * 123 ≤ 4 * 123 := Nat.mul_le_mul_right _ hfew
  have b1 : e.body.data.toList.length = e.body.size := by simp
  have b2 : e.task.data.toList.length = e.task.size := by simp
  rw [b1] at a1
  rw [b2] at a2
  simp only [tellB, listB, List.length_append, List.length_cons, List.length_nil, lit1, lit2, lit3, lit4, lit5] at *
  omega
end Chron
namespace Go.Proofs.YtdjllnhahhjgmaaGreat
open Go.RowKit Chron

theorem ret_int {k : IntKind} {a b : Int} (h : a = b) : Ending.returned (.int k a) = .returned (.int k b) := by rw [h]
theorem ret_bool {a b : Bool} (h : a = b) : Ending.returned (.bool a) = .returned (.bool b) := by rw [h]
theorem ret_str {a b : ByteArray} (h : a = b) : Ending.returned (.string a) = .returned (.string b) := by rw [h]

set_option maxHeartbeats 400000 in
theorem isVersion_any (v : Int) (w : World) :
    Calls Tryz.prog 54 #[.int .i64 v] w fun e w' => e = .returned (.bool (isVer v)) ∧ w' = w := by
  go_enter Tryz.func54, Tryz.ntmps54
  go_wp2
  all_goals
    go_ret
    exact ⟨ret_bool (by unfold isVer; first | (rw [decide_eq_true (p := 1 ≤ v) ‹_›]; simp) | (rw [decide_eq_false (p := 1 ≤ v) (by omega)]; rfl)), rfl⟩

set_option maxHeartbeats 400000 in
theorem kindShift_any (v : Int) (w : World) :
    Calls Tryz.prog 99 #[.int .i64 v] w fun e w' => e = .returned (.int .i64 (shift v)) ∧ w' = w := by
  go_enter Tryz.func99, Tryz.ntmps99
  go_wp2
  · go_ret
    have h : (v == 2) = true := by assumption
    exact ⟨ret_int (shift_two (by simpa using h)).symm, rfl⟩
  · go_ret
    have h : (v == 2) = false := by assumption
    exact ⟨ret_int (shift_not (by simpa using h)).symm, rfl⟩

set_option maxHeartbeats 400000 in
theorem isPlain_any (c : Int) (w : World) :
    Calls Tryz.prog 103 #[.int .u8 c] w fun e w' => e = .returned (.bool (decide (32 ≤ c ∧ c ≤ 126))) ∧ w' = w := by
  go_enter Tryz.func103, Tryz.ntmps103
  go_wp2
  all_goals
    go_ret
    exact ⟨ret_bool (by rw [Bool.eq_iff_iff]; simp; omega), rfl⟩

set_option maxHeartbeats 400000 in
theorem isLine_any (s : ByteArray) (w : World) (hs : s.size ≤ maxLen) :
    Calls Tryz.prog 94 #[.string s] w fun e w' => e = .returned (.bool (lineB s)) ∧ w' = w := by
  unfold maxLen at hs
  go_enter Tryz.func94, Tryz.ntmps94
  go_wp2
  · go_ret
    have h : 60 < s.size := by omega
    exact ⟨ret_bool (line_long h).symm, rfl⟩
  · have h60 : s.size ≤ 60 := by omega
    go_loop [9] (fun i => ∃ k : Nat, k ≤ s.size ∧ i = .int .i64 k ∧ (s.data.toList.take k).all byteOk = true) (fun i => s.size - (intOf i).toNat)
    case atStart => exact ⟨0, Nat.zero_le _, rfl, rfl⟩
    case round =>
      obtain ⟨k, hk, rfl, hall⟩ := hrel
      have HA : Hid ((s.data.toList.take k).all byteOk = true) := hall
      clear hall
      by_cases hlt : k < s.size
      · have hP := fun w => isPlain_any (s[k].toNat : Int) w
        by_cases hb : 32 ≤ (s[k].toNat : Int) ∧ (s[k].toNat : Int) ≤ 126
        · rw [decide_eq_true hb] at hP
          have HB : Hid _ := hb
          clear hb
          go_wp2_with (go_at_call 103; refine (hP _).mono ?_; rintro e w' ⟨rfl, rfl⟩)
          go_round
          case rel => exact ⟨k + 1, by omega, by go_num, all_step s k hlt HA.out HB.out.1 HB.out.2⟩
          case measure => simp [intOf]; omega
        · rw [decide_eq_false hb] at hP
          have HB : Hid _ := hb
          clear hb
          go_wp2_with (go_at_call 103; refine (hP _).mono ?_; rintro e w' ⟨rfl, rfl⟩)
          go_ret
          exact ⟨ret_bool (all_fails s k hlt (by have h9 : ¬ (32 ≤ (s[k].toNat : Int) ∧ (s[k].toNat : Int) ≤ 126) := HB; omega)).symm, rfl⟩
      · go_wp2
        go_ret
        exact ⟨ret_bool (line_done h60 (by omega) HA.out).symm, rfl⟩

set_option maxHeartbeats 400000 in
theorem isName_any (s : ByteArray) (w : World) (hs : s.size ≤ maxLen) :
    Calls Tryz.prog 95 #[.string s] w fun e w' => e = .returned (.bool (nameB s)) ∧ w' = w := by
  go_enter Tryz.func95, Tryz.ntmps95
  go_wp2_with (go_at_call 94; refine (isLine_any _ _ hs).mono ?_; rintro e w' ⟨rfl, rfl⟩)
  · go_ret
    have h : s.toList = [] := by assumption
    exact ⟨ret_bool (by simp [nameB, h]), rfl⟩
  · go_ret
    exact ⟨rfl, rfl⟩
end Go.Proofs.YtdjllnhahhjgmaaGreat
namespace Go.Proofs.YtdjllnhahhjgmaaGreat
open Go.RowKit Chron
theorem infoByte : (Tryz.prog.info? 5).map (fun i => (i.zero, i.size, i.bytes)) = some (some (.int .u8 0), 1, 1) := by kernel_rfl
theorem byteCells_snoc (l : List UInt8) (b : UInt8) (x : Int) (h : x = (b.toNat : Int)) : Lib.byteCells l ++ [.int .u8 x] = Lib.byteCells (l ++ [b]) := by
  subst h; simp [Lib.byteCells]
theorem conv_owned {w : World} {B n : Nat} {v : Value} {l : List UInt8} (h : w.ownsRow B 5 1 v n (Lib.byteCells l)) (hne : l ≠ []) :
    (convert 74 9 v).run Tryz.prog w = .ok (.string ⟨l.toArray⟩) w := by
  obtain ⟨hl, h | ⟨g, cap, cur, rfl, hg, hh, hn, hcap, hsz, htake⟩⟩ := h
  · obtain ⟨rfl, rfl⟩ := h
    simp [Lib.byteCells] at hl; exact absurd hl hne
  · have hn' : n = l.length := by simp [Lib.byteCells] at hl; omega
    subst hn'
    refine run_convert_bytes_back w _ _ 5 ⟨g, 0, none⟩ cap l Tryz.underlying74 Tryz.underlying5 Tryz.underlying9 ?_
    intro j hj
    have h1 : World.ownsRow w B 5 1 (.slice (some ⟨g, 0, none⟩) l.length cap) l.length (Lib.byteCells l) := ⟨hl, .inr ⟨g, cap, cur, rfl, hg, hh, hn, hcap, hsz, htake⟩⟩
    refine h1.cells (g := g) rfl j _ ?_
    simp [Lib.byteCells, hj]
set_option maxRecDepth 100000 in
set_option maxHeartbeats 400000 in
theorem wireNumber_any (n : Int) (w : World) (h0 : 0 ≤ n) (h1 : Hid (n.toNat < 128 ^ 9)) :
    Calls Tryz.prog 57 #[.int .i64 n] w fun e w' => e = .returned (.string ⟨(num n.toNat).toArray⟩) ∧ Below w.heap.size w w' := by
  obtain ⟨i0, hi, hz0, hz1, hz2⟩ := info_parts infoByte
  go_enter Tryz.func57, Tryz.ntmps57
  go_wp2
  go_loopw [0, 3] (fun m v wr => ∃ k : Int, 0 ≤ k ∧ m = .int .i64 k ∧ ∃ acc : List UInt8, ∃ f : Nat, Hid (acc.length + f = 9 ∧ k.toNat < 128 ^ f ∧ acc ++ numF (f + 1) k.toNat = num n.toNat) ∧ wr.ownsRow w.heap.size 5 1 v acc.length (Lib.byteCells acc) ∧ Below w.heap.size w wr) (fun m _ _ => (intOf m).toNat)
  case atStart => exact ⟨n, h0, rfl, [], 9, ⟨rfl, h1, rfl⟩, World.ownsRow_nil _ _ _ _, Below.refl _ _⟩
  case round =>
    obtain ⟨k, hk0, rfl, acc, f, HR, hown, hbl⟩ := hrel
    have hal : acc.length ≤ 9 := by have := HR.out.1; omega
    have hsz := hbl.size
    by_cases hlt : 128 ≤ k
    · go_wp2_with (first | (at_builtin; refine wpList_append_own _ rfl _ _ 74 rfl w.heap.size 5 i0 (.int .u8 0) 1 1 Tryz.underlying74 hi hz0 hz1 hz2 rfl (by decide) _ _ _ rfl (hown.alloc _) ⟨wr.heap.size, 0, none⟩ 1 1 [_] rfl rfl (cell_one_new _ _ _) ?c2 ?c3 ?c4 ?c5 ?_))
      case c2 => first | (intro u hu; simp at hu; subst hu; rfl) | rfl
      case c3 => unfold maxLen; omega
      case c4 => omega
      case c5 => first | omega | (simp; omega)
      intro v' w1 hown' hgrow _
      rw [byteCells_snoc _ _ _ (or_byte k hk0)] at hown'
      go_wp2
      go_roundw
      case rel =>
        obtain ⟨g, hg1, hg2, hg3⟩ := num_step hlt HR.out.1 HR.out.2.1 HR.out.2.2
        exact ⟨k / 128, by omega, rfl, acc ++ [UInt8.ofNat (128 + k.toNat % 128)], g, ⟨hg1, hg2, hg3⟩, by simpa using hown', Below.grown (hbl.alloc (by omega) _) hgrow (by simp; omega) (fun j hj => by have := (hown.lt _ hj).1; omega)⟩
      case measure => simp [intOf]; omega
    · have hlast := num_last hk0 (by omega) HR.out.2.2
      have HL : Hid (num n.toNat = acc ++ [UInt8.ofNat k.toNat]) := hlast
      clear hlast
      go_wp2_with (first | (at_builtin; refine wpList_append_own _ rfl _ _ 74 rfl w.heap.size 5 i0 (.int .u8 0) 1 1 Tryz.underlying74 hi hz0 hz1 hz2 rfl (by decide) _ _ _ rfl (hown.alloc _) ⟨wr.heap.size, 0, none⟩ 1 1 [_] rfl rfl (cell_one_new _ _ _) ?c2 ?c3 ?c4 ?c5 ?_))
      case c2 => first | (intro u hu; simp at hu; subst hu; rfl) | rfl
      case c3 => unfold maxLen; omega
      case c4 => omega
      case c5 => first | omega | (simp; omega)
      intro v' w1 hown' hgrow _
      rw [byteCells_snoc _ (UInt8.ofNat k.toNat) _ (by simp; omega)] at hown'
      have hconv := conv_owned hown' (by simp)
      go_wp2
      go_ret
      exact ⟨by rw [HL.out]; rfl, Below.grown (hbl.alloc (by omega) _) hgrow (by simp; omega) (fun j hj => by have := (hown.lt _ hj).1; omega)⟩

set_option maxHeartbeats 400000 in
theorem wireText_any (s : ByteArray) (w : World) (hs : s.size ≤ 65536) :
    Calls Tryz.prog 60 #[.string s] w fun e w' => e = .returned (.string ⟨(text s.data.toList).toArray⟩) ∧ Below w.heap.size w w' := by
  have hN := wireNumber_any (s.size : Int) w (by omega) (by show (s.size : Int).toNat < 128 ^ 9; omega)
  rw [Int.toNat_natCast] at hN
  have HT : Hid (text s.data.toList = num s.size ++ s.data.toList) := by simp [text, Hid]
  go_enter Tryz.func60, Tryz.ntmps60
  go_wp2_with fail
  refine hN.mono ?_
  rintro e w' ⟨rfl, hb⟩
  have hnl := num_len s.size
  go_wp2
  go_ret
  exact ⟨ret_str (by rw [HT.out]; exact mk_append _ _), hb⟩
end Go.Proofs.YtdjllnhahhjgmaaGreat
namespace Go.Proofs.YtdjllnhahhjgmaaGreat
open Go.RowKit Chron
/- n strings lie behind an address -/
def TagsAt (w : World) (a : Option Addr) (ts : List ByteArray) : Prop :=
  0 < ts.length → ∃ b off, a = some ⟨b, off, none⟩ ∧ ∀ i, i < ts.length → w.cell? ⟨b, off + i, none⟩ = some (.string (ts[i]?.getD ByteArray.empty))
def Short (ts : List ByteArray) : Prop := ∀ i, i < ts.length → (ts[i]?.getD ByteArray.empty).size ≤ maxLen

theorem bcell {W w1 : World} (hb : Below W.heap.size W w1) : (∀ b o, b < W.heap.size → w1.cell? ⟨b, o, none⟩ = W.cell? ⟨b, o, none⟩) ∧ (∀ b o, b < W.heap.size → w1.frozen? ⟨b, o, none⟩ = W.frozen? ⟨b, o, none⟩) :=
  ⟨fun b o h => hb.cell (p := ⟨b, o, none⟩) h, fun b o h => hb.frozen (p := ⟨b, o, none⟩) h⟩

set_option maxRecDepth 100000 in
set_option maxHeartbeats 400000 in
theorem areTags_any (a : Option Addr) (cap : Nat) (ts : List ByteArray) (w : World) (ht : Hid (TagsAt w a ts)) (hs : Hid (Short ts)) (hl : ts.length ≤ maxLen) :
    Calls Tryz.prog 96 #[.slice a ts.length cap] w fun e w' => e = .returned (.bool (tagsB ts)) ∧ w' = w := by
  unfold maxLen at hl
  by_cases h4 : 4 < ts.length
  · go_enter Tryz.func96, Tryz.ntmps96
    go_wp2
    go_ret
    exact ⟨ret_bool (tags_many h4).symm, rfl⟩
  · go_enter Tryz.func96, Tryz.ntmps96
    go_wp2
    go_loop [10] (fun i => ∃ k : Nat, k ≤ ts.length ∧ i = .int .i64 k ∧ Hid (∀ j, j < k → tagOk ts j = true)) (fun i => ts.length - (intOf i).toNat)
    case atStart => exact ⟨0, Nat.zero_le _, rfl, fun j hj => by omega⟩
    case round =>
      obtain ⟨k, hk, rfl, HA⟩ := hrel
      by_cases hlt : k < ts.length
      · obtain ⟨b, off, rfl, hc⟩ := ht.out (by omega)
        have hck := hc k hlt
        have hsk := hs.out k hlt
        have HC : Hid _ := hc
        clear hc
        have HO : Hid (tagOk ts k = (nameB (ts[k]?.getD ByteArray.empty) && (decide (k = 0) || Op.bytesLess (ts[k - 1]?.getD ByteArray.empty).toList (ts[k]?.getD ByteArray.empty).toList))) := rfl
        generalize ts[k]?.getD ByteArray.empty = t at hck hsk HO
        by_cases hn : nameB t = true
        · by_cases hk0 : 0 < k
          · have hcp := HC.out (k - 1) (by omega)
            generalize ts[k - 1]?.getD ByteArray.empty = p at hcp HO
            go_wp2_with (go_at_call 95; refine (isName_any _ _ hsk).mono ?_; rintro e w' ⟨rfl, rfl⟩)
            · go_ret
              exact ⟨ret_bool (tags_not hlt (tag_fall HO.out hk0 (by assumption))).symm, rfl⟩
            · go_round
              case rel => exact ⟨k + 1, by omega, by go_num, tag_next HA.out (tag_rise HO.out hn (by assumption))⟩
              case measure => simp [intOf]; omega
          · go_wp2_with (go_at_call 95; refine (isName_any _ _ hsk).mono ?_; rintro e w' ⟨rfl, rfl⟩)
            · go_round
              case rel => exact ⟨k + 1, by omega, by go_num, tag_next HA.out (tag_first HO.out hn hk0)⟩
              case measure => simp [intOf]; omega
        · have hn' : nameB t = false := by simpa using hn
          clear hn
          go_wp2_with (go_at_call 95; refine (isName_any _ _ hsk).mono ?_; rintro e w' ⟨rfl, rfl⟩)
          go_ret
          exact ⟨ret_bool (tags_not hlt (tag_bad HO.out hn')).symm, rfl⟩
      · go_wp2
        go_ret
        exact ⟨ret_bool (tags_all (by omega) (by omega) HA.out).symm, rfl⟩

theorem TagsAt.below {w w' : World} {a : Option Addr} {ts : List ByteArray} {B : Nat} (h : TagsAt w a ts) (hb : Below B w w') (hB : w.heap.size ≤ B) : TagsAt w' a ts := by
  intro h0
  obtain ⟨b, off, rfl, hc⟩ := h h0
  refine ⟨b, off, rfl, fun i hi => ?_⟩
  have hi' := hc i hi
  have hlt := World.block_lt_of_cell? w _ hi'
  rw [hb.cell (p := ⟨b, off + i, none⟩) (by simp at hlt ⊢; omega)]; exact hi'
theorem TagsAt.alloc {w : World} {a : Option Addr} {ts : List ByteArray} (h : TagsAt w a ts) (o : Obj) : TagsAt (w.alloc o) a ts :=
  h.below (B := w.heap.size) ((Below.refl _ _).alloc (Nat.le_refl _) o) (Nat.le_refl _)

set_option maxRecDepth 100000 in
set_option maxHeartbeats 1000000 in
theorem is_any (k : Int) (t : ByteArray) (m : Int) (b : ByteArray) (a : Option Addr) (cap : Nat) (ts : List ByteArray) (w : World) (ht : Hid (TagsAt w a ts)) (hs : Hid (Short ts)) (hl : ts.length ≤ maxLen)
    (htl : t.size ≤ maxLen) (hbl : b.size ≤ maxLen) :
    Calls Tryz.prog 75 #[.agg #[.int .i64 k, .string t, .int .i64 m, .string b, .slice a ts.length cap]] w fun e w' => e = .returned (.bool (isB ⟨k, t, m, b, ts⟩)) ∧ Below w.heap.size w w' := by
  go_enter Tryz.func75, Tryz.ntmps75
  go_wp2_with (first
    | (go_at_call 95; refine (isName_any _ _ htl).mono ?_; rintro e w' ⟨rfl, rfl⟩)
    | (go_at_call 94; refine (isLine_any _ _ hbl).mono ?_; rintro e w' ⟨rfl, rfl⟩)
    | (go_at_call 96; refine (areTags_any _ _ _ _ (TagsAt.alloc ht.out _) hs hl).mono ?_; rintro e w' ⟨rfl, rfl⟩))
  all_goals
    go_ret
    exact ⟨ret_bool (by first | (simp [isB, *]; done) | (simp [isB]; intros; omega)), (Below.refl _ _).alloc (Nat.le_refl _) _⟩

set_option maxRecDepth 100000 in
set_option maxHeartbeats 1000000 in
theorem goesInto_any (v k : Int) (t : ByteArray) (m : Int) (b : ByteArray) (a : Option Addr) (cap : Nat) (ts : List ByteArray) (w : World) (ht : Hid (TagsAt w a ts)) (hs : Hid (Short ts)) (hl : ts.length ≤ maxLen)
    (htl : t.size ≤ maxLen) (hbl : b.size ≤ maxLen) :
    Calls Tryz.prog 55 #[.int .i64 v, .agg #[.int .i64 k, .string t, .int .i64 m, .string b, .slice a ts.length cap]] w fun e w' => e = .returned (.bool (goesB v ⟨k, t, m, b, ts⟩)) ∧ Below w.heap.size w w' := by
  by_cases hv : isVer v = true
  · have hI := is_any k t m b a cap ts (w.alloc (.cells #[.int .i64 k, .string t, .int .i64 m, .string b, .slice a ts.length cap] 38)) (TagsAt.alloc ht.out _) hs hl htl hbl
    unfold maxLen at hl
    generalize hq : isB ⟨k, t, m, b, ts⟩ = q at hI
    have HQ : Hid _ := hq
    clear hq
    cases q
    · go_enter Tryz.func55, Tryz.ntmps55
      go_wp2_with (first
        | (go_at_call 54; refine (isVersion_any _ _).mono ?_; rintro e w' ⟨rfl, rfl⟩)
        | (go_at_call 75; refine hI.mono ?_; rintro e w1 ⟨rfl, hb1⟩))
      go_ret
      exact ⟨ret_bool (by simp [goesB, HQ.out]), ((Below.refl _ _).alloc (Nat.le_refl _) _).trans (hb1.mono (by simp))⟩
    · go_enter Tryz.func55, Tryz.ntmps55
      go_wp2_with (first
        | (go_at_call 54; refine (isVersion_any _ _).mono ?_; rintro e w' ⟨rfl, rfl⟩)
        | (go_at_call 75; refine hI.mono ?_; rintro e w1 ⟨rfl, hb1⟩; obtain ⟨hc1, hf1⟩ := bcell hb1))
      all_goals
        go_ret
        refine ⟨ret_bool ?_, ((Below.refl _ _).alloc (Nat.le_refl _) _).trans (hb1.mono (by simp))⟩
        rw [goesB, hv, HQ.out]
        clear hI hb1 hc1 hf1 HQ ht hs
        first
          | (simp [fitsB, dashB, *]; done)
          | (simp [fitsB, dashB, *]; omega)
          | (simp [fitsB, dashB, *]; rw [show (k != 4) = true from bne_iff_ne.2 ‹¬ k = 4›]; simp)
  · have hv' : isVer v = false := by simpa using hv
    clear hv
    go_enter Tryz.func55, Tryz.ntmps55
    go_wp2_with (first
      | (go_at_call 54; refine (isVersion_any _ _).mono ?_; rintro e w' ⟨rfl, rfl⟩))
    go_ret
    exact ⟨ret_bool (by simp [goesB, hv']), (Below.refl _ _).alloc (Nat.le_refl _) _⟩
end Go.Proofs.YtdjllnhahhjgmaaGreat
namespace Go.Proofs.YtdjllnhahhjgmaaGreat
open Go.RowKit Chron
theorem builder_below {T e : TypeId} {B b : Nat} {bs : List Value} {w w' : World} (h : Lib.IsBuilderF T e B b bs w) (hb : Below w.heap.size w w') : Lib.IsBuilderF T e B b bs w' := by
  have one : ∀ p, Lib.BuilderAtF T e B b p bs w → Lib.BuilderAtF T e B b p bs w' := by
    intro p h
    have hlt := h.lt
    obtain ⟨hB, v, hv, hown, hne⟩ := h
    exact ⟨hB, v, (hb.block b hlt).trans hv, hown.kept (row := none) ⟨hb.os, hb.tape, hb.output, hb.size, fun k hk _ => hb.block k hk⟩ (Classical.em _), hne⟩
  exact h.elim (fun x => .inl (one _ x)) (fun x => .inr (one _ x))
theorem builder_drew {T e : TypeId} {B b : Nat} {bs : List Value} {w : World} (h : Lib.IsBuilderF T e B b bs w) : Lib.IsBuilderF T e B b bs w.drew := h
theorem builder_lt {T e : TypeId} {B b : Nat} {bs : List Value} {w : World} (h : Lib.IsBuilderF T e B b bs w) : b < w.heap.size := h.elim (fun x => x.lt) (fun x => x.lt)
theorem builder_new (T e : TypeId) (w : World) : Lib.IsBuilderF T e w.heap.size w.heap.size (Lib.byteCells []) (w.alloc (.cells #[.pointer none, .slice none 0 0] T)) :=
  .inl ⟨Nat.le_refl _, .slice none 0 0, heap_alloc_new _ _, World.ownsRowF_of (World.ownsRow_nil _ _ _ _), by simp [Value.ownBlock]⟩
theorem strCells_bytes (l : List UInt8) (s : ByteArray) : Lib.byteCells l ++ Lib.strCells s = Lib.byteCells (l ++ s.data.toList) := by simp [Lib.byteCells, Lib.strCells]

set_option maxRecDepth 100000 in
set_option maxHeartbeats 400000 in
theorem put_any (b : Nat) (l : List UInt8) (tag : Int) (has : ByteArray) (w : World) (h : Hid (Lib.IsBuilderF 102 5 b b (Lib.byteCells l) w)) (h0 : 0 ≤ tag) (h1 : tag ≤ 5) (hl : l.length + has.size ≤ 65536) :
    Calls Tryz.prog 98 #[.int .i64 tag, .string has, .pointer (some ⟨b, 0, none⟩)] w fun e w' => e = .returned (.tuple #[]) ∧ Hid (Lib.IsBuilderF 102 5 b b (Lib.byteCells (l ++ num tag.toNat ++ has.data.toList)) w') ∧ Below b w w' := by
  have hnl := num_len tag.toNat
  go_enter Tryz.func98, Tryz.ntmps98
  go_wp2_with fail
  refine (wireNumber_any tag _ h0 (by show tag.toNat < 128 ^ 9; omega)).mono ?_
  rintro e w1 ⟨rfl, hb1⟩
  have hB1 := builder_below h.out hb1
  have hlt := builder_lt h.out
  have hs1 := hb1.size
  go_wp2_with fail
  refine (Tryz.Builder_WriteString_k b b _ _ w1 hB1 (by rw [Lib.byteCells_length]; show l.length + (num tag.toNat).length ≤ _; omega) (by omega)).mono ?_
  rintro e w2 ⟨rfl, hB2, hb2, hk2⟩
  have hs2 := hb2.size
  rw [strCells_bytes] at hB2
  have HB2 : Hid _ := hB2
  clear hB2 hB1
  go_wp2_with fail
  refine (Tryz.Builder_WriteString_k b b _ _ w2 (.inr HB2.out) (by rw [Lib.byteCells_length, List.length_append]; show l.length + (num tag.toNat).length + _ ≤ _; omega) (by omega)).mono ?_
  rintro e w3 ⟨rfl, hB3, hb3, hk3⟩
  rw [strCells_bytes] at hB3
  have HB3 : Hid _ := hB3
  clear hB3 hk3 hk2
  go_wp2
  go_end0
  exact ⟨rfl, Or.inr HB3.out, ((hb1.mono (by omega)).trans hb2).trans hb3⟩

theorem bcellB {B : Nat} {W w1 : World} (hb : Below B W w1) : (∀ b o, b < B → w1.cell? ⟨b, o, none⟩ = W.cell? ⟨b, o, none⟩) ∧ (∀ b o, b < B → w1.frozen? ⟨b, o, none⟩ = W.frozen? ⟨b, o, none⟩) :=
  ⟨fun b o h => hb.cell (p := ⟨b, o, none⟩) h, fun b o h => hb.frozen (p := ⟨b, o, none⟩) h⟩
set_option maxRecDepth 100000 in
set_option maxHeartbeats 2000000 in
theorem writeFields_any (v k : Int) (t : ByteArray) (m : Int) (b : ByteArray) (a : Option Addr) (cap : Nat) (ts : List ByteArray) (w : World) (ht : Hid (TagsAt w a ts)) (hs : Hid (Lines ts)) (hl : ts.length ≤ 4)
    (htl : t.size ≤ 60) (hbl : b.size ≤ 60) (hk1 : 1 ≤ k) (hk4 : k ≤ 4) (hm0 : 0 ≤ m) (hm1 : Hid (m.toNat < 128 ^ 9)) :
    Calls Tryz.prog 80 #[.int .i64 v, .agg #[.int .i64 k, .string t, .int .i64 m, .string b, .slice a ts.length cap]] w fun e w' => e = .returned (.string ⟨(fieldsB v ⟨k, t, m, b, ts⟩).toArray⟩) ∧ Below w.heap.size w w' := by
  obtain ⟨j, hj, hj0, hj4, HJ⟩ : ∃ j, IntKind.i64.wrap (k - shift v) = j ∧ 0 ≤ j ∧ j ≤ 4 ∧ Hid (j = k - shift v) := by
    have := shift_bd v
    exact ⟨k - shift v, wrapI_small (by omega) (by omega), by omega, by omega, rfl⟩
  have hn1 := num_len 1
  have hnj := num_len j.toNat
  have hfl := front_len j.toNat t htl
  have htx : (text t.data.toList).length ≤ 70 := by have := text_len t.data.toList; simp at this; omega
  have hbn := builder_new 102 5 (w.alloc (.cells #[.int .i64 k, .string t, .int .i64 m, .string b, .slice a ts.length cap] 38))
  rw [World.size_alloc] at hbn
  have hlen1 : ([] : List UInt8).length + (⟨(num j.toNat).toArray⟩ : ByteArray).size ≤ 65536 := by show 0 + (num j.toNat).length ≤ _; omega
  have HBN : Hid _ := hbn
  clear hbn
  go_enter Tryz.func80, Tryz.ntmps80
  go_upto_region 3 with fail
  go_cut [17] (fun _ wx => Hid (Lib.IsBuilderF 102 5 (w.heap.size + 1) (w.heap.size + 1) (Lib.byteCells (num 1 ++ num j.toNat)) wx) ∧ Hid (Below (w.heap.size + 1) (w.alloc (.cells #[.int .i64 k, .string t, .int .i64 m, .string b, .slice a ts.length cap] 38)) wx))
  case first =>
    go_region_with (first
      | (go_at_call 99; refine (kindShift_any _ _).mono ?_; rintro e w' ⟨rfl, rfl⟩)
      | (go_at_call 57; refine (wireNumber_any _ _ hj0 (by show j.toNat < 128 ^ 9; omega)).mono ?_; rintro e w1 ⟨rfl, hb1⟩)
      | (go_at_call 98; go_must (refine (put_any (w.heap.size + 1) [] 1 ⟨(num j.toNat).toArray⟩ w1 (builder_below (builder_drew HBN.out) hb1) (by omega) (by omega) hlen1).mono ?_); rintro e w2 ⟨rfl, hB2, hb2⟩))
    all_goals
      go_wp2_with fail
      go_meet
      case rel => exact ⟨hB2, ((((Below.refl _ _).alloc (by simp) _).drew).trans (hb1.mono (by simp))).trans hb2⟩
  case rest =>
    obtain ⟨HB, HW⟩ := hcut
    have hsz := HW.out.size
    rw [World.size_alloc] at hsz
    obtain ⟨hc, hf⟩ := bcellB HW.out
    have HJ2 : Hid ((⟨k, t, m, b, ts⟩ : Ev) = ⟨k, t, m, b, ts⟩ ∧ (k - shift v).toNat = j.toNat) := ⟨rfl, by rw [HJ.out]⟩
    clear hj HJ hlen1 HBN
    go_wp2_with fail
    refine (wireText_any t _ (by omega)).mono ?_
    rintro e w3 ⟨rfl, hb3⟩
    go_wp2_with fail
    refine (put_any (w.heap.size + 1) (num 1 ++ num j.toNat) 2 ⟨(text t.data.toList).toArray⟩ w3 (builder_below HB.out hb3) (by omega) (by omega) (by rw [List.length_append]; show _ + (text t.data.toList).length ≤ _; omega)).mono ?_
    rintro e w4 ⟨rfl, hB4, hb4⟩
    have HB4 : Hid (Lib.IsBuilderF 102 5 (w.heap.size + 1) (w.heap.size + 1) (Lib.byteCells (front j.toNat t)) w4) := by unfold front; rw [← List.append_assoc]; exact hB4
    have HW4 : Hid (Below (w.heap.size + 1) (w.alloc (.cells #[.int .i64 k, .string t, .int .i64 m, .string b, .slice a ts.length cap] 38)) w4) := (HW.out.trans (hb3.mono (by omega))).trans hb4
    clear hc hf HB HW hb3 hb4 hB4 hsz w3
    obtain ⟨hc, hf⟩ := bcellB HW4.out
    have hsz := HW4.out.size
    rw [World.size_alloc] at hsz
    go_upto_if 25 with fail
    go_cut [25] (fun _ wx => Hid (Lib.IsBuilderF 102 5 (w.heap.size + 1) (w.heap.size + 1) (Lib.byteCells (front j.toNat t ++ timePart m)) wx) ∧ Hid (Below (w.heap.size + 1) (w.alloc (.cells #[.int .i64 k, .string t, .int .i64 m, .string b, .slice a ts.length cap] 38)) wx))
    case first =>
      by_cases hm : m = 0
      · have hmb : (m != 0) = false := by simp [hm]
        have HP : Hid (timePart m = []) := by simp [Hid, timePart, hm]
        clear hm
        go_wp2_with fail
        go_meet
        case rel => exact ⟨by rw [HP.out, List.append_nil]; exact HB4, HW4⟩
      · have hmb : (m != 0) = true := by simp [hm]
        have HP : Hid (timePart m = num 3 ++ num m.toNat) := by simp [Hid, timePart, hm]
        have hnm := num_len m.toNat
        clear hm
        go_wp2_with fail
        refine (wireNumber_any m _ hm0 hm1).mono ?_
        rintro e w5 ⟨rfl, hb5⟩
        go_wp2_with fail
        refine (put_any (w.heap.size + 1) (front j.toNat t) 3 ⟨(num m.toNat).toArray⟩ w5 (builder_below HB4.out hb5) (by omega) (by omega) (by show _ + (num m.toNat).length ≤ _; omega)).mono ?_
        rintro e w6 ⟨rfl, hB6, hb6⟩
        go_wp2_with fail
        go_meet
        case rel => exact ⟨by rw [HP.out, ← List.append_assoc]; exact hB6, (HW4.out.trans (hb5.mono (by omega))).trans hb6⟩
    case rest =>
      obtain ⟨HB5, HW5⟩ := hcut
      have htp := timePart_len m
      clear hc hf HB4 HW4 hsz
      obtain ⟨hc, hf⟩ := bcellB HW5.out
      have hsz := HW5.out.size
      rw [World.size_alloc] at hsz
      go_upto_if 33 with fail
      go_cut [33] (fun _ wx => Hid (Lib.IsBuilderF 102 5 (w.heap.size + 1) (w.heap.size + 1) (Lib.byteCells (front j.toNat t ++ timePart m ++ bodyPart b)) wx) ∧ Hid (Below (w.heap.size + 1) (w.alloc (.cells #[.int .i64 k, .string t, .int .i64 m, .string b, .slice a ts.length cap] 38)) wx))
      case first =>
        by_cases hm : b.toList = []
        · have hmb : (!b.toList.isEmpty) = false := by simp [hm]
          have HP : Hid (bodyPart b = []) := by simp [Hid, bodyPart, hm]
          clear hm
          rw [hmb]
          go_wp2_with fail
          go_meet
          case rel => exact ⟨by rw [HP.out, List.append_nil]; exact HB5, HW5⟩
        · have hmb : (!b.toList.isEmpty) = true := by simp [hm]
          have HP : Hid (bodyPart b = num 4 ++ text b.data.toList) := by simp [Hid, bodyPart, hm]
          have hnm : (text b.data.toList).length ≤ 70 := by have := text_len b.data.toList; simp at this; omega
          clear hm
          rw [hmb]
          go_wp2_with fail
          refine (wireText_any b _ (by omega)).mono ?_
          rintro e w5 ⟨rfl, hb5⟩
          go_wp2_with fail
          refine (put_any (w.heap.size + 1) (front j.toNat t ++ timePart m) 4 ⟨(text b.data.toList).toArray⟩ w5 (builder_below HB5.out hb5) (by omega) (by omega) (by rw [List.length_append]; show _ + (text b.data.toList).length ≤ _; omega)).mono ?_
          rintro e w6 ⟨rfl, hB6, hb6⟩
          go_wp2_with fail
          go_meet
          case rel => exact ⟨by rw [HP.out, ← List.append_assoc]; exact hB6, (HW5.out.trans (hb5.mono (by omega))).trans hb6⟩
      case rest =>
        obtain ⟨HB6, HW6⟩ := hcut
        have hbp := bodyPart_len b hbl
        clear hc hf HB5 HW5 hsz
        obtain ⟨hc, hf⟩ := bcellB HW6.out
        go_wp2_with fail
        clear hc hf
        go_loopw [42] (fun i wx => ∃ n : Nat, n ≤ ts.length ∧ i = .int .i64 n ∧ Hid (Lib.IsBuilderF 102 5 (w.heap.size + 1) (w.heap.size + 1) (Lib.byteCells (front j.toNat t ++ timePart m ++ bodyPart b ++ tagParts (ts.take n))) wx) ∧ Hid (Below (w.heap.size + 1) (w.alloc (.cells #[.int .i64 k, .string t, .int .i64 m, .string b, .slice a ts.length cap] 38)) wx)) (fun i _ => ts.length - (intOf i).toNat)
        case atStart => exact ⟨0, Nat.zero_le _, rfl, by simpa [tagParts] using HB6, HW6⟩
        case round =>
          obtain ⟨n, hn, rfl, HBr, HWr⟩ := hrel
          by_cases hlt : n < ts.length
          · obtain ⟨q, off, rfl, hcx⟩ := ht.out (by omega)
            have hck := hcx n hlt
            have hqlt := World.block_lt_of_cell? w _ hck
            have hck' : wr.cell? ⟨q, off + n, none⟩ = some (.string (ts[n]?.getD ByteArray.empty)) := by
              rw [HWr.out.cell (p := ⟨q, off + n, none⟩) (by simp at hqlt ⊢; omega), (Below.alloc (Below.refl w.heap.size w) (Nat.le_refl _) _).cell (p := ⟨q, off + n, none⟩) (by simpa using hqlt)]; exact hck
            have hsk := Lines.get hs.out hlt
            have HT : Hid _ := tagParts_snoc ts n hlt
            have hpl := tagParts_len _ (Lines.take hs.out n)
            have htk : (ts.take n).length ≤ 4 := by simp; omega
            have hsz := HWr.out.size
            rw [World.size_alloc] at hsz
            generalize ts[n]?.getD ByteArray.empty = x at hck' hsk HT
            have hnm : (text x.data.toList).length ≤ 70 := by have := text_len x.data.toList; simp at this; omega
            clear hcx hck hqlt
            go_wp2_with fail
            refine (wireText_any x _ (by omega)).mono ?_
            rintro e w5 ⟨rfl, hb5⟩
            go_wp2_with fail
            refine (put_any (w.heap.size + 1) (front j.toNat t ++ timePart m ++ bodyPart b ++ tagParts (ts.take n)) 5 ⟨(text x.data.toList).toArray⟩ w5 (builder_below HBr.out hb5) (by omega) (by omega) (by simp only [List.length_append]; show _ + (text x.data.toList).length ≤ _; omega)).mono ?_
            rintro e w6 ⟨rfl, hB6, hb6⟩
            go_wp2
            go_roundw
            case rel => exact ⟨n + 1, by omega, by go_num, by rw [HT.out, tagPart, ← List.append_assoc, ← List.append_assoc]; exact hB6, (HWr.out.trans (hb5.mono (by omega))).trans hb6⟩
            case measure => simp [intOf]; omega
          · have hend : ts.take n = ts := List.take_of_length_le (by omega)
            have HE : Hid (ts.take n = ts) := hend
            clear hend
            have hsz := HWr.out.size
            rw [World.size_alloc] at hsz
            go_wp2_with fail
            refine (Tryz.Builder_String_any_k (w.heap.size + 1) (w.heap.size + 1) _ _ HBr.out (by omega)).mono ?_
            rintro e w7 ⟨rfl, hB7, hb7, hk7⟩
            go_wp2
            go_ret
            exact ⟨ret_str (by rw [HE.out, fieldsB, HJ2.out.2]; simp only [List.append_assoc]), ((Below.refl _ _).alloc (Nat.le_refl _) _).trans ((HWr.out.trans hb7).mono (by omega))⟩
end Go.Proofs.YtdjllnhahhjgmaaGreat
