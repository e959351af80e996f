/- Walks and plain facts, in the order in which they lean on one another. -/
import Derived.WalkKit
import Derived.Laws.BitsAllLaws
import Derived.Lib.Strings
import Derived.Lib.IndexBytes
import Derived.Lib.ItoaNum
import Derived.Test.YtdjllnhahhjgmaaDoorProg
import Derived.WalkSpells
import Derived.WalkLawsBesides
import Derived.BigQuiet
import Derived.Deep.QuietTactic
import Derived.Test.YtdjllnhahhjgmaaDoorShelf
import Derived.Deep.DeepCutAuto
import Derived.Deep.RegionHeld
namespace Chron
open Go Go.RowKit

def isVer (v : Int) : Bool := decide (1 ≤ v) && decide (v ≤ 3)
def shift (v : Int) : Int := if v = 2 then 1 else 0
def byteOk (c : UInt8) : Bool := decide (32 ≤ (c.toNat : Int)) && decide ((c.toNat : Int) ≤ 126)
def lineB (s : ByteArray) : Bool := decide (s.size ≤ 60) && s.data.toList.all byteOk
def nameB (s : ByteArray) : Bool := !s.toList.isEmpty && lineB s

theorem isVer_eq {v : Int} : isVer v = decide (1 ≤ v ∧ v ≤ 3) := by simp [isVer]
theorem shift_two {v : Int} (h : v = 2) : shift v = 1 := by simp [shift, h]
theorem shift_not {v : Int} (h : ¬ v = 2) : shift v = 0 := by simp [shift, h]
theorem take_snoc (s : ByteArray) (k : Nat) (h : k < s.size) : s.data.toList.take (k + 1) = s.data.toList.take k ++ [s[k]] := by
  rw [List.take_succ_eq_append_getElem (by simpa using h)]; rfl
theorem all_step (s : ByteArray) (k : Nat) (h : k < s.size) (ha : (s.data.toList.take k).all byteOk = true) (h1 : 32 ≤ (s[k].toNat : Int)) (h2 : (s[k].toNat : Int) ≤ 126) :
    (s.data.toList.take (k + 1)).all byteOk = true := by
  rw [take_snoc s k h, List.all_append, ha]; simp [byteOk, h1, h2]
theorem all_fails (s : ByteArray) (k : Nat) (h : k < s.size) (h1 : (s[k].toNat : Int) < 32 ∨ 126 < (s[k].toNat : Int)) : lineB s = false := by
  have hm : s[k] ∈ s.data.toList := by
    have : s.data.toList[k]'(by simpa using h) = s[k] := rfl
    rw [← this]; exact List.getElem_mem _
  have hb : byteOk s[k] = false := by
    unfold byteOk; rcases h1 with h1 | h1
    · rw [decide_eq_false (by omega)]; rfl
    · rw [decide_eq_false (p := (s[k].toNat : Int) ≤ 126) (by omega)]; simp
  have : s.data.toList.all byteOk = false := by
    rw [List.all_eq_false]; exact ⟨_, hm, by simp [hb]⟩
  simp [lineB, this]
theorem line_long {s : ByteArray} (h : 60 < s.size) : lineB s = false := by
  simp [lineB]; omega
theorem line_done {s : ByteArray} {k : Nat} (h : s.size ≤ 60) (hk : s.size ≤ k) (ha : (s.data.toList.take k).all byteOk = true) : lineB s = true := by
  rw [List.take_of_length_le (by simpa using hk)] at ha
  simp only [lineB, ha, Bool.and_true, decide_eq_true_eq]; exact h


/- numbers as bytes -/
def numF : Nat → Nat → List UInt8
  | 0, _ => []
  | f + 1, n => if n < 128 then [UInt8.ofNat n] else UInt8.ofNat (128 + n % 128) :: numF f (n / 128)
def num (n : Nat) : List UInt8 := numF 10 n
def text (s : List UInt8) : List UInt8 := num s.length ++ s

theorem numF_small {f n : Nat} (h : n < 128) : numF (f + 1) n = [UInt8.ofNat n] := by simp [numF, h]
theorem numF_more {f n : Nat} (h : 128 ≤ n) : numF (f + 1) n = UInt8.ofNat (128 + n % 128) :: numF f (n / 128) := by
  simp [numF, Nat.not_lt.2 h]
theorem numF_len (f n : Nat) : (numF f n).length ≤ f := by
  induction f generalizing n with
  | zero => simp [numF]
  | succ f ih => unfold numF; split
                 · simp
                 · have := ih (n / 128); simp; omega
theorem num_len (n : Nat) : (num n).length ≤ 10 := numF_len 10 n
theorem or_fin : ∀ x : Fin 256, bits .or .u8 ((x.val : Nat) : Int) 128 = ((128 + x.val % 128 : Nat) : Int) := by decide +kernel
theorem or_byte (k : Int) (h : 0 ≤ k) : bits .or .u8 (k % 256) 128 = (((UInt8.ofNat (128 + k.toNat % 128)).toNat : Nat) : Int) := by
  obtain ⟨n, rfl⟩ := Int.eq_ofNat_of_zero_le h
  have := or_fin ⟨n % 256, by omega⟩
  simp only [] at this
  rw [show ((n : Int) % 256) = ((n % 256 : Nat) : Int) by omega, this]
  simp
  omega
/- one step of the loop that writes a number -/
theorem num_step {n : Nat} {k : Int} {acc : List UInt8} {f : Nat} (hk : 128 ≤ k) (hl : acc.length + f = 9) (hb : k.toNat < 128 ^ f) (he : acc ++ numF (f + 1) k.toNat = num n) :
    ∃ g, (acc ++ [UInt8.ofNat (128 + k.toNat % 128)]).length + g = 9 ∧ (k / 128).toNat < 128 ^ g ∧ (acc ++ [UInt8.ofNat (128 + k.toNat % 128)]) ++ numF (g + 1) (k / 128).toNat = num n := by
  match f, hb with
  | 0, hb => simp at hb; omega
  | g + 1, hb =>
    have hd : (k / 128).toNat = k.toNat / 128 := by omega
    refine ⟨g, by simp; omega, ?_, ?_⟩
    · rw [hd]; rw [Nat.pow_succ] at hb; exact Nat.div_lt_of_lt_mul (by omega)
    · rw [hd, ← he, numF_more (f := g + 1) (by omega)]; simp
theorem num_last {n : Nat} {k : Int} {acc : List UInt8} {f : Nat} (h0 : 0 ≤ k) (hk : k < 128) (he : acc ++ numF (f + 1) k.toNat = num n) : num n = acc ++ [UInt8.ofNat k.toNat] := by
  rw [← he, numF_small (by omega)]

/- numbers read from bytes: place by place, the lowest seven bits first -/
def readF : Nat → Bool → List UInt8 → Option (Nat × List UInt8)
  | 0, _, _ => none
  | _ + 1, _, [] => none
  | f + 1, first, c :: r =>
    if c.toNat < 128 then (if c.toNat = 0 ∧ first = false then none else some (c.toNat, r))
    else match readF f false r with
      | none => none
      | some (n, r') => some (c.toNat - 128 + 128 * n, r')
def readNum (l : List UInt8) : Option (Nat × List UInt8) := readF 9 true l
/- what is read behind n, which k bytes have told -/
def lift (n k : Nat) : Option (Nat × List UInt8) → Option (Nat × List UInt8)
  | none => none
  | some (m, r) => some (n + 128 ^ k * m, r)

theorem andNot_fin : ∀ x : Fin 256, bits .andNot .u8 ((x.val : Nat) : Int) 128 = ((x.val % 128 : Nat) : Int) := by decide +kernel
theorem andNot_byte (c : UInt8) : bits .andNot .u8 (c.toNat : Int) 128 = ((c.toNat % 128 : Nat) : Int) := andNot_fin ⟨c.toNat, c.toNat_lt⟩
theorem wrap_small {n : Int} (h0 : 0 ≤ n) (h1 : n < 9223372036854775808) : wrap64 n = n := by unfold wrap64; omega
theorem i64_or (a b : Nat) (ha : a < 9223372036854775808) (hb : b < 9223372036854775808) : bits .or .i64 (a : Int) (b : Int) = ((a ||| b : Nat) : Int) := by
  have hx : a ||| b < 2 ^ 63 := Nat.or_lt_two_pow (by omega) (by omega)
  show IntKind.i64.wrap ((BitVec.ofInt 64 (a : Int) ||| BitVec.ofInt 64 (b : Int)).toNat : Int) = _
  rw [BitVec.toNat_or, ofInt_u64 a (by omega), ofInt_u64 b (by omega)]
  simp [IntKind.wrap, IntKind.bits, IntKind.signed]
  omega
theorem pow_split (k : Nat) : (2 : Nat) ^ (7 * k) = 128 ^ k := by rw [Nat.pow_mul]
theorem pow_le8 {k : Nat} (h : k < 9) : (128 : Nat) ^ k ≤ 128 ^ 8 := Nat.pow_le_pow_right (by omega) (by omega)
theorem or_step {n k : Nat} (c : UInt8) (hk : k < 9) (hn : n < 128 ^ k) :
    bits .or .i64 (n : Int) (wrap64 (wrap64 (bits .andNot .u8 (c.toNat : Int) 128) * 2 ^ (7 * k))) = ((n + c.toNat % 128 * 128 ^ k : Nat) : Int) := by
  have h8 := pow_le8 hk
  have hc : c.toNat % 128 < 128 := Nat.mod_lt _ (by omega)
  have hm : c.toNat % 128 * 128 ^ k ≤ 127 * 128 ^ 8 := Nat.mul_le_mul (by omega) h8
  rw [andNot_byte, wrap_small (n := ((c.toNat % 128 : Nat) : Int)) (by omega) (by omega)]
  have e : ((c.toNat % 128 : Nat) : Int) * 2 ^ (7 * k) = ((c.toNat % 128 * 128 ^ k : Nat) : Int) := by
    rw [← pow_split k]; simp
  rw [e, wrap_small (by omega) (by omega), i64_or _ _ (by omega) (by omega)]
  have ho := Nat.shiftLeft_add_eq_or_of_lt (b := n) (i := 7 * k) (by rw [pow_split]; exact hn) (c.toNat % 128)
  rw [Nat.shiftLeft_eq, pow_split] at ho
  rw [Nat.or_comm, ← ho, Nat.add_comm]
theorem drop_cons (s : ByteArray) (k : Nat) (h : k < s.size) : s.data.toList.drop k = s[k] :: s.data.toList.drop (k + 1) := by
  rw [List.drop_eq_getElem_cons (by simpa using h)]; rfl
theorem bytes_inj {a b : ByteArray} (h : a.data.toList = b.data.toList) : a = b := by
  obtain ⟨⟨a⟩⟩ := a; obtain ⟨⟨b⟩⟩ := b; simp at h; rw [h]
theorem mk_append (l : List UInt8) (s : ByteArray) : (⟨l.toArray⟩ ++ s : ByteArray) = ⟨(l ++ s.data.toList).toArray⟩ := by
  apply bytes_inj; obtain ⟨⟨s⟩⟩ := s; simp
theorem extract_end (s : ByteArray) (k : Nat) : s.extract k s.size = ⟨(s.data.toList.drop k).toArray⟩ := by
  apply bytes_inj; rw [Lib.extract_to_end]
def first (k : Nat) : Bool := decide (k = 0)
def Reads (l : List UInt8) (n k : Nat) : Prop := n < 128 ^ k ∧ readNum l = lift n k (readF (9 - k) (first k) (l.drop k))
theorem reads_start (l : List UInt8) : Reads l 0 0 := by
  refine ⟨by simp, ?_⟩
  show readF 9 true l = lift 0 0 (readF 9 true l)
  rcases readF 9 true l with _ | ⟨m, r⟩ <;> simp [lift]
theorem reads_more {s : ByteArray} {n k : Nat} (h : Reads s.data.toList n k) (hk : k < 9) (hlt : k < s.size) (hc : 128 ≤ (s[k].toNat : Int)) :
    Reads s.data.toList (n + s[k].toNat % 128 * 128 ^ k) (k + 1) := by
  obtain ⟨h1, h2⟩ := h
  have hb : s[k].toNat < 256 := s[k].toNat_lt
  have hm : s[k].toNat % 128 = s[k].toNat - 128 := by omega
  refine ⟨?_, ?_⟩
  · rw [Nat.pow_succ]
    have : s[k].toNat % 128 * 128 ^ k ≤ 127 * 128 ^ k := Nat.mul_le_mul_right _ (by omega)
    omega
  · rw [h2, drop_cons s k hlt, show 9 - k = (8 - k) + 1 by omega, show 9 - (k + 1) = 8 - k by omega]
    rw [readF, if_neg (by omega), show first (k + 1) = false by simp [first]]
    rcases readF (8 - k) false (s.data.toList.drop (k + 1)) with _ | ⟨m, r⟩
    · rfl
    · simp only [lift]
      rw [hm, Nat.pow_succ]
      congr 2
      rw [Nat.mul_add, Nat.mul_comm (128 ^ k) (s[k].toNat - 128), ← Nat.mul_assoc, Nat.add_assoc]
theorem reads_zero {s : ByteArray} {n k : Nat} (h : Reads s.data.toList n k) (hk : k < 9) (hlt : k < s.size) (hc : s[k].toNat = 0) (h0 : 0 < k) : readNum s.data.toList = none := by
  rw [h.2, drop_cons s k hlt, show 9 - k = (8 - k) + 1 by omega, readF, if_pos (by omega), if_pos ⟨hc, by simp [first]; omega⟩]; rfl
theorem reads_last {s : ByteArray} {n k : Nat} (h : Reads s.data.toList n k) (hk : k < 9) (hlt : k < s.size) (hc : (s[k].toNat : Int) < 128) (h0 : ¬ (s[k].toNat = 0 ∧ 0 < k)) :
    readNum s.data.toList = some (n + s[k].toNat % 128 * 128 ^ k, s.data.toList.drop (k + 1)) := by
  rw [h.2, drop_cons s k hlt, show 9 - k = (8 - k) + 1 by omega, readF, if_pos (by omega), if_neg (by simp [first]; omega)]
  simp only [lift]
  rw [Nat.mod_eq_of_lt (by omega), Nat.mul_comm]
theorem reads_end {s : ByteArray} {n k : Nat} (h : Reads s.data.toList n k) (hk : ¬ (k < s.size ∧ k < 9)) : readNum s.data.toList = none := by
  rw [h.2]
  by_cases h9 : k < 9
  · rw [List.drop_of_length_le (by simp; omega), show 9 - k = (8 - k) + 1 by omega, readF]; rfl
  · rw [show 9 - k = 0 by omega, readF]; rfl
def readTx (l : List UInt8) : Option (List UInt8 × List UInt8) :=
  match readNum l with
  | none => none
  | some (n, r) => if n ≤ r.length then some (r.take n, r.drop n) else none
theorem readF_len : ∀ (f : Nat) (b : Bool) (l : List UInt8) (n : Nat) (r : List UInt8), readF f b l = some (n, r) → r.length < l.length
  | 0, _, _, _, _, h => by simp [readF] at h
  | f + 1, _, [], _, _, h => by simp [readF] at h
  | f + 1, b, c :: l, n, r, h => by
    unfold readF at h
    split at h
    · split at h
      · cases h
      · simp only [Option.some.injEq, Prod.mk.injEq] at h
        rw [← h.2]; simp
    · rcases hq : readF f false l with _ | ⟨m, r'⟩
      · rw [hq] at h; cases h
      · rw [hq] at h
        simp only [Option.some.injEq, Prod.mk.injEq] at h
        have := readF_len f false l m r' hq
        rw [← h.2]; simp; omega
theorem readNum_len {l : List UInt8} {n : Nat} {r : List UInt8} (h : readNum l = some (n, r)) : r.length ≤ l.length := Nat.le_of_lt (readF_len 9 true l n r h)
theorem readTx_some {l : List UInt8} {n : Nat} {r : List UInt8} (h : readNum l = some (n, r)) (hn : n ≤ r.length) : readTx l = some (r.take n, r.drop n) := by
  rw [readTx, h]; simp [hn]
theorem extract_mk_take (r : List UInt8) (n : Nat) : (⟨r.toArray⟩ : ByteArray).extract 0 n = ⟨(r.take n).toArray⟩ := by
  apply bytes_inj; rw [Lib.extract_data]; simp
theorem extract_mk_drop (r : List UInt8) (n : Nat) : (⟨r.toArray⟩ : ByteArray).extract n (⟨r.toArray⟩ : ByteArray).size = ⟨(r.drop n).toArray⟩ := by
  apply bytes_inj; rw [Lib.extract_to_end]
/- tags -/
def tagOk (ts : List ByteArray) (i : Nat) : Bool :=
  nameB (ts[i]?.getD ByteArray.empty) && (decide (i = 0) || Op.bytesLess (ts[i - 1]?.getD ByteArray.empty).toList (ts[i]?.getD ByteArray.empty).toList)
def tagsB (ts : List ByteArray) : Bool := decide (ts.length ≤ 4) && (List.range ts.length).all (tagOk ts)
theorem tags_many {ts : List ByteArray} (h : 4 < ts.length) : tagsB ts = false := by simp [tagsB]; omega
theorem tags_all {ts : List ByteArray} {k : Nat} (h4 : ts.length ≤ 4) (hk : ts.length ≤ k) (h : ∀ j, j < k → tagOk ts j = true) : tagsB ts = true := by
  simp only [tagsB, Bool.and_eq_true, decide_eq_true_eq, List.all_eq_true, List.mem_range]
  exact ⟨h4, fun j hj => h j (by omega)⟩
theorem tags_not {ts : List ByteArray} {k : Nat} (hk : k < ts.length) (h : tagOk ts k = false) : tagsB ts = false := by
  have : (List.range ts.length).all (tagOk ts) = false := by
    rw [List.all_eq_false]; exact ⟨k, by simpa using hk, by simp [h]⟩
  simp [tagsB, this]
theorem tag_first {ts : List ByteArray} {k : Nat} {t : ByteArray} {x : Bool} (h : tagOk ts k = (nameB t && (decide (k = 0) || x))) (hn : nameB t = true) (hk : ¬ 0 < k) : tagOk ts k = true := by
  rw [h, hn]; simp; left; omega
theorem tag_rise {ts : List ByteArray} {k : Nat} {t : ByteArray} {x : Bool} (h : tagOk ts k = (nameB t && (decide (k = 0) || x))) (hn : nameB t = true) (hx : (!x) = false) : tagOk ts k = true := by
  rw [h, hn]; simp at hx; simp [hx]
theorem tag_fall {ts : List ByteArray} {k : Nat} {t : ByteArray} {x : Bool} (h : tagOk ts k = (nameB t && (decide (k = 0) || x))) (hk : 0 < k) (hx : (!x) = true) : tagOk ts k = false := by
  rw [h]; simp at hx; simp [hx]; omega
theorem tag_bad {ts : List ByteArray} {k : Nat} {t : ByteArray} {x : Bool} (h : tagOk ts k = (nameB t && (decide (k = 0) || x))) (hn : nameB t = false) : tagOk ts k = false := by
  rw [h, hn]; simp
theorem tag_next {ts : List ByteArray} {k : Nat} (h : ∀ j, j < k → tagOk ts j = true) (hk : tagOk ts k = true) : ∀ j, j < k + 1 → tagOk ts j = true := by
  intro j hj
  rcases Nat.lt_or_ge j k with h1 | h1
  · exact h j h1
  · rw [show j = k by omega]; exact hk
/- an event -/
structure Ev where
  kind : Int
  task : ByteArray
  time : Int
  body : ByteArray
  tags : List ByteArray
def isB (e : Ev) : Bool :=
  decide (1 ≤ e.kind) && (decide (e.kind ≤ 4) && (nameB e.task && (decide (0 ≤ e.time) && (decide (e.time ≤ 1125899906842624) && (lineB e.body && tagsB e.tags)))))
def dashB (t : ByteArray) : Bool := t.toList == [45]
def fitsB (v : Int) (e : Ev) : Bool :=
  !(decide (v ≤ 2) && decide (0 < e.tags.length)) && (decide (1 < v) || (decide (e.time = 0) && (decide (e.kind ≠ 4) && !dashB e.task)))
def goesB (v : Int) (e : Ev) : Bool := isVer v && (isB e && fitsB v e)
theorem shift_bd (v : Int) : 0 ≤ shift v ∧ shift v ≤ 1 := by unfold shift; split <;> omega
theorem wrapI_small {n : Int} (h0 : -9223372036854775808 ≤ n) (h1 : n < 9223372036854775808) : IntKind.i64.wrap n = n := by
  simp [IntKind.wrap, IntKind.bits, IntKind.signed]; omega
end Chron
namespace Chron
open Go Go.RowKit
/- the bytes of an event -/
def timePart (m : Int) : List UInt8 := if m = 0 then [] else num 3 ++ num m.toNat
def bodyPart (b : ByteArray) : List UInt8 := if b.toList = [] then [] else num 4 ++ text b.data.toList
def tagPart (t : ByteArray) : List UInt8 := num 5 ++ text t.data.toList
def tagParts (ts : List ByteArray) : List UInt8 := (ts.map tagPart).flatten
def front (j : Nat) (t : ByteArray) : List UInt8 := num 1 ++ num j ++ (num 2 ++ text t.data.toList)
def fieldsB (v : Int) (e : Ev) : List UInt8 := front (e.kind - shift v).toNat e.task ++ timePart e.time ++ bodyPart e.body ++ tagParts e.tags
def Lines (ts : List ByteArray) : Prop := ∀ t ∈ ts, t.size ≤ 60
theorem text_len (l : List UInt8) : (text l).length ≤ l.length + 10 := by have := num_len l.length; simp [text]; omega
theorem front_len (j : Nat) (t : ByteArray) (h : t.size ≤ 60) : (front j t).length ≤ 100 := by
  have h1 := num_len 1; have h2 := num_len 2; have h3 := num_len j; have h4 := text_len t.data.toList
  have h5 : t.data.toList.length = t.size := by simp
  simp only [front, List.length_append]; omega
theorem timePart_len (m : Int) : (timePart m).length ≤ 20 := by
  have h1 := num_len 3; have h2 := num_len m.toNat
  unfold timePart; split <;> simp; omega
theorem bodyPart_len (b : ByteArray) (h : b.size ≤ 60) : (bodyPart b).length ≤ 80 := by
  have h1 := num_len 4; have h4 := text_len b.data.toList
  have h5 : b.data.toList.length = b.size := by simp
  unfold bodyPart; split
  · simp
  · simp only [List.length_append]; omega
theorem tagPart_len (t : ByteArray) (h : t.size ≤ 60) : (tagPart t).length ≤ 80 := by
  have h1 := num_len 5; have h4 := text_len t.data.toList
  have h5 : t.data.toList.length = t.size := by simp
  simp only [tagPart, List.length_append]; omega
theorem tagParts_len : ∀ (ts : List ByteArray), Lines ts → (tagParts ts).length ≤ 80 * ts.length
  | [], _ => by simp [tagParts]
  | t :: ts, h => by
    have h1 := tagPart_len t (h t (by simp))
    have h2 := tagParts_len ts (fun x hx => h x (by simp [hx]))
    simp only [tagParts, List.map_cons, List.flatten_cons, List.length_append, List.length_cons] at h2 ⊢
    omega
theorem tagParts_snoc (ts : List ByteArray) (k : Nat) (h : k < ts.length) : tagParts (ts.take (k + 1)) = tagParts (ts.take k) ++ tagPart (ts[k]?.getD ByteArray.empty) := by
  rw [List.take_succ_eq_append_getElem h]
  simp only [tagParts, List.map_append, List.map_cons, List.map_nil, List.flatten_append, List.flatten_cons, List.flatten_nil, List.append_nil]
  rw [List.getElem?_eq_getElem h]; rfl
theorem Lines.take {ts : List ByteArray} (h : Lines ts) (k : Nat) : Lines (ts.take k) := fun t ht => h t (List.mem_of_mem_take ht)
theorem Lines.get {ts : List ByteArray} (h : Lines ts) {i : Nat} (hi : i < ts.length) : (ts[i]?.getD ByteArray.empty).size ≤ 60 := by
  rw [List.getElem?_eq_getElem hi]; exact h _ (List.getElem_mem hi)
def letterOf (k : Int) : UInt8 := if k = 1 then 98 else if k = 2 then 100 else 102
def letterB (e : Ev) : List UInt8 := letterOf e.kind :: text e.task.data.toList ++ e.body.data.toList
def encB (v : Int) (e : Ev) : List UInt8 × Int :=
  if isVer v = false then ([], 1) else if goesB v e = false then ([], 2) else if v = 1 then (letterB e, 0) else (fieldsB v e, 0)
theorem letter_cases {k : Int} (h1 : 1 ≤ k) (h4 : k ≤ 4) (h : ¬ k = 4) : k = 1 ∧ letterOf k = 98 ∨ k = 2 ∧ letterOf k = 100 ∨ k = 3 ∧ letterOf k = 102 := by
  have : k = 1 ∨ k = 2 ∨ k = 3 := by omega
  rcases this with rfl | rfl | rfl <;> simp [letterOf]
theorem letter_eq {e b : ByteArray} {c : UInt8} {x : List UInt8} (he : e.data.toList = [c]) : e ++ ⟨x.toArray⟩ ++ b = ⟨(c :: x ++ b.data.toList).toArray⟩ := by
  apply bytes_inj
  obtain ⟨⟨e⟩⟩ := e; obtain ⟨⟨b⟩⟩ := b
  simp at he; subst he; simp
/- what is known of an event -/
structure Known (e : Ev) : Prop where
  k1 : 1 ≤ e.kind
  k4 : e.kind ≤ 4
  task : e.task.size ≤ 60
  named : e.task.toList ≠ []
  t0 : 0 ≤ e.time
  t1 : e.time ≤ 1125899906842624
  body : e.body.size ≤ 60
  few : e.tags.length ≤ 4
  lines : Lines e.tags
theorem line_size {s : ByteArray} (h : lineB s = true) : s.size ≤ 60 := by simp [lineB] at h; exact h.1
theorem name_size {s : ByteArray} (h : nameB s = true) : s.size ≤ 60 := by simp only [nameB, Bool.and_eq_true] at h; exact line_size h.2
theorem name_ne {s : ByteArray} (h : nameB s = true) : s.toList ≠ [] := by simp [nameB] at h; exact h.1
theorem tags_known {ts : List ByteArray} (h : tagsB ts = true) : ts.length ≤ 4 ∧ Lines ts := by
  simp only [tagsB, Bool.and_eq_true, decide_eq_true_eq, List.all_eq_true, List.mem_range] at h
  refine ⟨h.1, fun t ht => ?_⟩
  obtain ⟨i, hi, rfl⟩ := List.getElem_of_mem ht
  have := h.2 i hi
  simp only [tagOk, Bool.and_eq_true] at this
  have h1 := name_size this.1
  rw [List.getElem?_eq_getElem hi] at h1
  exact h1
theorem is_known {e : Ev} (h : isB e = true) : Known e := by
  simp only [isB, Bool.and_eq_true, decide_eq_true_eq] at h
  obtain ⟨h1, h2, h3, h4, h5, h6, h7⟩ := h
  exact ⟨h1, h2, name_size h3, name_ne h3, h4, h5, line_size h6, (tags_known h7).1, (tags_known h7).2⟩
theorem goes_is {v : Int} {e : Ev} (h : goesB v e = true) : isB e = true := by simp only [goesB, Bool.and_eq_true] at h; exact h.2.1
theorem goes_ver {v : Int} {e : Ev} (h : goesB v e = true) : isVer v = true := by simp only [goesB, Bool.and_eq_true] at h; exact h.1
theorem goes_one {e : Ev} (h : goesB 1 e = true) : ¬ e.kind = 4 ∧ e.time = 0 ∧ e.tags.length = 0 ∧ dashB e.task = false := by
  simp [goesB, fitsB] at h
  obtain ⟨_, _, h1, h2, h3, h4⟩ := h
  exact ⟨h3, h2, by rw [h1]; rfl, h4⟩
theorem time_small {m : Int} (h : m ≤ 1125899906842624) : m.toNat < 128 ^ 9 := by omega
end Chron
namespace Chron
open Go Go.RowKit
def escB (c : UInt8) : List UInt8 := if c = 34 ∨ c = 92 then [92, c] else [c]
def inQ (s : List UInt8) : List UInt8 := s.flatMap escB
def qB (s : List UInt8) : List UInt8 := 34 :: (inQ s ++ [34])
theorem escB_len (c : UInt8) : (escB c).length ≤ 2 := by unfold escB; split <;> simp
theorem inQ_len (s : List UInt8) : (inQ s).length ≤ 2 * s.length := by
  induction s with
  | nil => simp [inQ]
  | cons c s ih => have := escB_len c; simp only [inQ, List.flatMap_cons, List.length_append, List.length_cons] at *; omega
theorem qB_len (s : List UInt8) : (qB s).length ≤ 2 * s.length + 2 := by have := inQ_len s; simp [qB]; omega
theorem inQ_take (s : ByteArray) (k : Nat) (h : k < s.size) : inQ (s.data.toList.take (k + 1)) = inQ (s.data.toList.take k) ++ escB s[k] := by
  rw [take_snoc s k h, inQ, inQ, List.flatMap_append]; simp
theorem esc_yes {c : UInt8} (h : (c.toNat : Int) = 34 ∨ (c.toNat : Int) = 92) : escB c = [92, c] := by
  have : c = 34 ∨ c = 92 := by
    rcases h with h | h
    · exact .inl (UInt8.toNat_inj.1 (by simpa using (by omega : c.toNat = 34)))
    · exact .inr (UInt8.toNat_inj.1 (by simpa using (by omega : c.toNat = 92)))
  simp [escB, this]
theorem esc_no {c : UInt8} (h1 : ¬ (c.toNat : Int) = 34) (h2 : ¬ (c.toNat : Int) = 92) : escB c = [c] := by
  have : ¬ (c = 34 ∨ c = 92) := by
    rintro (rfl | rfl)
    · exact h1 rfl
    · exact h2 rfl
  simp [escB, this]
/- texts with a comma between two -/
def jn : List (List UInt8) → List UInt8
  | [] => []
  | x :: r => x ++ r.flatMap (fun y => 44 :: y)
theorem jn_snoc {l : List (List UInt8)} (h : l ≠ []) (y : List UInt8) : jn (l ++ [y]) = jn l ++ 44 :: y := by
  match l, h with
  | x :: r, _ => simp [jn]
theorem jn_one (y : List UInt8) : jn [y] = y := by simp [jn]
theorem jn_len {l : List (List UInt8)} {m : Nat} (h : ∀ x ∈ l, x.length ≤ m) : (jn l).length ≤ l.length * (m + 1) := by
  match l with
  | [] => simp [jn]
  | x :: r =>
    have hr : ∀ r : List (List UInt8), (∀ y ∈ r, y.length ≤ m) → (r.flatMap (fun y => (44 : UInt8) :: y)).length ≤ r.length * (m + 1) := by
      intro r
      induction r with
      | nil => simp
      | cons y r ih =>
        intro h
        have h1 := h y (by simp)
        have h2 := ih (fun z hz => h z (by simp [hz]))
        simp only [List.flatMap_cons, List.length_append, List.length_cons]
        rw [Nat.add_mul]
        omega
    have h1 := h x (by simp)
    have h2 := hr r (fun y hy => h y (by simp [hy]))
    simp only [jn, List.length_append, List.length_cons]
    rw [Nat.add_mul]
    omega
theorem jn_take_zero {l : List (List UInt8)} {y : List UInt8} (h : l[0]? = some y) : jn (l.take 1) = y := by
  match l, h with
  | x :: r, h => simp at h; subst h; simp [jn]
theorem jn_take {l : List (List UInt8)} {k : Nat} {y : List UInt8} (h : l[k]? = some y) (h0 : 0 < k) : jn (l.take (k + 1)) = jn (l.take k) ++ 44 :: y := by
  have hk := (List.getElem?_eq_some_iff.1 h).1
  have hy : l[k] = y := by rw [List.getElem?_eq_getElem hk] at h; exact Option.some.inj h
  rw [List.take_succ_eq_append_getElem hk, hy, jn_snoc]
  intro e
  have := congrArg List.length e
  rw [List.length_take, List.length_nil] at this
  omega
def listB (l : List (List UInt8)) : List UInt8 := 91 :: (jn l ++ [93])
def wordB (k : Int) : List UInt8 := if k = 1 then [98, 101, 103, 117, 110] else if k = 2 then [100, 111, 110, 101] else if k = 3 then [102, 97, 105, 108, 101, 100] else [110, 111, 116, 101, 100]
def lit1 : List UInt8 := [123, 34, 98, 111, 100, 121, 34, 58]
def lit2 : List UInt8 := [44, 34, 107, 105, 110, 100, 34, 58]
def lit3 : List UInt8 := [44, 34, 116, 97, 103, 115, 34, 58]
def lit4 : List UInt8 := [44, 34, 116, 97, 115, 107, 34, 58]
def lit5 : List UInt8 := [44, 34, 116, 105, 109, 101, 34, 58]
def tagsT (ts : List ByteArray) : List (List UInt8) := ts.map fun t => qB t.data.toList
def tellB (e : Ev) : List UInt8 := lit1 ++ qB e.body.data.toList ++ lit2 ++ qB (wordB e.kind) ++ lit3 ++ listB (tagsT e.tags) ++ lit4 ++ qB e.task.data.toList ++ lit5 ++ Lib.itoa e.time ++ [125]
def expB (l : List Ev) : List UInt8 × Int := if 200 < l.length then ([], 5) else if l.all isB then (listB (l.map tellB), 0) else ([], 2)
theorem tagsT_at {ts : List ByteArray} {k : Nat} (h : k < ts.length) : (tagsT ts)[k]? = some (qB (ts[k]?.getD ByteArray.empty).data.toList) := by simp [tagsT, h]
theorem tagsT_len (ts : List ByteArray) : (tagsT ts).length = ts.length := by simp [tagsT]
theorem tagsT_short {ts : List ByteArray} (h : ∀ t ∈ ts, t.size ≤ 60) : ∀ x ∈ tagsT ts, x.length ≤ 122 := by
  intro x hx
  simp only [tagsT, List.mem_map] at hx
  obtain ⟨t, ht, rfl⟩ := hx
  have := qB_len t.data.toList
  have := h t ht
  simp at *
  omega
theorem digits_len (f : Nat) : ∀ u, u < 10 ^ f → (Lib.decDigits u).length ≤ max f 1 := by
  induction f with
  | zero => intro u h; rw [Lib.decDigits, dif_pos (by omega)]; simp
  | succ f ih =>
    intro u h
    rw [Lib.decDigits]
    split
    · simp only [List.length_singleton]; omega
    · have := ih (u / 10) (by rw [Nat.pow_succ] at h; exact Nat.div_lt_of_lt_mul (by omega))
      rename_i h9
      rcases Nat.eq_zero_or_pos f with rfl | hf
      · simp at h; omega
      · simp; omega
theorem itoa_len {m : Int} (h0 : 0 ≤ m) (h1 : m ≤ 1125899906842624) : (Lib.itoa m).length ≤ 16 := by
  have := digits_len 16 m.toNat (by omega)
  rw [Lib.itoa, if_neg (by omega)]; omega
theorem word_len (k : Int) : (wordB k).length ≤ 6 := by unfold wordB; split; · simp
                                                        split; · simp
                                                        split <;> simp
theorem word_q (k : Int) : qB (wordB k) = 34 :: (wordB k ++ [34]) := by
  unfold wordB; split; · decide
  split; · decide
  split <;> decide
theorem tell_len {e : Ev} (h : isB e = true) : (tellB e).length ≤ 1000 := by
  obtain ⟨h1, h4, htk, _, ht0, ht1, hbd, hfew, hlines⟩ := is_known h
  have a1 := qB_len e.body.data.toList
  have a2 := qB_len e.task.data.toList
  have a3 := qB_len (wordB e.kind)
  have a4 := word_len e.kind
  have a5 := itoa_len ht0 ht1
  have a6 := jn_len (tagsT_short hlines)
  rw [tagsT_len] at a6
  have a7 : e.tags.length * 123 ≤ 4 * 123 := Nat.mul_le_mul_right _ hfew
  have b1 : e.body.data.toList.length = e.body.size := by simp
  have b2 : e.task.data.toList.length = e.task.size := by simp
  rw [b1] at a1
  rw [b2] at a2
  simp only [tellB, listB, List.length_append, List.length_cons, List.length_nil, lit1, lit2, lit3, lit4, lit5] at *
  omega
end Chron
namespace Go.Proofs.YtdjllnhahhjgmaaDoor
open Go.RowKit Chron

theorem ret_int {k : IntKind} {a b : Int} (h : a = b) : Ending.returned (.int k a) = .returned (.int k b) := by rw [h]
theorem ret_bool {a b : Bool} (h : a = b) : Ending.returned (.bool a) = .returned (.bool b) := by rw [h]
theorem ret_str {a b : ByteArray} (h : a = b) : Ending.returned (.string a) = .returned (.string b) := by rw [h]

set_option maxHeartbeats 400000 in
theorem isPlain_any (c : Int) (w : World) :
    Calls Tryd.prog 33 #[.int .u8 c] w fun e w' => e = .returned (.bool (decide (32 ≤ c ∧ c ≤ 126))) ∧ w' = w := by
  go_enter Tryd.func33, Tryd.ntmps33
  go_wp2
  all_goals
    go_ret
    exact ⟨ret_bool (by rw [Bool.eq_iff_iff]; simp; omega), rfl⟩

set_option maxHeartbeats 400000 in
theorem isLine_any (s : ByteArray) (w : World) (hs : s.size ≤ maxLen) :
    Calls Tryd.prog 25 #[.string s] w fun e w' => e = .returned (.bool (lineB s)) ∧ w' = w := by
  unfold maxLen at hs
  go_enter Tryd.func25, Tryd.ntmps25
  go_wp2
  · go_ret
    have h : 60 < s.size := by omega
    exact ⟨ret_bool (line_long h).symm, rfl⟩
  · have h60 : s.size ≤ 60 := by omega
    go_loop [9] (fun i => ∃ k : Nat, k ≤ s.size ∧ i = .int .i64 k ∧ (s.data.toList.take k).all byteOk = true) (fun i => s.size - (intOf i).toNat)
    case atStart => exact ⟨0, Nat.zero_le _, rfl, rfl⟩
    case round =>
      obtain ⟨k, hk, rfl, hall⟩ := hrel
      have HA : Hid ((s.data.toList.take k).all byteOk = true) := hall
      clear hall
      by_cases hlt : k < s.size
      · have hP := fun w => isPlain_any (s[k].toNat : Int) w
        by_cases hb : 32 ≤ (s[k].toNat : Int) ∧ (s[k].toNat : Int) ≤ 126
        · rw [decide_eq_true hb] at hP
          have HB : Hid _ := hb
          clear hb
          go_wp2_with (go_at_call 33; refine (hP _).mono ?_; rintro e w' ⟨rfl, rfl⟩)
          go_round
          case rel => exact ⟨k + 1, by omega, by go_num, all_step s k hlt HA.out HB.out.1 HB.out.2⟩
          case measure => simp [intOf]; omega
        · rw [decide_eq_false hb] at hP
          have HB : Hid _ := hb
          clear hb
          go_wp2_with (go_at_call 33; refine (hP _).mono ?_; rintro e w' ⟨rfl, rfl⟩)
          go_ret
          exact ⟨ret_bool (all_fails s k hlt (by have h9 : ¬ (32 ≤ (s[k].toNat : Int) ∧ (s[k].toNat : Int) ≤ 126) := HB; omega)).symm, rfl⟩
      · go_wp2
        go_ret
        exact ⟨ret_bool (line_done h60 (by omega) HA.out).symm, rfl⟩

set_option maxHeartbeats 400000 in
theorem isName_any (s : ByteArray) (w : World) (hs : s.size ≤ maxLen) :
    Calls Tryd.prog 24 #[.string s] w fun e w' => e = .returned (.bool (nameB s)) ∧ w' = w := by
  go_enter Tryd.func24, Tryd.ntmps24
  go_wp2_with (go_at_call 25; refine (isLine_any _ _ hs).mono ?_; rintro e w' ⟨rfl, rfl⟩)
  · go_ret
    have h : s.toList = [] := by assumption
    exact ⟨ret_bool (by simp [nameB, h]), rfl⟩
  · go_ret
    exact ⟨rfl, rfl⟩
end Go.Proofs.YtdjllnhahhjgmaaDoor
namespace Go.Proofs.YtdjllnhahhjgmaaDoor
open Go.RowKit Chron
theorem infoByte : (Tryd.prog.info? 5).map (fun i => (i.zero, i.size, i.bytes)) = some (some (.int .u8 0), 1, 1) := by kernel_rfl
theorem byteCells_snoc (l : List UInt8) (b : UInt8) (x : Int) (h : x = (b.toNat : Int)) : Lib.byteCells l ++ [.int .u8 x] = Lib.byteCells (l ++ [b]) := by
  subst h; simp [Lib.byteCells]
theorem conv_owned {w : World} {B n : Nat} {v : Value} {l : List UInt8} (h : w.ownsRow B 5 1 v n (Lib.byteCells l)) (hne : l ≠ []) :
    (convert 51 9 v).run Tryd.prog w = .ok (.string ⟨l.toArray⟩) w := by
  obtain ⟨hl, h | ⟨g, cap, cur, rfl, hg, hh, hn, hcap, hsz, htake⟩⟩ := h
  · obtain ⟨rfl, rfl⟩ := h
    simp [Lib.byteCells] at hl; exact absurd hl hne
  · have hn' : n = l.length := by simp [Lib.byteCells] at hl; omega
    subst hn'
    refine run_convert_bytes_back w _ _ 5 ⟨g, 0, none⟩ cap l Tryd.underlying51 Tryd.underlying5 Tryd.underlying9 ?_
    intro j hj
    have h1 : World.ownsRow w B 5 1 (.slice (some ⟨g, 0, none⟩) l.length cap) l.length (Lib.byteCells l) := ⟨hl, .inr ⟨g, cap, cur, rfl, hg, hh, hn, hcap, hsz, htake⟩⟩
    refine h1.cells (g := g) rfl j _ ?_
    simp [Lib.byteCells, hj]
end Go.Proofs.YtdjllnhahhjgmaaDoor
namespace Go.Proofs.YtdjllnhahhjgmaaDoor
open Go.RowKit Chron
/- n strings lie behind an address -/
def TagsAt (w : World) (a : Option Addr) (ts : List ByteArray) : Prop :=
  0 < ts.length → ∃ b off, a = some ⟨b, off, none⟩ ∧ ∀ i, i < ts.length → w.cell? ⟨b, off + i, none⟩ = some (.string (ts[i]?.getD ByteArray.empty))
def Short (ts : List ByteArray) : Prop := ∀ i, i < ts.length → (ts[i]?.getD ByteArray.empty).size ≤ maxLen

theorem bcell {W w1 : World} (hb : Below W.heap.size W w1) : (∀ b o, b < W.heap.size → w1.cell? ⟨b, o, none⟩ = W.cell? ⟨b, o, none⟩) ∧ (∀ b o, b < W.heap.size → w1.frozen? ⟨b, o, none⟩ = W.frozen? ⟨b, o, none⟩) :=
  ⟨fun b o h => hb.cell (p := ⟨b, o, none⟩) h, fun b o h => hb.frozen (p := ⟨b, o, none⟩) h⟩

set_option maxRecDepth 100000 in
set_option maxHeartbeats 400000 in
theorem areTags_any (a : Option Addr) (cap : Nat) (ts : List ByteArray) (w : World) (ht : Hid (TagsAt w a ts)) (hs : Hid (Short ts)) (hl : ts.length ≤ maxLen) :
    Calls Tryd.prog 26 #[.slice a ts.length cap] w fun e w' => e = .returned (.bool (tagsB ts)) ∧ w' = w := by
  unfold maxLen at hl
  by_cases h4 : 4 < ts.length
  · go_enter Tryd.func26, Tryd.ntmps26
    go_wp2
    go_ret
    exact ⟨ret_bool (tags_many h4).symm, rfl⟩
  · go_enter Tryd.func26, Tryd.ntmps26
    go_wp2
    go_loop [10] (fun i => ∃ k : Nat, k ≤ ts.length ∧ i = .int .i64 k ∧ Hid (∀ j, j < k → tagOk ts j = true)) (fun i => ts.length - (intOf i).toNat)
    case atStart => exact ⟨0, Nat.zero_le _, rfl, fun j hj => by omega⟩
    case round =>
      obtain ⟨k, hk, rfl, HA⟩ := hrel
      by_cases hlt : k < ts.length
      · obtain ⟨b, off, rfl, hc⟩ := ht.out (by omega)
        have hck := hc k hlt
        have hsk := hs.out k hlt
        have HC : Hid _ := hc
        clear hc
        have HO : Hid (tagOk ts k = (nameB (ts[k]?.getD ByteArray.empty) && (decide (k = 0) || Op.bytesLess (ts[k - 1]?.getD ByteArray.empty).toList (ts[k]?.getD ByteArray.empty).toList))) := rfl
        generalize ts[k]?.getD ByteArray.empty = t at hck hsk HO
        by_cases hn : nameB t = true
        · by_cases hk0 : 0 < k
          · have hcp := HC.out (k - 1) (by omega)
            generalize ts[k - 1]?.getD ByteArray.empty = p at hcp HO
            go_wp2_with (go_at_call 24; refine (isName_any _ _ hsk).mono ?_; rintro e w' ⟨rfl, rfl⟩)
            · go_ret
              exact ⟨ret_bool (tags_not hlt (tag_fall HO.out hk0 (by assumption))).symm, rfl⟩
            · go_round
              case rel => exact ⟨k + 1, by omega, by go_num, tag_next HA.out (tag_rise HO.out hn (by assumption))⟩
              case measure => simp [intOf]; omega
          · go_wp2_with (go_at_call 24; refine (isName_any _ _ hsk).mono ?_; rintro e w' ⟨rfl, rfl⟩)
            · go_round
              case rel => exact ⟨k + 1, by omega, by go_num, tag_next HA.out (tag_first HO.out hn hk0)⟩
              case measure => simp [intOf]; omega
        · have hn' : nameB t = false := by simpa using hn
          clear hn
          go_wp2_with (go_at_call 24; refine (isName_any _ _ hsk).mono ?_; rintro e w' ⟨rfl, rfl⟩)
          go_ret
          exact ⟨ret_bool (tags_not hlt (tag_bad HO.out hn')).symm, rfl⟩
      · go_wp2
        go_ret
        exact ⟨ret_bool (tags_all (by omega) (by omega) HA.out).symm, rfl⟩

theorem TagsAt.below {w w' : World} {a : Option Addr} {ts : List ByteArray} {B : Nat} (h : TagsAt w a ts) (hb : Below B w w') (hB : w.heap.size ≤ B) : TagsAt w' a ts := by
  intro h0
  obtain ⟨b, off, rfl, hc⟩ := h h0
  refine ⟨b, off, rfl, fun i hi => ?_⟩
  have hi' := hc i hi
  have hlt := World.block_lt_of_cell? w _ hi'
  rw [hb.cell (p := ⟨b, off + i, none⟩) (by simp at hlt ⊢; omega)]; exact hi'
theorem TagsAt.alloc {w : World} {a : Option Addr} {ts : List ByteArray} (h : TagsAt w a ts) (o : Obj) : TagsAt (w.alloc o) a ts :=
  h.below (B := w.heap.size) ((Below.refl _ _).alloc (Nat.le_refl _) o) (Nat.le_refl _)

set_option maxRecDepth 100000 in
set_option maxHeartbeats 1000000 in
theorem is_any (k : Int) (t : ByteArray) (m : Int) (b : ByteArray) (a : Option Addr) (cap : Nat) (ts : List ByteArray) (w : World) (ht : Hid (TagsAt w a ts)) (hs : Hid (Short ts)) (hl : ts.length ≤ maxLen)
    (htl : t.size ≤ maxLen) (hbl : b.size ≤ maxLen) :
    Calls Tryd.prog 19 #[.agg #[.int .i64 k, .string t, .int .i64 m, .string b, .slice a ts.length cap]] w fun e w' => e = .returned (.bool (isB ⟨k, t, m, b, ts⟩)) ∧ Below w.heap.size w w' := by
  go_enter Tryd.func19, Tryd.ntmps19
  go_wp2_with (first
    | (go_at_call 24; refine (isName_any _ _ htl).mono ?_; rintro e w' ⟨rfl, rfl⟩)
    | (go_at_call 25; refine (isLine_any _ _ hbl).mono ?_; rintro e w' ⟨rfl, rfl⟩)
    | (go_at_call 26; refine (areTags_any _ _ _ _ (TagsAt.alloc ht.out _) hs hl).mono ?_; rintro e w' ⟨rfl, rfl⟩))
  all_goals
    go_ret
    exact ⟨ret_bool (by first | (simp [isB, *]; done) | (simp [isB]; intros; omega)), (Below.refl _ _).alloc (Nat.le_refl _) _⟩

end Go.Proofs.YtdjllnhahhjgmaaDoor
namespace Go.Proofs.YtdjllnhahhjgmaaDoor
open Go.RowKit Chron
theorem builder_below {T e : TypeId} {B b : Nat} {bs : List Value} {w w' : World} (h : Lib.IsBuilderF T e B b bs w) (hb : Below w.heap.size w w') : Lib.IsBuilderF T e B b bs w' := by
  have one : ∀ p, Lib.BuilderAtF T e B b p bs w → Lib.BuilderAtF T e B b p bs w' := by
    intro p h
    have hlt := h.lt
    obtain ⟨hB, v, hv, hown, hne⟩ := h
    exact ⟨hB, v, (hb.block b hlt).trans hv, hown.kept (row := none) ⟨hb.os, hb.tape, hb.output, hb.size, fun k hk _ => hb.block k hk⟩ (Classical.em _), hne⟩
  exact h.elim (fun x => .inl (one _ x)) (fun x => .inr (one _ x))
theorem builder_drew {T e : TypeId} {B b : Nat} {bs : List Value} {w : World} (h : Lib.IsBuilderF T e B b bs w) : Lib.IsBuilderF T e B b bs w.drew := h
theorem builder_lt {T e : TypeId} {B b : Nat} {bs : List Value} {w : World} (h : Lib.IsBuilderF T e B b bs w) : b < w.heap.size := h.elim (fun x => x.lt) (fun x => x.lt)
theorem builder_new (T e : TypeId) (w : World) : Lib.IsBuilderF T e w.heap.size w.heap.size (Lib.byteCells []) (w.alloc (.cells #[.pointer none, .slice none 0 0] T)) :=
  .inl ⟨Nat.le_refl _, .slice none 0 0, heap_alloc_new _ _, World.ownsRowF_of (World.ownsRow_nil _ _ _ _), by simp [Value.ownBlock]⟩
theorem strCells_bytes (l : List UInt8) (s : ByteArray) : Lib.byteCells l ++ Lib.strCells s = Lib.byteCells (l ++ s.data.toList) := by simp [Lib.byteCells, Lib.strCells]

theorem bcellB {B : Nat} {W w1 : World} (hb : Below B W w1) : (∀ b o, b < B → w1.cell? ⟨b, o, none⟩ = W.cell? ⟨b, o, none⟩) ∧ (∀ b o, b < B → w1.frozen? ⟨b, o, none⟩ = W.frozen? ⟨b, o, none⟩) :=
  ⟨fun b o h => hb.cell (p := ⟨b, o, none⟩) h, fun b o h => hb.frozen (p := ⟨b, o, none⟩) h⟩
end Go.Proofs.YtdjllnhahhjgmaaDoor
namespace Go.Proofs.YtdjllnhahhjgmaaDoor
open Go.RowKit Chron
theorem hide0 {p : Prop} (h : p) : Hid p := h
theorem ret_enc {v : Int} {e : Ev} {s : ByteArray} {c : Int} {l : List UInt8} (hs : s = ⟨l.toArray⟩) (h : encB v e = (l, c)) :
    Ending.returned (.tuple #[.string s, .int .i64 c]) = .returned (.tuple #[.string ⟨(encB v e).1.toArray⟩, .int .i64 (encB v e).2]) := by rw [h, hs]
end Go.Proofs.YtdjllnhahhjgmaaDoor
namespace Go.Proofs.YtdjllnhahhjgmaaDoor
open Go.RowKit Chron
theorem byteCells_push (l : List UInt8) (c : UInt8) : Lib.byteCells l ++ [.int .u8 (c.toNat : Int)] = Lib.byteCells (l ++ [c]) := by simp [Lib.byteCells]
set_option maxRecDepth 100000 in
set_option maxHeartbeats 1000000 in
theorem quote_any (s : ByteArray) (w : World) (hs : s.size ≤ 65536) :
    Calls Tryd.prog 30 #[.string s] w fun e w' => e = .returned (.string ⟨(qB s.data.toList).toArray⟩) ∧ Below w.heap.size w w' := by
  have HBN := hide0 (builder_new 56 5 w)
  go_enter Tryd.func30, Tryd.ntmps30
  go_wp2_with fail
  refine (Tryd.Builder_WriteByte_k w.heap.size w.heap.size _ 34 _ HBN.out (by rw [Lib.byteCells_length]; decide) (by simp)).mono ?_
  rintro e w1 ⟨rfl, hB1, hb1, _⟩
  have HB1 : Hid (Lib.IsBuilderF 56 5 w.heap.size w.heap.size (Lib.byteCells [34]) w1) := .inr hB1
  have HW1 : Hid (Below w.heap.size w w1) := ((Below.refl _ _).alloc (Nat.le_refl _) _).trans hb1
  clear hB1 hb1 HBN
  go_wp2
  go_loopw [8] (fun i wx => ∃ k : Nat, k ≤ s.size ∧ i = .int .i64 k ∧ Hid (Lib.IsBuilderF 56 5 w.heap.size w.heap.size (Lib.byteCells (34 :: inQ (s.data.toList.take k))) wx) ∧ Hid (Below w.heap.size w wx)) (fun i _ => s.size - (intOf i).toNat)
  case atStart => exact ⟨0, Nat.zero_le _, rfl, HB1, HW1⟩
  case round =>
    obtain ⟨k, hk, rfl, HB, HW⟩ := hrel
    have hlen : (34 :: inQ (s.data.toList.take k) : List UInt8).length ≤ 140000 := by
      have := inQ_len (s.data.toList.take k)
      simp at this ⊢
      omega
    have hsz := HW.out.size
    by_cases hlt : k < s.size
    · have hone : ∀ (l : List UInt8) (X : World), Lib.IsBuilderF 56 5 w.heap.size w.heap.size (Lib.byteCells l) X → l.length ≤ 140001 → w.heap.size ≤ X.heap.size → ∀ (z : Int) (c : UInt8), z = (c.toNat : Int) → Calls Tryd.prog 27 #[.pointer (some ⟨w.heap.size, 0, none⟩), .int .u8 z] X fun e X' => e = .returned .nilIface ∧ Hid (Lib.IsBuilderF 56 5 w.heap.size w.heap.size (Lib.byteCells (l ++ [c])) X') ∧ Below w.heap.size X X' := by
        intro l X hX hl hs z c hz
        subst hz
        refine (Tryd.Builder_WriteByte_k w.heap.size w.heap.size _ _ _ hX (by rw [Lib.byteCells_length]; omega) hs).mono ?_
        rintro e w1 ⟨rfl, hB1, hb1, _⟩
        rw [byteCells_push] at hB1
        exact ⟨rfl, .inr hB1, hb1⟩
      have HO := hide0 hone
      clear hone
      by_cases h34 : (s[k].toNat : Int) = 34 ∨ (s[k].toNat : Int) = 92
      · have HE := hide0 ((inQ_take s k hlt).trans (by rw [esc_yes h34]))
        have hcd : ((s[k].toNat : Int) == 34 || (s[k].toNat : Int) == 92) = true := by simpa using h34
        clear h34
        go_wp2_with fail
        all_goals
          refine (HO.out _ _ HB.out (by omega) hsz 92 92 rfl).mono ?_
          rintro e w2 ⟨rfl, HB2, hb2⟩
          have hs2 := hb2.size
          go_wp2_with fail
          refine (HO.out _ _ HB2.out (by rw [List.length_append]; exact Nat.add_le_add hlen (Nat.le_refl 1)) (by omega) _ s[k] (by omega)).mono ?_
          rintro e w3 ⟨rfl, HB3, hb3⟩
          have HW3 := hide0 ((HW.out.trans hb2).trans hb3)
          clear hb2 hb3
          go_wp2
          go_roundw
          case rel => exact ⟨k + 1, by omega, by go_num, by rw [HE.out]; simpa using HB3, HW3⟩
          case measure => simp [intOf]; omega
      · have h1 : ¬ (s[k].toNat : Int) = 34 := fun h => h34 (.inl h)
        have h2 : ¬ (s[k].toNat : Int) = 92 := fun h => h34 (.inr h)
        have HE := hide0 ((inQ_take s k hlt).trans (by rw [esc_no h1 h2]))
        have hc1 : ((s[k].toNat : Int) == 34) = false := by simp [h1]
        have hc2 : ((s[k].toNat : Int) == 92) = false := by simp [h2]
        clear h34 h1 h2
        go_wp2_with fail
        refine (HO.out _ _ HB.out (by omega) hsz _ s[k] rfl).mono ?_
        rintro e w3 ⟨rfl, HB3, hb3⟩
        have HW3 := hide0 (HW.out.trans hb3)
        clear hb3
        go_wp2
        go_roundw
        case rel => exact ⟨k + 1, by omega, by go_num, by rw [HE.out]; simpa using HB3, HW3⟩
        case measure => simp [intOf]; omega
    · have HA : Hid (qB s.data.toList = 34 :: inQ (s.data.toList.take k) ++ [34]) := by
        rw [List.take_of_length_le (by simp; omega)]; rfl
      go_wp2_with fail
      refine (Tryd.Builder_WriteByte_k w.heap.size w.heap.size _ 34 _ HB.out (by rw [Lib.byteCells_length]; omega) hsz).mono ?_
      rintro e w2 ⟨rfl, hB2, hb2, _⟩
      have hs2 := hb2.size
      have HB2 : Hid (Lib.IsBuilderF 56 5 w.heap.size w.heap.size (Lib.byteCells (qB s.data.toList)) w2) := by
        rw [HA.out]
        have := byteCells_push (34 :: inQ (s.data.toList.take k)) 34
        rw [← this]
        exact .inr hB2
      clear hB2
      go_wp2_with fail
      refine (Tryd.Builder_String_any_k w.heap.size w.heap.size _ _ HB2.out (by omega)).mono ?_
      rintro e w3 ⟨rfl, hB3, hb3, _⟩
      go_wp2
      go_ret
      exact ⟨rfl, (HW.out.trans hb2).trans hb3⟩
end Go.Proofs.YtdjllnhahhjgmaaDoor
namespace Go.Proofs.YtdjllnhahhjgmaaDoor
open Go.RowKit Chron
/- one byte and one text into a builder at a block that is the call's own -/
theorem put_byte (b : Nat) (l : List UInt8) (X : World) (hX : Lib.IsBuilderF 56 5 b b (Lib.byteCells l) X) (hl : l.length ≤ 1000000) (z : Int) (c : UInt8) (hz : z = (c.toNat : Int)) :
    Calls Tryd.prog 27 #[.pointer (some ⟨b, 0, none⟩), .int .u8 z] X fun e X' => e = .returned .nilIface ∧ Hid (Lib.IsBuilderF 56 5 b b (Lib.byteCells (l ++ [c])) X') ∧ Below b X X' := by
  subst hz
  refine (Tryd.Builder_WriteByte_k b b _ _ _ hX (by rw [Lib.byteCells_length]; omega) (Nat.le_of_lt (builder_lt hX))).mono ?_
  rintro e w1 ⟨rfl, hB1, hb1, _⟩
  rw [byteCells_push] at hB1
  exact ⟨rfl, .inr hB1, hb1⟩
theorem put_text (b : Nat) (l : List UInt8) (s : List UInt8) (X : World) (hX : Lib.IsBuilderF 56 5 b b (Lib.byteCells l) X) (hl : l.length + s.length ≤ 1000000) :
    Calls Tryd.prog 28 #[.pointer (some ⟨b, 0, none⟩), .string ⟨s.toArray⟩] X fun e X' => (∃ v, e = .returned v) ∧ Hid (Lib.IsBuilderF 56 5 b b (Lib.byteCells (l ++ s)) X') ∧ Below b X X' := by
  refine (Tryd.Builder_WriteString_k b b _ _ _ hX (by rw [Lib.byteCells_length]; show l.length + s.length ≤ _; omega) (Nat.le_of_lt (builder_lt hX))).mono ?_
  rintro e w1 ⟨rfl, hB1, hb1, _⟩
  rw [strCells_bytes] at hB1
  exact ⟨⟨_, rfl⟩, .inr hB1, hb1⟩
set_option maxRecDepth 100000 in
set_option maxHeartbeats 1000000 in
theorem tellTags_any (a : Option Addr) (cap : Nat) (ts : List ByteArray) (w : World) (ht : Hid (TagsAt w a ts)) (hs : Hid (Lines ts)) (hl : ts.length ≤ 4) :
    Calls Tryd.prog 31 #[.slice a ts.length cap, .func (.func 30) #[] #[]] w fun e w' => e = .returned (.string ⟨(listB (tagsT ts)).toArray⟩) ∧ Below w.heap.size w w' := by
  have HBN := hide0 (builder_new 56 5 w)
  go_enter Tryd.func31, Tryd.ntmps31
  go_wp2_with fail
  refine (put_byte w.heap.size [] _ HBN.out (by decide) 91 91 rfl).mono ?_
  rintro e w1 ⟨rfl, HB1, hb1⟩
  have HW1 : Hid (Below w.heap.size w w1) := ((Below.refl _ _).alloc (Nat.le_refl _) _).trans hb1
  clear hb1 HBN
  go_wp2
  go_loopw [11] (fun i wx => ∃ k : Nat, k ≤ ts.length ∧ i = .int .i64 k ∧ Hid (Lib.IsBuilderF 56 5 w.heap.size w.heap.size (Lib.byteCells (91 :: jn ((tagsT ts).take k))) wx) ∧ Hid (Below w.heap.size w wx)) (fun i _ => ts.length - (intOf i).toNat)
  case atStart => exact ⟨0, Nat.zero_le _, rfl, HB1, HW1⟩
  case round =>
    obtain ⟨k, hk, rfl, HB, HW⟩ := hrel
    by_cases hlt : k < ts.length
    · obtain ⟨b1, o1, rfl, hc1⟩ := ht.out.below HW.out (Nat.le_refl _) (by omega)
      have e1 := hc1 k hlt
      obtain ⟨x, hx⟩ : ∃ x, ts[k]?.getD ByteArray.empty = x := ⟨_, rfl⟩
      rw [hx] at e1
      have HX := hide0 hx
      have hx60 : x.size ≤ 60 := by
        rw [← hx, List.getElem?_eq_getElem hlt]
        exact hs.out _ (List.getElem_mem hlt)
      have hAT := tagsT_at hlt
      rw [hx] at hAT
      have HAT := hide0 hAT
      have hq := qB_len x.data.toList
      have hq2 : (qB x.data.toList).length ≤ 122 := by simp at hq; omega
      clear hc1 hx hAT hq
      have hlen : (91 :: jn ((tagsT ts).take k) : List UInt8).length ≤ 1000 := by
        have h1 := jn_len (l := (tagsT ts).take k) (m := 122) (fun y hy => tagsT_short hs.out y (List.mem_of_mem_take hy))
        rw [List.length_take, tagsT_len] at h1
        have h2 : min k ts.length * 123 ≤ 4 * 123 := Nat.mul_le_mul_right _ (by omega)
        simp only [List.length_cons]
        omega
      by_cases h0 : 0 < k
      · have HE := hide0 (jn_take HAT.out h0)
        go_wp2_with fail
        refine (put_byte w.heap.size _ _ HB.out (by omega) 44 44 rfl).mono ?_
        rintro e w2 ⟨rfl, HB2, hb2⟩
        go_wp2_with fail
        refine (quote_any x _ (by omega)).mono ?_
        rintro e w3 ⟨rfl, hb3⟩
        have HB3 := hide0 (builder_below HB2.out hb3)
        have hlt2 := builder_lt HB2.out
        go_wp2_with fail
        refine (put_text w.heap.size _ _ _ HB3.out (by rw [List.length_append]; simp only [List.length_singleton]; omega)).mono ?_
        rintro e w4 ⟨⟨v, rfl⟩, HB4, hb4⟩
        have HW4 := hide0 (((HW.out.trans hb2).trans (hb3.mono (by omega))).trans hb4)
        clear hb2 hb3 hb4 HB2 HB3
        go_wp2
        go_roundw
        case rel => exact ⟨k + 1, by omega, by go_num, by rw [HE.out]; simpa using HB4, HW4⟩
        case measure => simp [intOf]; omega
      · have hk0 : k = 0 := by omega
        have HE : Hid (jn ((tagsT ts).take (k + 1)) = jn ((tagsT ts).take k) ++ qB x.data.toList) := by
          have := HAT.out
          subst hk0
          rw [Hid, jn_take_zero this]; rfl
        clear hk0
        go_wp2_with fail
        refine (quote_any x _ (by omega)).mono ?_
        rintro e w3 ⟨rfl, hb3⟩
        have HB3 := hide0 (builder_below HB.out hb3)
        have hlt2 := builder_lt HB.out
        go_wp2_with fail
        refine (put_text w.heap.size _ _ _ HB3.out (by omega)).mono ?_
        rintro e w4 ⟨⟨v, rfl⟩, HB4, hb4⟩
        have HW4 := hide0 ((HW.out.trans (hb3.mono (by omega))).trans hb4)
        clear hb3 hb4 HB3
        go_wp2
        go_roundw
        case rel => exact ⟨k + 1, by omega, by go_num, by rw [HE.out]; simpa using HB4, HW4⟩
        case measure => simp [intOf]; omega
    · have HA : Hid (listB (tagsT ts) = 91 :: jn ((tagsT ts).take k) ++ [93]) := by
        rw [List.take_of_length_le (by rw [tagsT_len]; omega)]; rfl
      have hlen : (91 :: jn ((tagsT ts).take k) : List UInt8).length ≤ 1000 := by
        have h1 := jn_len (l := (tagsT ts).take k) (m := 122) (fun y hy => tagsT_short hs.out y (List.mem_of_mem_take hy))
        rw [List.length_take, tagsT_len] at h1
        have h2 : min k ts.length * 123 ≤ 4 * 123 := Nat.mul_le_mul_right _ (by omega)
        simp only [List.length_cons]
        omega
      go_wp2_with fail
      refine (put_byte w.heap.size _ _ HB.out (by omega) 93 93 rfl).mono ?_
      rintro e w2 ⟨rfl, HB2, hb2⟩
      have hlt2 := builder_lt HB2.out
      go_wp2_with fail
      refine (Tryd.Builder_String_any_k w.heap.size w.heap.size _ _ HB2.out (by omega)).mono ?_
      rintro e w3 ⟨rfl, hB3, hb3, _⟩
      go_wp2
      go_ret
      exact ⟨ret_str (by rw [HA.out]; rfl), (HW.out.trans hb2).trans hb3⟩
end Go.Proofs.YtdjllnhahhjgmaaDoor
namespace Chron
open Go Go.RowKit
def numOf (l : List UInt8) : Nat := match readNum l with | none => 0 | some (n, _) => n
def numRest (l : List UInt8) : List UInt8 := match readNum l with | none => [] | some (_, r) => r
def txOf (l : List UInt8) : List UInt8 := match readTx l with | none => [] | some (t, _) => t
def txRest (l : List UInt8) : List UInt8 := match readTx l with | none => [] | some (_, r) => r
def nx (tag : Nat) (s : List UInt8) : List UInt8 := Lib.trimPrefix s (num tag)
def hp (tag : Nat) (s : List UInt8) : Bool := Lib.hasPrefix s (num tag)
def kindOf (v : Int) (s : List UInt8) : Int := if hp 1 s = true then wrap64 (numOf (nx 1 s) + shift v) else 0
def timeOf (s : List UInt8) : Int := if hp 3 s = true then numOf (nx 3 s) else 0
def textOf (tag : Nat) (s : List UInt8) : ByteArray := if hp tag s = true then ⟨(txOf (nx tag s)).toArray⟩ else ⟨#[]⟩
def behindNum (tag : Nat) (s : List UInt8) : List UInt8 := if hp tag s = true then numRest (nx tag s) else nx tag s
def behindText (tag : Nat) (s : List UInt8) : List UInt8 := if hp tag s = true then txRest (nx tag s) else nx tag s
def tagsF : Nat → List UInt8 → List ByteArray
  | 0, _ => []
  | f + 1, s => if hp 5 s = true then ⟨(txOf (nx 5 s)).toArray⟩ :: tagsF f (txRest (nx 5 s)) else []
def rdFields (v : Int) (s : List UInt8) : Ev :=
  { kind := kindOf v s, task := textOf 2 (behindNum 1 s), time := timeOf (behindText 2 (behindNum 1 s)),
    body := textOf 4 (behindNum 3 (behindText 2 (behindNum 1 s))), tags := tagsF 4 (behindText 4 (behindNum 3 (behindText 2 (behindNum 1 s)))) }
theorem nx_len (tag : Nat) (s : List UInt8) : (nx tag s).length ≤ s.length := by
  unfold nx Lib.trimPrefix; split <;> simp
theorem numRest_len (s : List UInt8) : (numRest s).length ≤ s.length := by
  unfold numRest; rcases h : readNum s with _ | ⟨n, r⟩
  · simp
  · exact readNum_len h
theorem readTx_len {s t r : List UInt8} (h : readTx s = some (t, r)) : t.length + r.length ≤ s.length := by
  unfold readTx at h
  rcases hq : readNum s with _ | ⟨n, q⟩
  · rw [hq] at h; cases h
  · rw [hq] at h
    simp only at h
    split at h
    · simp only [Option.some.injEq, Prod.mk.injEq] at h
      have := readNum_len hq
      rw [← h.1, ← h.2]; simp; omega
    · cases h
theorem txRest_len (s : List UInt8) : (txRest s).length ≤ s.length := by
  unfold txRest; rcases h : readTx s with _ | ⟨n, r⟩
  · simp
  · have := readTx_len h; simp only; omega
theorem txOf_len (s : List UInt8) : (txOf s).length ≤ s.length := by
  unfold txOf; rcases h : readTx s with _ | ⟨n, r⟩
  · simp
  · have := readTx_len h; simp only; omega
theorem behindNum_len (tag : Nat) (s : List UInt8) : (behindNum tag s).length ≤ s.length := by
  have h1 := nx_len tag s; have h2 := numRest_len (nx tag s)
  unfold behindNum; split <;> omega
theorem behindText_len (tag : Nat) (s : List UInt8) : (behindText tag s).length ≤ s.length := by
  have h1 := nx_len tag s; have h2 := txRest_len (nx tag s)
  unfold behindText; split <;> omega
def zeroEv : Ev := ⟨0, ⟨#[]⟩, 0, ⟨#[]⟩, []⟩
def letterKind (c : UInt8) : Int := Lib.indexByte [98, 100, 102] c + 1
def rdLetter : List UInt8 → Ev × Bool
  | [] => (zeroEv, false)
  | c :: r =>
    match readTx r with
    | none => (zeroEv, false)
    | some (t, b) =>
      if t = [] then (⟨letterKind c, ⟨#[45]⟩, 0, ⟨b.toArray⟩, []⟩, isB ⟨letterKind c, ⟨#[45]⟩, 0, ⟨b.toArray⟩, []⟩)
      else (⟨letterKind c, ⟨t.toArray⟩, 0, ⟨b.toArray⟩, []⟩, goesB 1 ⟨letterKind c, ⟨t.toArray⟩, 0, ⟨b.toArray⟩, []⟩)
theorem letterKind_fin : ∀ x : Fin 256, letterKind (UInt8.ofNat x.val) = if UInt8.ofNat x.val = 98 then 1 else if UInt8.ofNat x.val = 100 then 2 else if UInt8.ofNat x.val = 102 then 3 else 0 := by decide +kernel
theorem letterKind_eq (c : UInt8) : letterKind c = if c = 98 then 1 else if c = 100 then 2 else if c = 102 then 3 else 0 := by
  have := letterKind_fin ⟨c.toNat, c.toNat_lt⟩
  simpa using this
theorem letterKind_bd (c : UInt8) : 0 ≤ letterKind c ∧ letterKind c ≤ 3 := by
  rw [letterKind_eq]
  split
  · omega
  · split
    · omega
    · split <;> omega
theorem letterKind_wrap (c : UInt8) : wrap64 (Lib.indexByte [98, 100, 102] c + 1) = letterKind c := by
  have := letterKind_bd c
  unfold letterKind at *
  exact wrap_small (by omega) (by omega)
def okOf (v : Int) (s : List UInt8) : Bool := decide ((encB v (rdFields v s)).2 = 0) && ((encB v (rdFields v s)).1 == s)
def rdB (v : Int) (s : List UInt8) : Ev × Bool := if v = 1 then rdLetter s else (rdFields v s, okOf v s)
theorem textOf_size (tag : Nat) (s : List UInt8) : (textOf tag s).size ≤ s.length := by
  have h1 := nx_len tag s; have h2 := txOf_len (nx tag s)
  unfold textOf; split
  · show (txOf (nx tag s)).length ≤ _; omega
  · show 0 ≤ _; omega
theorem tagsF_size : ∀ (f : Nat) (s : List UInt8), (tagsF f s).length ≤ f ∧ ∀ t ∈ tagsF f s, t.size ≤ s.length
  | 0, s => ⟨by simp [tagsF], by simp [tagsF]⟩
  | f + 1, s => by
    have h1 := nx_len 5 s; have h2 := txOf_len (nx 5 s); have h3 := txRest_len (nx 5 s)
    have ih := tagsF_size f (txRest (nx 5 s))
    unfold tagsF; split
    · refine ⟨by simp; omega, fun t ht => ?_⟩
      rcases List.mem_cons.1 ht with rfl | ht
      · show (txOf (nx 5 s)).length ≤ _; omega
      · have := ih.2 t ht; omega
    · simp
structure Fits (e : Ev) (n : Nat) : Prop where
  task : e.task.size ≤ n
  body : e.body.size ≤ n
  few : e.tags.length ≤ 4
  tags : ∀ t ∈ e.tags, t.size ≤ n
theorem rdFields_fits (v : Int) (s : List UInt8) : Fits (rdFields v s) s.length := by
  have h1 := behindNum_len 1 s
  have h2 := behindText_len 2 (behindNum 1 s)
  have h3 := behindNum_len 3 (behindText 2 (behindNum 1 s))
  have h4 := behindText_len 4 (behindNum 3 (behindText 2 (behindNum 1 s)))
  refine ⟨Nat.le_trans (textOf_size _ _) h1, Nat.le_trans (textOf_size _ _) (by omega), (tagsF_size 4 _).1, fun t ht => Nat.le_trans ((tagsF_size 4 _).2 t ht) (by omega)⟩
end Chron
namespace Chron
open Go Go.RowKit
def decB (v : Int) (s : List UInt8) : Ev × Int := if isVer v = false then (zeroEv, 1) else if (rdB v s).2 = false then (zeroEv, 3) else ((rdB v s).1, 0)
theorem enc_ok {v : Int} {e : Ev} (h : (encB v e).2 = 0) : isVer v = true ∧ goesB v e = true := by
  unfold encB at h
  split at h
  · simp at h
  · rename_i h1
    split at h
    · simp at h
    · rename_i h2
      exact ⟨by simpa using h1, by simpa using h2⟩
theorem rdLetter_is {s : List UInt8} (h : (rdLetter s).2 = true) : isB (rdLetter s).1 = true := by
  match s, h with
  | [], h => simp [rdLetter] at h
  | c :: r, h =>
    rcases hq : readTx r with _ | ⟨t, b⟩
    · simp [rdLetter, hq] at h
    · by_cases ht : t = []
      · simp only [rdLetter, hq, if_pos ht] at h ⊢; exact h
      · simp only [rdLetter, hq, if_neg ht] at h ⊢; exact goes_is h
theorem rd_is {v : Int} {s : List UInt8} (h : (rdB v s).2 = true) : isB (rdB v s).1 = true := by
  by_cases hv : v = 1
  · rw [rdB, if_pos hv] at h ⊢; exact rdLetter_is h
  · rw [rdB, if_neg hv] at h ⊢
    simp only [okOf, Bool.and_eq_true, decide_eq_true_eq] at h
    exact goes_is (enc_ok h.1).2
end Chron
