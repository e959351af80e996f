/- The document's answers as plain functions on lists of bytes and numbers: no program is named here. -/
import Derived.WalkKit
import Derived.Laws.BitsAllLaws
import Derived.Lib.Strings
import Derived.Lib.IndexBytes
namespace Chron
open Go Go.RowKit

def isVer (v : Int) : Bool := decide (1 ≤ v) && decide (v ≤ 3)
def shift (v : Int) : Int := if v = 2 then 1 else 0
def byteOk (c : UInt8) : Bool := decide (32 ≤ (c.toNat : Int)) && decide ((c.toNat : Int) ≤ 126)
def lineB (s : ByteArray) : Bool := decide (s.size ≤ 60) && s.data.toList.all byteOk
def nameB (s : ByteArray) : Bool := !s.toList.isEmpty && lineB s

theorem isVer_eq {v : Int} : isVer v = decide (1 ≤ v ∧ v ≤ 3) := by simp [isVer]
theorem shift_two {v : Int} (h : v = 2) : shift v = 1 := by simp [shift, h]
theorem shift_not {v : Int} (h : ¬ v = 2) : shift v = 0 := by simp [shift, h]
theorem take_snoc (s : ByteArray) (k : Nat) (h : k < s.size) : s.data.toList.take (k + 1) = s.data.toList.take k ++ [s[k]] := by
  rw [List.take_succ_eq_append_getElem (by simpa using h)]; rfl
theorem all_step (s : ByteArray) (k : Nat) (h : k < s.size) (ha : (s.data.toList.take k).all byteOk = true) (h1 : 32 ≤ (s[k].toNat : Int)) (h2 : (s[k].toNat : Int) ≤ 126) :
    (s.data.toList.take (k + 1)).all byteOk = true := by
  rw [take_snoc s k h, List.all_append, ha]; simp [byteOk, h1, h2]
theorem all_fails (s : ByteArray) (k : Nat) (h : k < s.size) (h1 : (s[k].toNat : Int) < 32 ∨ 126 < (s[k].toNat : Int)) : lineB s = false := by
  have hm : s[k] ∈ s.data.toList := by
    have : s.data.toList[k]'(by simpa using h) = s[k] := rfl
    rw [← this]; exact List.getElem_mem _
  have hb : byteOk s[k] = false := by
    unfold byteOk; rcases h1 with h1 | h1
    · rw [decide_eq_false (by omega)]; rfl
    · rw [decide_eq_false (p := (s[k].toNat : Int) ≤ 126) (by omega)]; simp
  have : s.data.toList.all byteOk = false := by
    rw [List.all_eq_false]; exact ⟨_, hm, by simp [hb]⟩
  simp [lineB, this]
theorem line_long {s : ByteArray} (h : 60 < s.size) : lineB s = false := by
  simp [lineB]; omega
theorem line_done {s : ByteArray} {k : Nat} (h : s.size ≤ 60) (hk : s.size ≤ k) (ha : (s.data.toList.take k).all byteOk = true) : lineB s = true := by
  rw [List.take_of_length_le (by simpa using hk)] at ha
  simp only [lineB, ha, Bool.and_true, decide_eq_true_eq]; exact h


/- numbers as bytes -/
def numF : Nat → Nat → List UInt8
  | 0, _ => []
  | f + 1, n => if n < 128 then [UInt8.ofNat n] else UInt8.ofNat (128 + n % 128) :: numF f (n / 128)
def num (n : Nat) : List UInt8 := numF 10 n
def text (s : List UInt8) : List UInt8 := num s.length ++ s

theorem numF_small {f n : Nat} (h : n < 128) : numF (f + 1) n = [UInt8.ofNat n] := by simp [numF, h]
theorem numF_more {f n : Nat} (h : 128 ≤ n) : numF (f + 1) n = UInt8.ofNat (128 + n % 128) :: numF f (n / 128) := by
  simp [numF, Nat.not_lt.2 h]
theorem numF_len (f n : Nat) : (numF f n).length ≤ f := by
  induction f generalizing n with
  | zero => simp [numF]
  | succ f ih => unfold numF; split
                 · simp
                 · have := ih (n / 128); simp; omega
theorem num_len (n : Nat) : (num n).length ≤ 10 := numF_len 10 n
theorem or_fin : ∀ x : Fin 256, bits .or .u8 ((x.val : Nat) : Int) 128 = ((128 + x.val % 128 : Nat) : Int) := by decide +kernel
theorem or_byte (k : Int) (h : 0 ≤ k) : bits .or .u8 (k % 256) 128 = (((UInt8.ofNat (128 + k.toNat % 128)).toNat : Nat) : Int) := by
  obtain ⟨n, rfl⟩ := Int.eq_ofNat_of_zero_le h
  have := or_fin ⟨n % 256, by omega⟩
  simp only [] at this
  rw [show ((n : Int) % 256) = ((n % 256 : Nat) : Int) by omega, this]
  simp
  omega
/- one step of the loop that writes a number -/
theorem num_step {n : Nat} {k : Int} {acc : List UInt8} {f : Nat} (hk : 128 ≤ k) (hl : acc.length + f = 9) (hb : k.toNat < 128 ^ f) (he : acc ++ numF (f + 1) k.toNat = num n) :
    ∃ g, (acc ++ [UInt8.ofNat (128 + k.toNat % 128)]).length + g = 9 ∧ (k / 128).toNat < 128 ^ g ∧ (acc ++ [UInt8.ofNat (128 + k.toNat % 128)]) ++ numF (g + 1) (k / 128).toNat = num n := by
  match f, hb with
  | 0, hb => simp at hb; omega
  | g + 1, hb =>
    have hd : (k / 128).toNat = k.toNat / 128 := by omega
    refine ⟨g, by simp; omega, ?_, ?_⟩
    · rw [hd]; rw [Nat.pow_succ] at hb; exact Nat.div_lt_of_lt_mul (by omega)
    · rw [hd, ← he, numF_more (f := g + 1) (by omega)]; simp
theorem num_last {n : Nat} {k : Int} {acc : List UInt8} {f : Nat} (h0 : 0 ≤ k) (hk : k < 128) (he : acc ++ numF (f + 1) k.toNat = num n) : num n = acc ++ [UInt8.ofNat k.toNat] := by
  rw [← he, numF_small (by omega)]

/- numbers read from bytes: place by place, the lowest seven bits first -/
def readF : Nat → Bool → List UInt8 → Option (Nat × List UInt8)
  | 0, _, _ => none
  | _ + 1, _, [] => none
  | f + 1, first, c :: r =>
    if c.toNat < 128 then (if c.toNat = 0 ∧ first = false then none else some (c.toNat, r))
    else match readF f false r with
      | none => none
      | some (n, r') => some (c.toNat - 128 + 128 * n, r')
def readNum (l : List UInt8) : Option (Nat × List UInt8) := readF 9 true l
/- what is read behind n, which k bytes have told -/
def lift (n k : Nat) : Option (Nat × List UInt8) → Option (Nat × List UInt8)
  | none => none
  | some (m, r) => some (n + 128 ^ k * m, r)

theorem andNot_fin : ∀ x : Fin 256, bits .andNot .u8 ((x.val : Nat) : Int) 128 = ((x.val % 128 : Nat) : Int) := by decide +kernel
theorem andNot_byte (c : UInt8) : bits .andNot .u8 (c.toNat : Int) 128 = ((c.toNat % 128 : Nat) : Int) := andNot_fin ⟨c.toNat, c.toNat_lt⟩
theorem wrap_small {n : Int} (h0 : 0 ≤ n) (h1 : n < 9223372036854775808) : wrap64 n = n := by unfold wrap64; omega
theorem i64_or (a b : Nat) (ha : a < 9223372036854775808) (hb : b < 9223372036854775808) : bits .or .i64 (a : Int) (b : Int) = ((a ||| b : Nat) : Int) := by
  have hx : a ||| b < 2 ^ 63 := Nat.or_lt_two_pow (by omega) (by omega)
  show IntKind.i64.wrap ((BitVec.ofInt 64 (a : Int) ||| BitVec.ofInt 64 (b : Int)).toNat : Int) = _
  rw [BitVec.toNat_or, ofInt_u64 a (by omega), ofInt_u64 b (by omega)]
  simp [IntKind.wrap, IntKind.bits, IntKind.signed]
  omega
theorem pow_split (k : Nat) : (2 : Nat) ^ (7 * k) = 128 ^ k := by rw [Nat.pow_mul]
theorem pow_le8 {k : Nat} (h : k < 9) : (128 : Nat) ^ k ≤ 128 ^ 8 := Nat.pow_le_pow_right (by omega) (by omega)
theorem or_step {n k : Nat} (c : UInt8) (hk : k < 9) (hn : n < 128 ^ k) :
    bits .or .i64 (n : Int) (wrap64 (wrap64 (bits .andNot .u8 (c.toNat : Int) 128) * 2 ^ (7 * k))) = ((n + c.toNat % 128 * 128 ^ k : Nat) : Int) := by
  have h8 := pow_le8 hk
  have hc : c.toNat % 128 < 128 := Nat.mod_lt _ (by omega)
  have hm : c.toNat % 128 * 128 ^ k ≤ 127 * 128 ^ 8 := Nat.mul_le_mul (by omega) h8
  rw [andNot_byte, wrap_small (n := ((c.toNat % 128 : Nat) : Int)) (by omega) (by omega)]
  have e : ((c.toNat % 128 : Nat) : Int) * 2 ^ (7 * k) = ((c.toNat % 128 * 128 ^ k : Nat) : Int) := by
    rw [← pow_split k]; simp
  rw [e, wrap_small (by omega) (by omega), i64_or _ _ (by omega) (by omega)]
  have ho := Nat.shiftLeft_add_eq_or_of_lt (b := n) (i := 7 * k) (by rw [pow_split]; exact hn) (c.toNat % 128)
  rw [Nat.shiftLeft_eq, pow_split] at ho
  rw [Nat.or_comm, ← ho, Nat.add_comm]
theorem drop_cons (s : ByteArray) (k : Nat) (h : k < s.size) : s.data.toList.drop k = s[k] :: s.data.toList.drop (k + 1) := by
  rw [List.drop_eq_getElem_cons (by simpa using h)]; rfl
theorem bytes_inj {a b : ByteArray} (h : a.data.toList = b.data.toList) : a = b := by
  obtain ⟨⟨a⟩⟩ := a; obtain ⟨⟨b⟩⟩ := b; simp at h; rw [h]
theorem mk_append (l : List UInt8) (s : ByteArray) : (⟨l.toArray⟩ ++ s : ByteArray) = ⟨(l ++ s.data.toList).toArray⟩ := by
  apply bytes_inj; obtain ⟨⟨s⟩⟩ := s; simp
theorem extract_end (s : ByteArray) (k : Nat) : s.extract k s.size = ⟨(s.data.toList.drop k).toArray⟩ := by
  apply bytes_inj; rw [Lib.extract_to_end]
def first (k : Nat) : Bool := decide (k = 0)
def Reads (l : List UInt8) (n k : Nat) : Prop := n < 128 ^ k ∧ readNum l = lift n k (readF (9 - k) (first k) (l.drop k))
theorem reads_start (l : List UInt8) : Reads l 0 0 := by
  refine ⟨by simp, ?_⟩
  show readF 9 true l = lift 0 0 (readF 9 true l)
  rcases readF 9 true l with _ | ⟨m, r⟩ <;> simp [lift]
theorem reads_more {s : ByteArray} {n k : Nat} (h : Reads s.data.toList n k) (hk : k < 9) (hlt : k < s.size) (hc : 128 ≤ (s[k].toNat : Int)) :
    Reads s.data.toList (n + s[k].toNat % 128 * 128 ^ k) (k + 1) := by
  obtain ⟨h1, h2⟩ := h
  have hb : s[k].toNat < 256 := s[k].toNat_lt
  have hm : s[k].toNat % 128 = s[k].toNat - 128 := by omega
  refine ⟨?_, ?_⟩
  · rw [Nat.pow_succ]
    have : s[k].toNat % 128 * 128 ^ k ≤ 127 * 128 ^ k := Nat.mul_le_mul_right _ (by omega)
    omega
  · rw [h2, drop_cons s k hlt, show 9 - k = (8 - k) + 1 by omega, show 9 - (k + 1) = 8 - k by omega]
    rw [readF, if_neg (by omega), show first (k + 1) = false by simp [first]]
    rcases readF (8 - k) false (s.data.toList.drop (k + 1)) with _ | ⟨m, r⟩
    · rfl
    · simp only [lift]
      rw [hm, Nat.pow_succ]
      congr 2
      rw [Nat.mul_add, Nat.mul_comm (128 ^ k) (s[k].toNat - 128), ← Nat.mul_assoc, Nat.add_assoc]
theorem reads_zero {s : ByteArray} {n k : Nat} (h : Reads s.data.toList n k) (hk : k < 9) (hlt : k < s.size) (hc : s[k].toNat = 0) (h0 : 0 < k) : readNum s.data.toList = none := by
  rw [h.2, drop_cons s k hlt, show 9 - k = (8 - k) + 1 by omega, readF, if_pos (by omega), if_pos ⟨hc, by simp [first]; omega⟩]; rfl
theorem reads_last {s : ByteArray} {n k : Nat} (h : Reads s.data.toList n k) (hk : k < 9) (hlt : k < s.size) (hc : (s[k].toNat : Int) < 128) (h0 : ¬ (s[k].toNat = 0 ∧ 0 < k)) :
    readNum s.data.toList = some (n + s[k].toNat % 128 * 128 ^ k, s.data.toList.drop (k + 1)) := by
  rw [h.2, drop_cons s k hlt, show 9 - k = (8 - k) + 1 by omega, readF, if_pos (by omega), if_neg (by simp [first]; omega)]
  simp only [lift]
  rw [Nat.mod_eq_of_lt (by omega), Nat.mul_comm]
theorem reads_end {s : ByteArray} {n k : Nat} (h : Reads s.data.toList n k) (hk : ¬ (k < s.size ∧ k < 9)) : readNum s.data.toList = none := by
  rw [h.2]
  by_cases h9 : k < 9
  · rw [List.drop_of_length_le (by simp; omega), show 9 - k = (8 - k) + 1 by omega, readF]; rfl
  · rw [show 9 - k = 0 by omega, readF]; rfl
def readTx (l : List UInt8) : Option (List UInt8 × List UInt8) :=
  match readNum l with
  | none => none
  | some (n, r) => if n ≤ r.length then some (r.take n, r.drop n) else none
theorem readF_len : ∀ (f : Nat) (b : Bool) (l : List UInt8) (n : Nat) (r : List UInt8), readF f b l = some (n, r) → r.length < l.length
  | 0, _, _, _, _, h => by simp [readF] at h
  | f + 1, _, [], _, _, h => by simp [readF] at h
  | f + 1, b, c :: l, n, r, h => by
    unfold readF at h
    split at h
    · split at h
      · cases h
      · simp only [Option.some.injEq, Prod.mk.injEq] at h
        rw [← h.2]; simp
    · rcases hq : readF f false l with _ | ⟨m, r'⟩
      · rw [hq] at h; cases h
      · rw [hq] at h
        simp only [Option.some.injEq, Prod.mk.injEq] at h
        have := readF_len f false l m r' hq
        rw [← h.2]; simp; omega
theorem readNum_len {l : List UInt8} {n : Nat} {r : List UInt8} (h : readNum l = some (n, r)) : r.length ≤ l.length := Nat.le_of_lt (readF_len 9 true l n r h)
theorem readTx_some {l : List UInt8} {n : Nat} {r : List UInt8} (h : readNum l = some (n, r)) (hn : n ≤ r.length) : readTx l = some (r.take n, r.drop n) := by
  rw [readTx, h]; simp [hn]
theorem extract_mk_take (r : List UInt8) (n : Nat) : (⟨r.toArray⟩ : ByteArray).extract 0 n = ⟨(r.take n).toArray⟩ := by
  apply bytes_inj; rw [Lib.extract_data]; simp
theorem extract_mk_drop (r : List UInt8) (n : Nat) : (⟨r.toArray⟩ : ByteArray).extract n (⟨r.toArray⟩ : ByteArray).size = ⟨(r.drop n).toArray⟩ := by
  apply bytes_inj; rw [Lib.extract_to_end]
/- tags -/
def tagOk (ts : List ByteArray) (i : Nat) : Bool :=
  nameB (ts[i]?.getD ByteArray.empty) && (decide (i = 0) || Op.bytesLess (ts[i - 1]?.getD ByteArray.empty).toList (ts[i]?.getD ByteArray.empty).toList)
def tagsB (ts : List ByteArray) : Bool := decide (ts.length ≤ 4) && (List.range ts.length).all (tagOk ts)
theorem tags_many {ts : List ByteArray} (h : 4 < ts.length) : tagsB ts = false := by simp [tagsB]; omega
theorem tags_all {ts : List ByteArray} {k : Nat} (h4 : ts.length ≤ 4) (hk : ts.length ≤ k) (h : ∀ j, j < k → tagOk ts j = true) : tagsB ts = true := by
  simp only [tagsB, Bool.and_eq_true, decide_eq_true_eq, List.all_eq_true, List.mem_range]
  exact ⟨h4, fun j hj => h j (by omega)⟩
theorem tags_not {ts : List ByteArray} {k : Nat} (hk : k < ts.length) (h : tagOk ts k = false) : tagsB ts = false := by
  have : (List.range ts.length).all (tagOk ts) = false := by
    rw [List.all_eq_false]; exact ⟨k, by simpa using hk, by simp [h]⟩
  simp [tagsB, this]
theorem tag_first {ts : List ByteArray} {k : Nat} {t : ByteArray} {x : Bool} (h : tagOk ts k = (nameB t && (decide (k = 0) || x))) (hn : nameB t = true) (hk : ¬ 0 < k) : tagOk ts k = true := by
  rw [h, hn]; simp; left; omega
theorem tag_rise {ts : List ByteArray} {k : Nat} {t : ByteArray} {x : Bool} (h : tagOk ts k = (nameB t && (decide (k = 0) || x))) (hn : nameB t = true) (hx : (!x) = false) : tagOk ts k = true := by
  rw [h, hn]; simp at hx; simp [hx]
theorem tag_fall {ts : List ByteArray} {k : Nat} {t : ByteArray} {x : Bool} (h : tagOk ts k = (nameB t && (decide (k = 0) || x))) (hk : 0 < k) (hx : (!x) = true) : tagOk ts k = false := by
  rw [h]; simp at hx; simp [hx]; omega
theorem tag_bad {ts : List ByteArray} {k : Nat} {t : ByteArray} {x : Bool} (h : tagOk ts k = (nameB t && (decide (k = 0) || x))) (hn : nameB t = false) : tagOk ts k = false := by
  rw [h, hn]; simp
theorem tag_next {ts : List ByteArray} {k : Nat} (h : ∀ j, j < k → tagOk ts j = true) (hk : tagOk ts k = true) : ∀ j, j < k + 1 → tagOk ts j = true := by
  intro j hj
  rcases Nat.lt_or_ge j k with h1 | h1
  · exact h j h1
  · rw [show j = k by omega]; exact hk
/- an event -/
structure Ev where
  kind : Int
  task : ByteArray
  time : Int
  body : ByteArray
  tags : List ByteArray
def isB (e : Ev) : Bool :=
  decide (1 ≤ e.kind) && (decide (e.kind ≤ 4) && (nameB e.task && (decide (0 ≤ e.time) && (decide (e.time ≤ 1125899906842624) && (lineB e.body && tagsB e.tags)))))
def dashB (t : ByteArray) : Bool := t.toList == [45]
def fitsB (v : Int) (e : Ev) : Bool :=
  !(decide (v ≤ 2) && decide (0 < e.tags.length)) && (decide (1 < v) || (decide (e.time = 0) && (decide (e.kind ≠ 4) && !dashB e.task)))
def goesB (v : Int) (e : Ev) : Bool := isVer v && (isB e && fitsB v e)
theorem shift_bd (v : Int) : 0 ≤ shift v ∧ shift v ≤ 1 := by unfold shift; split <;> omega
theorem wrapI_small {n : Int} (h0 : -9223372036854775808 ≤ n) (h1 : n < 9223372036854775808) : IntKind.i64.wrap n = n := by
  simp [IntKind.wrap, IntKind.bits, IntKind.signed]; omega
end Chron
