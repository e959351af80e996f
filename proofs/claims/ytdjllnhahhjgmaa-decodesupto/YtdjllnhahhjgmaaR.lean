/- What package schema reads of bytes, as plain functions. -/
import Derived.Test.YtdjllnhahhjgmaaQ
namespace Chron
open Go Go.RowKit
def numOf (l : List UInt8) : Nat := match readNum l with | none => 0 | some (n, _) => n
def numRest (l : List UInt8) : List UInt8 := match readNum l with | none => [] | some (_, r) => r
def txOf (l : List UInt8) : List UInt8 := match readTx l with | none => [] | some (t, _) => t
def txRest (l : List UInt8) : List UInt8 := match readTx l with | none => [] | some (_, r) => r
def nx (tag : Nat) (s : List UInt8) : List UInt8 := Lib.trimPrefix s (num tag)
def hp (tag : Nat) (s : List UInt8) : Bool := Lib.hasPrefix s (num tag)
def kindOf (v : Int) (s : List UInt8) : Int := if hp 1 s = true then wrap64 (numOf (nx 1 s) + shift v) else 0
def timeOf (s : List UInt8) : Int := if hp 3 s = true then numOf (nx 3 s) else 0
def textOf (tag : Nat) (s : List UInt8) : ByteArray := if hp tag s = true then ⟨(txOf (nx tag s)).toArray⟩ else ⟨#[]⟩
def behindNum (tag : Nat) (s : List UInt8) : List UInt8 := if hp tag s = true then numRest (nx tag s) else nx tag s
def behindText (tag : Nat) (s : List UInt8) : List UInt8 := if hp tag s = true then txRest (nx tag s) else nx tag s
def tagsF : Nat → List UInt8 → List ByteArray
  | 0, _ => []
  | f + 1, s => if hp 5 s = true then ⟨(txOf (nx 5 s)).toArray⟩ :: tagsF f (txRest (nx 5 s)) else []
def rdFields (v : Int) (s : List UInt8) : Ev :=
  { kind := kindOf v s, task := textOf 2 (behindNum 1 s), time := timeOf (behindText 2 (behindNum 1 s)),
    body := textOf 4 (behindNum 3 (behindText 2 (behindNum 1 s))), tags := tagsF 4 (behindText 4 (behindNum 3 (behindText 2 (behindNum 1 s)))) }
theorem nx_len (tag : Nat) (s : List UInt8) : (nx tag s).length ≤ s.length := by
  unfold nx Lib.trimPrefix; split <;> simp
theorem numRest_len (s : List UInt8) : (numRest s).length ≤ s.length := by
  unfold numRest; rcases h : readNum s with _ | ⟨n, r⟩
  · simp
  · exact readNum_len h
theorem readTx_len {s t r : List UInt8} (h : readTx s = some (t, r)) : t.length + r.length ≤ s.length := by
  unfold readTx at h
  rcases hq : readNum s with _ | ⟨n, q⟩
  · rw [hq] at h; cases h
  · rw [hq] at h
    simp only at h
    split at h
    · simp only [Option.some.injEq, Prod.mk.injEq] at h
      have := readNum_len hq
      rw [← h.1, ← h.2]; simp; omega
    · cases h
theorem txRest_len (s : List UInt8) : (txRest s).length ≤ s.length := by
  unfold txRest; rcases h : readTx s with _ | ⟨n, r⟩
  · simp
  · have := readTx_len h; simp only; omega
theorem txOf_len (s : List UInt8) : (txOf s).length ≤ s.length := by
  unfold txOf; rcases h : readTx s with _ | ⟨n, r⟩
  · simp
  · have := readTx_len h; simp only; omega
theorem behindNum_len (tag : Nat) (s : List UInt8) : (behindNum tag s).length ≤ s.length := by
  have h1 := nx_len tag s; have h2 := numRest_len (nx tag s)
  unfold behindNum; split <;> omega
theorem behindText_len (tag : Nat) (s : List UInt8) : (behindText tag s).length ≤ s.length := by
  have h1 := nx_len tag s; have h2 := txRest_len (nx tag s)
  unfold behindText; split <;> omega
def zeroEv : Ev := ⟨0, ⟨#[]⟩, 0, ⟨#[]⟩, []⟩
def letterKind (c : UInt8) : Int := Lib.indexByte [98, 100, 102] c + 1
def rdLetter : List UInt8 → Ev × Bool
  | [] => (zeroEv, false)
  | c :: r =>
    match readTx r with
    | none => (zeroEv, false)
    | some (t, b) =>
      if t = [] then (⟨letterKind c, ⟨#[45]⟩, 0, ⟨b.toArray⟩, []⟩, isB ⟨letterKind c, ⟨#[45]⟩, 0, ⟨b.toArray⟩, []⟩)
      else (⟨letterKind c, ⟨t.toArray⟩, 0, ⟨b.toArray⟩, []⟩, goesB 1 ⟨letterKind c, ⟨t.toArray⟩, 0, ⟨b.toArray⟩, []⟩)
theorem letterKind_fin : ∀ x : Fin 256, letterKind (UInt8.ofNat x.val) = if UInt8.ofNat x.val = 98 then 1 else if UInt8.ofNat x.val = 100 then 2 else if UInt8.ofNat x.val = 102 then 3 else 0 := by decide +kernel
theorem letterKind_eq (c : UInt8) : letterKind c = if c = 98 then 1 else if c = 100 then 2 else if c = 102 then 3 else 0 := by
  have := letterKind_fin ⟨c.toNat, c.toNat_lt⟩
  simpa using this
theorem letterKind_bd (c : UInt8) : 0 ≤ letterKind c ∧ letterKind c ≤ 3 := by
  rw [letterKind_eq]
  split
  · omega
  · split
    · omega
    · split <;> omega
theorem letterKind_wrap (c : UInt8) : wrap64 (Lib.indexByte [98, 100, 102] c + 1) = letterKind c := by
  have := letterKind_bd c
  unfold letterKind at *
  exact wrap_small (by omega) (by omega)
def okOf (v : Int) (s : List UInt8) : Bool := decide ((encB v (rdFields v s)).2 = 0) && ((encB v (rdFields v s)).1 == s)
def rdB (v : Int) (s : List UInt8) : Ev × Bool := if v = 1 then rdLetter s else (rdFields v s, okOf v s)
theorem textOf_size (tag : Nat) (s : List UInt8) : (textOf tag s).size ≤ s.length := by
  have h1 := nx_len tag s; have h2 := txOf_len (nx tag s)
  unfold textOf; split
  · show (txOf (nx tag s)).length ≤ _; omega
  · show 0 ≤ _; omega
theorem tagsF_size : ∀ (f : Nat) (s : List UInt8), (tagsF f s).length ≤ f ∧ ∀ t ∈ tagsF f s, t.size ≤ s.length
  | 0, s => ⟨by simp [tagsF], by simp [tagsF]⟩
  | f + 1, s => by
    have h1 := nx_len 5 s; have h2 := txOf_len (nx 5 s); have h3 := txRest_len (nx 5 s)
    have ih := tagsF_size f (txRest (nx 5 s))
    unfold tagsF; split
    · refine ⟨by simp; omega, fun t ht => ?_⟩
      rcases List.mem_cons.1 ht with rfl | ht
      · show (txOf (nx 5 s)).length ≤ _; omega
      · have := ih.2 t ht; omega
    · simp
structure Fits (e : Ev) (n : Nat) : Prop where
  task : e.task.size ≤ n
  body : e.body.size ≤ n
  few : e.tags.length ≤ 4
  tags : ∀ t ∈ e.tags, t.size ≤ n
theorem rdFields_fits (v : Int) (s : List UInt8) : Fits (rdFields v s) s.length := by
  have h1 := behindNum_len 1 s
  have h2 := behindText_len 2 (behindNum 1 s)
  have h3 := behindNum_len 3 (behindText 2 (behindNum 1 s))
  have h4 := behindText_len 4 (behindNum 3 (behindText 2 (behindNum 1 s)))
  refine ⟨Nat.le_trans (textOf_size _ _) h1, Nat.le_trans (textOf_size _ _) (by omega), (tagsF_size 4 _).1, fun t ht => Nat.le_trans ((tagsF_size 4 _).2 t ht) (by omega)⟩
end Chron
