/- What Decode answers, as a plain function. -/
import Derived.Test.YtdjllnhahhjgmaaR
namespace Chron
open Go Go.RowKit
def decB (v : Int) (s : List UInt8) : Ev × Int := if isVer v = false then (zeroEv, 1) else if (rdB v s).2 = false then (zeroEv, 3) else ((rdB v s).1, 0)
theorem enc_ok {v : Int} {e : Ev} (h : (encB v e).2 = 0) : isVer v = true ∧ goesB v e = true := by
  unfold encB at h
  split at h
  · simp at h
  · rename_i h1
    split at h
    · simp at h
    · rename_i h2
      exact ⟨by simpa using h1, by simpa using h2⟩
theorem rdLetter_is {s : List UInt8} (h : (rdLetter s).2 = true) : isB (rdLetter s).1 = true := by
  match s, h with
  | [], h => simp [rdLetter] at h
  | c :: r, h =>
    rcases hq : readTx r with _ | ⟨t, b⟩
    · simp [rdLetter, hq] at h
    · by_cases ht : t = []
      · simp only [rdLetter, hq, if_pos ht] at h ⊢; exact h
      · simp only [rdLetter, hq, if_neg ht] at h ⊢; exact goes_is h
theorem rd_is {v : Int} {s : List UInt8} (h : (rdB v s).2 = true) : isB (rdB v s).1 = true := by
  by_cases hv : v = 1
  · rw [rdB, if_pos hv] at h ⊢; exact rdLetter_is h
  · rw [rdB, if_neg hv] at h ⊢
    simp only [okOf, Bool.and_eq_true, decide_eq_true_eq] at h
    exact goes_is (enc_ok h.1).2
end Chron
