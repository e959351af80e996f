/- A plain fact: no event has many bytes. -/
import Derived.Test.YtdjllnhahhjgmaaV
namespace Chron
open Go Go.RowKit
theorem enc_len {v : Int} {e : Ev} (h : goesB v e = true) : (encB v e).1.length ≤ 1000 := by
  have hv := goes_ver h
  obtain ⟨_, _, ht, _, _, _, hb, hf, hl⟩ := is_known (goes_is h)
  rw [encB, if_neg (by simp [hv]), if_neg (by simp [h])]
  have h1 := text_len e.task.data.toList
  have h2 : e.task.data.toList.length = e.task.size := by simp
  have h3 : e.body.data.toList.length = e.body.size := by simp
  have h4 := front_len (e.kind - shift v).toNat e.task ht
  have h5 := timePart_len e.time
  have h6 := bodyPart_len e.body hb
  have h7 := tagParts_len e.tags hl
  split
  · simp only [letterB, List.cons_append, List.length_cons, List.length_append]; omega
  · simp only [fieldsB, List.length_append]; omega
theorem dec_few (v : Int) (s : List UInt8) : (decB v s).1.tags.length ≤ 4 := by
  unfold decB
  split
  · simp [zeroEv]
  · split
    · simp [zeroEv]
    · rename_i h; exact (is_known (rd_is (by simpa using h))).few
end Chron
