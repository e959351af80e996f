/- chronicleref.Decode, of every number and text. -/
import Derived.Test.YtdjllnhahhjgmaaF6
namespace Go.Proofs.Ytdjllnhahhjgmaa
open Go.RowKit Chron
theorem decodeRef_any (v : Int) (s : ByteArray) (w : World) (hs : s.size ≤ 4398046511104) :
    Calls Try.prog 15 #[.int .i64 v, .string s] w fun e w' =>
      ∃ x, e = .returned (.tuple #[evVal (decB v s.data.toList).1 x, .int .i64 (decB v s.data.toList).2]) ∧ w'.ownsRow w.heap.size 9 1 x (decB v s.data.toList).1.tags.length ((decB v s.data.toList).1.tags.map Value.string) ∧ Below w.heap.size w w' := by
  by_cases hv : isVer v = true
  · by_cases h1 : v = 1
    · subst h1
      by_cases hb : s.size ≤ 1 ∨ ∃ h : 0 < s.size, s[0] = 0
      · exact decodeRef_bare s w hb
      · have h1 : 1 < s.size := by
          by_cases h : s.size ≤ 1
          · exact absurd (.inl h) hb
          · omega
        have hd := drop_cons s 0 (by omega)
        rw [List.drop_zero] at hd
        exact decodeRef_letter s s[0] _ w hs hd h1 (fun h => hb (.inr ⟨by omega, h⟩))
    · exact decodeRef_fields v s w hs (by simp [isVer] at hv; omega)
  · exact decodeRef_no v s w (by simpa using hv)
end Go.Proofs.Ytdjllnhahhjgmaa
