/- Walk of chroniclelaw.Changes. -/
import Derived.Test.YtdjllnhahhjgmaaG7
namespace Go.Proofs.Ytdjllnhahhjgmaa
open Go.RowKit Chron
theorem first_change : applyB [97, 98, 99] [1, 1, 122, 122] = ([97, 122, 122, 99], 0) := by decide +kernel
set_option maxRecDepth 100000 in
set_option maxHeartbeats 1000000 in
theorem changes_any (o c : ByteArray) (w : World) (ho : o.size ≤ maxLen) (hc : c.size ≤ maxLen) :
    Calls Try.prog 5 #[.string o, .string c] w fun e w' => e = .returned (.bool true) ∧ Below w.heap.size w w' := by
  have hA0 : ∀ w', Calls Try.prog 18 #[.string ⟨#[97, 98, 99]⟩, .string ⟨#[1, 1, 122, 122]⟩] w' fun e w'' => e = .returned (.tuple #[.string ⟨#[97, 122, 122, 99]⟩, .int .i64 0]) ∧ Below w'.heap.size w' w'' := fun w' => by
    have := apply_any ⟨#[97, 98, 99]⟩ ⟨#[1, 1, 122, 122]⟩ w' (by decide) (by decide)
    rw [show applyB (⟨#[97, 98, 99]⟩ : ByteArray).data.toList (⟨#[1, 1, 122, 122]⟩ : ByteArray).data.toList = ([97, 122, 122, 99], 0) from first_change] at this
    exact this
  have hM := fun w' => make_any o c w' ho hc
  have hM2 := fun w' => makeRef_any o c w' ho hc
  have hA := fun w' => apply_any o c w' ho hc
  have hA2 := fun w' => applyRef_any o c w' ho hc
  generalize makeB o.data.toList c.data.toList = M at hM hM2
  generalize applyB o.data.toList c.data.toList = A at hA hA2
  obtain ⟨m1, m2⟩ := M
  obtain ⟨a1, a2⟩ := A
  simp only [seVal] at hM hM2 hA hA2
  go_enter Try.func5, Try.ntmps5
  go_wp2_with fail
  refine (hA0 _).mono ?_
  rintro e w1 ⟨rfl, hb1⟩
  go_wp2_with fail
  refine (hM _).mono ?_
  rintro e w2 ⟨rfl, hb2⟩
  go_wp2_with fail
  refine (hM2 _).mono ?_
  rintro e w3 ⟨rfl, hb3⟩
  go_wp2_with fail
  refine (hA _).mono ?_
  rintro e w4 ⟨rfl, hb4⟩
  go_wp2_with fail
  refine (hA2 _).mono ?_
  rintro e w5 ⟨rfl, hb5⟩
  have h1 := hb1.size
  have h2 := hb2.size
  have h3 := hb3.size
  have h4 := hb4.size
  have HB := hide0 ((((hb1.trans (hb2.mono h1)).trans (hb3.mono (by omega))).trans (hb4.mono (by omega))).trans (hb5.mono (by omega)))
  go_wp2
  go_ret
  exact ⟨rfl, HB.out⟩
end Go.Proofs.Ytdjllnhahhjgmaa
