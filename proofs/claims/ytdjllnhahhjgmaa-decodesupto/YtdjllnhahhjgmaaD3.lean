/- Walks of chroniclelaw's sameAll (of nothing) and loan.kept (of lists alone). -/
import Derived.Test.YtdjllnhahhjgmaaD2
namespace Go.Proofs.Ytdjllnhahhjgmaa
open Go.RowKit Chron
/- a callee that only reads, met behind draws -/
theorem quiet_more {P : Program} {f : FuncId} {args : Array Value} {w : World} {a n : Nat} {v : Value}
    (h : Calls P f args (w.drewN (a + n)) fun e w' => e = .returned v ∧ w' = w.drewN (a + n)) : Calls P f args (w.drewN (a + n)) fun e w'' => e = .returned v ∧ ∃ m, w'' = w.drewN (a + m) :=
  h.mono fun _ _ ⟨he, hm⟩ => ⟨he, n, hm⟩
theorem quiet_draws {P : Program} {f : FuncId} {args : Array Value} {w : World} {a n : Nat} {v : Value}
    (h : Calls P f args (w.drewN (a + n)) fun e w' => e = .returned v ∧ ∃ m, w' = (w.drewN (a + n)).drewN m) : Calls P f args (w.drewN (a + n)) fun e w'' => e = .returned v ∧ ∃ m, w'' = w.drewN (a + m) :=
  h.mono fun _ _ ⟨he, m, hm⟩ => ⟨he, n + m, by rw [hm, World.drewN_drewN, Nat.add_assoc]⟩
theorem row_at {w : World} {base : Nat} {e : TypeId} {v : Value} {n : Nat} {xs : List Value} (h : w.ownsRow base e 1 v n xs) : ∃ a cap, v = .slice a n cap ∧ n ≤ cap ∧ xs.length = n ∧ ∀ i x, xs[i]? = some x → ∃ g, a = some ⟨g, 0, none⟩ ∧ w.cell? ⟨g, i, none⟩ = some x := by
  obtain ⟨h1, ⟨rfl, rfl⟩ | ⟨g, cap, cur, rfl, a2, a3, a4, a5, a6, a7⟩⟩ := h
  · refine ⟨none, 0, rfl, Nat.le_refl _, by omega, fun i x hx => ?_⟩
    have := (List.getElem?_eq_some_iff.1 hx).1
    omega
  · refine ⟨some ⟨g, 0, none⟩, cap, rfl, a4, by omega, fun i x hx => ⟨g, rfl, ?_⟩⟩
    have hi := (List.getElem?_eq_some_iff.1 hx).1
    rw [← a7, List.getElem?_take_of_lt (by omega)] at hx
    simpa [World.cell?, a3] using hx
theorem sameAll_nil (w : World) : Calls Try.prog 36 #[.slice none 0 0, .slice none 0 0] w fun e w' => e = .returned (.bool true) ∧ w' = w := by
  go_enter Try.func36, Try.ntmps36
  go_wp2
  go_loop [5] (fun i => i = .int .i64 0) (fun _ => 0)
  case atStart => rfl
  case round =>
    subst hrel
    go_wp2
    go_ret
    exact ⟨rfl, rfl⟩
/- lists that were lent: where each lies, and how many places of it are the list's -/
def lentV (ls : List (Nat × Nat)) : List Value := ls.map fun p => .slice (some ⟨p.1, 0, none⟩) (p.2 + 8) (p.2 + 8)
def lentN (ls : List (Nat × Nat)) : List Value := ls.map fun p => .int .i64 p.2
def LentOk (ls : List (Nat × Nat)) (w : World) : Prop := ∀ i M n : Nat, ls[i]? = some (M, n) → n * 16 ≤ 140737488351232 ∧ ∀ q, n ≤ q → q < n + 8 → w.cell? ⟨M, q, none⟩ = some (.string badT)
set_option maxRecDepth 100000 in
set_option maxHeartbeats 1000000 in
theorem kept_tags (b : Nat) (tv cv : Value) (ls : List (Nat × Nat)) (w : World)
    (HL : Hid (LoanAt b tv cv (.slice none 0 0) (.int .i64 0) (.slice none 0 0) ls.length (lentV ls) ls.length (lentN ls) w)) (HK : Hid (LentOk ls w)) (hl : ls.length * 24 ≤ 140737488355328) :
    Calls Try.prog 13 #[.pointer (some ⟨b, 0, none⟩)] w fun e w' => e = .returned (.bool true) ∧ ∃ nq, w' = w.drewN nq := by
  obtain ⟨d0, d1, d2, d3, d4, df⟩ := res_cells HL.out.blk
  obtain ⟨ta, tc, rfl, htc, _, hT⟩ := row_at HL.out.tags
  obtain ⟨ca, cc, rfl, hcc, _, hC⟩ := row_at HL.out.counts
  have HT := hide0 hT
  have HC := hide0 hC
  clear hT hC
  go_enter Try.func13, Try.ntmps13
  go_wp2
  go_loopw [3] (fun i wx => ∃ k nq : Nat, k ≤ ls.length ∧ i = .int .i64 k ∧ wx = w.drewN nq) (fun i _ => ls.length - (intOf i).toNat)
  case atStart => exact ⟨0, 0, Nat.zero_le _, rfl, rfl⟩
  case round =>
    obtain ⟨k, nq, hk, rfl, rfl⟩ := hrel
    by_cases hlt : k < ls.length
    · obtain ⟨M, n, hMn⟩ : ∃ M n, ls[k]? = some (M, n) := ⟨ls[k].1, ls[k].2, by simp [hlt]⟩
      obtain ⟨g1, rfl, c1⟩ := HT.out k (.slice (some ⟨M, 0, none⟩) (n + 8) (n + 8)) (by simp [lentV, hMn])
      obtain ⟨g2, rfl, c2⟩ := HC.out k (.int .i64 n) (by simp [lentN, hMn])
      obtain ⟨hn, hcells⟩ := HK.out k M n hMn
      have HCL := hide0 hcells
      have hki : (k : Int) < (ls.length : Int) := by omega
      clear hMn hcells
      go_wp2
      go_loopw [4] (fun i wx => ∃ p nq : Nat, n ≤ p ∧ p ≤ n + 8 ∧ i = .int .i64 p ∧ wx = w.drewN nq) (fun i _ => n + 8 - (intOf i).toNat)
      case atStart => exact ⟨n, nq, Nat.le_refl _, by omega, rfl, rfl⟩
      case round =>
        obtain ⟨p, nq', hp1, hp2, rfl, rfl⟩ := hrel
        by_cases hq : p < n + 8
        · have cq := HCL.out p hp1 hq
          have hpi : (p : Int) < (n : Int) + 8 := by omega
          have hbb : (badT.toList == badT.toList) = true := by simp
          go_wp2_with fail
          go_quiet (first | (go_at_call 29; refine quiet_more (badTag_zero _)))
          go_wp2
          go_roundw
          case rel => exact ⟨p + 1, _, by omega, by omega, by go_num, rfl⟩
          case measure => simp [intOf]; omega
        · have hpi : (n : Int) + 8 ≤ (p : Int) := by omega
          go_wp2
          go_roundw
          case rel => exact ⟨k + 1, nq', by omega, by go_num, rfl⟩
          case measure => simp [intOf]; omega
    · have hki : (ls.length : Int) ≤ (k : Int) := by omega
      go_wp2
      go_loopw [5] (fun i wx => i = .int .i64 0 ∧ ∃ nq : Nat, wx = w.drewN nq) (fun _ _ => 0)
      case atStart => exact ⟨rfl, nq, rfl⟩
      case round =>
        obtain ⟨rfl, nq', rfl⟩ := hrel
        go_wp2_with fail
        go_quiet (first | (go_at_call 36; refine quiet_more (sameAll_nil _)))
        go_wp2
        go_ret
        exact ⟨rfl, _, World.drewN_drewN _ _ _⟩
end Go.Proofs.Ytdjllnhahhjgmaa
