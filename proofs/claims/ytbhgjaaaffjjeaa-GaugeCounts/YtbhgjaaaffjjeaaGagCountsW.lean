/- What any intervals have. -/
import Derived.Test.YtbhgjaaaffjjeaaGagLaw
namespace Go.Proofs.Ytbhgjaaaffjjeaa.GG
open Go.ChangeShapes Go.WideShapes Go.ChangeAt Go.RowKit Go.Proofs.Ytbhgjaaaffjjeaa.AR Go.Proofs.Ytbhgjaaaffjjeaa.TB
set_option linter.unusedVariables false

set_option maxHeartbeats 8000000 in
theorem gaugeCounts_walk (ao : Option Addr) (len cap : Nat) (rows : List (List Int)) (w : World) (h : RecAt w 6 ao len rows) (lb : len * 48 ≤ 140737488351232) :
    Calls Try.prog 4 #[.slice ao len cap] w fun r w' => r = .returned (.bool true) ∧ Below w.heap.size w w' := by
  have HE : Hid (∀ w', Kp w w' → Below w.heap.size w w') := fun w' q => q
  have HL : Hid (RecAt w 6 ao len rows) := h
  have H1 : Hid (∀ W, Kp w W → Calls Try.prog 12 #[.slice ao len cap] W fun e w' => e = .returned (.int .i64 (wrap64 (cyS rows len))) ∧ Kp W w') := fun W k => cycles_any ao len cap rows W (TB.RecAt.kept h k) (by omega)
  have H2 : Hid (∀ W, Kp w W → Calls Try.prog 13 #[.slice ao len cap] W fun e w' => e = .returned (.int .i64 (wrap64 (cyS rows len))) ∧ Kp W w') := fun W k => rcycles_any ao len cap rows W (TB.RecAt.kept h k) (by omega)
  have H3 : Hid (∀ W, Kp w W → Calls Try.prog 14 #[.slice ao len cap] W fun e w' => e = .returned (.int .i64 (wrap64 (swS rows len))) ∧ Kp W w') := fun W k => switches_any ao len cap rows W (TB.RecAt.kept h k) (by omega)
  have H4 : Hid (∀ W, Kp w W → Calls Try.prog 15 #[.slice ao len cap] W fun e w' => e = .returned (.int .i64 (wrap64 (swS rows len))) ∧ Kp W w') := fun W k => rswitches_any ao len cap rows W (TB.RecAt.kept h k) (by omega)
  generalize wrap64 (cyS rows len) = s1 at *
  generalize wrap64 (swS rows len) = s2 at *
  have e1 : (s1 == s1) = true := by simp
  have e2 : (s2 == s2) = true := by simp
  clear h
  go_enter Try.func4, Try.ntmps4
  try dsimp only [List.append]
  go_wp2
  go_loopw [3] (fun i wr => ∃ (k : Nat), k ≤ len ∧ i = .int .i64 k ∧ wr = w) (fun i _ => len - (intOf i).toNat)
  case atStart => exact ⟨0, Nat.zero_le _, rfl, rfl⟩
  case round =>
    obtain ⟨k, hk, rfl, rfl⟩ := hrel
    by_cases hlt : k < len
    · have hlt' : (k : Int) < (len : Int) := by omega
      have j1 : (0 : Int) ≤ (k : Int) := by omega
      have j3 : ((k : Int)).toNat = k := by omega
      obtain ⟨b, off, rfl, hbl, hc⟩ := fd_at HL.out hlt (Kp.refl _)
      have c5 := hc 5 (by omega)
      clear hc
      generalize fd rows k 5 = x5 at *
      have NN : Hid (∀ w, Calls Try.prog 8 #[.int .i64 x5] w fun e w' => e = .returned (.bool (nearB x5)) ∧ w = w') := near_any x5
      generalize nearB x5 = bb at *
      go_wp2_with fail
      refine (NN.out _).mono ?_
      rintro r w2 ⟨rfl, rfl⟩
      cases bb with
      | true =>
        go_wp2_with fail
        go_roundw
        case rel => exact ⟨k + 1, by omega, by go_num, by first | trivial | rfl⟩
        case measure => simp [intOf]; omega
      | false =>
        go_wp2_with fail
        refine (ganswers_any _).mono ?_
        rintro r w2 ⟨rfl, k2⟩
        go_wp2
        go_ret
        exact ⟨rfl, HE.out _ k2⟩
    · have hlt' : ¬ (k : Int) < (len : Int) := by omega
      go_wp2_with fail
      refine (ganswers_any _).mono ?_
      rintro r w1 ⟨rfl, k1⟩
      go_wp2_with fail
      refine Calls.mono (H1.out _ k1) ?_
      rintro r w2 ⟨rfl, k2⟩
      have K2 := k1.trans k2
      clear k2
      go_wp2_with fail
      refine Calls.mono (H2.out _ K2) ?_
      rintro r w3 ⟨rfl, k3⟩
      have K3 := K2.trans k3
      clear k3
      go_wp2_with fail
      refine Calls.mono (H3.out _ K3) ?_
      rintro r w4 ⟨rfl, k4⟩
      have K4 := K3.trans k4
      clear k4
      go_wp2_with fail
      refine Calls.mono (H4.out _ K4) ?_
      rintro r w5 ⟨rfl, k5⟩
      go_wp2
      go_ret
      exact ⟨by simp, HE.out _ (K4.trans k5)⟩

end Go.Proofs.Ytbhgjaaaffjjeaa.GG
