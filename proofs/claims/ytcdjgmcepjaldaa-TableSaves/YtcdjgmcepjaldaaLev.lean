/- What each part of table.Check answers. -/
import Derived.Test.YtcdjgmcepjaldaaMay
import Derived.OwnWalk
import Derived.StillTailTactics
namespace Go.Proofs.Ytcdjgmcepjaldaa.TB
open Go.ChangeShapes Go.WideShapes Go.ChangeAt Go.RowKit Go.Proofs.Ytcdjgmcepjaldaa.AR

set_option maxHeartbeats 4000000 in
theorem numbers_any (aL : Option Addr) (lL cL : Nat) (aS : Option Addr) (lS cS : Nat) (aD : Option Addr) (lD cD : Nat) (idle crit sw swe sems hor : Int) (w : World) (hl : lL ≤ 9223372036854775807) :
    Calls Try.prog 11 #[pv aL lL cL aS lS cS aD lD cD idle crit sw swe sems hor] w
      fun e w' => e = .returned (.bool (numB lL idle crit sw swe sems hor)) ∧ Kp w w' := by
  unfold pv
  go_enter Try.func11, Try.ntmps11
  try dsimp only [List.append]
  go_wp2_with (first
    | (go_at_call 18; refine (within_any _ _ _ _).mono ?_; rintro e w1 ⟨rfl, rfl⟩)
    | fail)
  all_goals
    go_ret
    refine ⟨congrArg (fun b => Ending.returned (Value.bool b)) ?_, (Kp.refl _).alloc _⟩
    simp only [inB_t] at *
    first
      | (symm; rw [numB_f]; rintro ⟨_, _, _, _, _, _⟩; omega)
      | (unfold inB numB Num; apply decide_eq_decide.2; omega)

set_option maxHeartbeats 4000000 in
theorem levels_any (aL : Option Addr) (lL cL : Nat) (rL : List (List Int)) (w : World) (hr : RecAt w 2 aL lL rL) (hl : lL ≤ 9223372036854775807) :
    Calls Try.prog 12 #[.slice aL lL cL] w
      fun e w' => e = .returned (.bool (levsB lL rL)) ∧ Kp w w' := by
  obtain ⟨res, hres⟩ : ∃ res, levsB lL rL = res := ⟨_, rfl⟩
  rw [hres]
  have HR : Hid (levsB lL rL = res) := hres
  clear hres
  by_cases hq : 1 ≤ lL ∧ lL ≤ 4
  · have hin : inB (lL : Int) 1 4 = true := inB_t.2 (by omega)
    have HQ : Hid (1 ≤ lL ∧ lL ≤ 4) := hq
    clear hq
    go_enter Try.func12, Try.ntmps12
    go_wp2_with (first
      | (go_at_call 18; refine (within_any _ _ _ _).mono ?_; rintro e w1 ⟨rfl, rfl⟩; rw [hin])
      | fail)
    clear hin
    go_loopw [3, 12] (fun a i wr => ∃ k : Nat, k ≤ lL ∧ i = .int .i64 k ∧ a = .int .i64 (ahd rL k) ∧ Hid (∀ j, j < k → Lev rL j) ∧ Kp w wr) (fun _ i _ => lL - (intOf i).toNat)
    case atStart => exact ⟨0, Nat.zero_le _, rfl, rfl, fun j hj => by omega, Kp.refl _⟩
    case round =>
      obtain ⟨k, hk, rfl, rfl, HL, hkp⟩ := hrel
      by_cases hlt : k < lL
      · have hlt' : (k : Int) < (lL : Int) := by omega
        obtain ⟨b, off, rfl, hb, hc⟩ := fd_at hr hlt hkp
        have c0 := hc 0 (by omega)
        have c1 := hc 1 (by omega)
        clear hc
        simp only [Nat.add_zero] at c0
        have ha := ahd_bound HL.out
        by_cases g1 : inB (fd rL k 0) (ahd rL k + 1) 256 = true
        · by_cases g2 : inB (fd rL k 1) 0 65536 = true
          · have HN : Hid (∀ j, j < k + 1 → Lev rL j) := fun j hj => by
              by_cases hj' : j < k
              · exact HL.out j hj'
              · obtain rfl : j = k := by omega
                exact ⟨inB_t.1 g1, inB_t.1 g2⟩
            generalize ahd rL k = a0 at *
            go_wp2_with (first
              | (go_at_call 18; refine (within_any _ _ _ _).mono ?_; rintro e w1 ⟨rfl, rfl⟩; first | rw [g1] | rw [g2])
              | fail)
            go_roundw
            case rel => exact ⟨k + 1, by omega, by go_num, rfl, HN, hkp.alloc _⟩
            case measure => simp [intOf]; omega
          · have g2' : inB (fd rL k 1) 0 65536 = false := by simpa using g2
            have HN : Hid (levsB lL rL = false) := levsB_f.2 (fun q => g2 (inB_t.2 (q.2 k hlt).2))
            clear g2
            generalize ahd rL k = a0 at *
            go_wp2_with (first
              | (go_at_call 18; refine (within_any _ _ _ _).mono ?_; rintro e w1 ⟨rfl, rfl⟩; first | rw [g1] | rw [g2'])
              | fail)
            go_ret
            exact ⟨congrArg (fun b => Ending.returned (Value.bool b)) (HN.out.symm.trans HR.out), hkp.alloc _⟩
        · have g1' : inB (fd rL k 0) (ahd rL k + 1) 256 = false := by simpa using g1
          have HN : Hid (levsB lL rL = false) := levsB_f.2 (fun q => g1 (inB_t.2 (q.2 k hlt).1))
          clear g1
          generalize ahd rL k = a0 at *
          go_wp2_with (first
            | (go_at_call 18; refine (within_any _ _ _ _).mono ?_; rintro e w1 ⟨rfl, rfl⟩; rw [g1'])
            | fail)
          go_ret
          exact ⟨congrArg (fun b => Ending.returned (Value.bool b)) (HN.out.symm.trans HR.out), hkp.alloc _⟩
      · have hlt' : ¬ (k : Int) < (lL : Int) := by omega
        have HN : Hid (levsB lL rL = true) := levsB_t.2 ⟨HQ.out, fun i hi => HL.out i (by omega)⟩
        generalize ahd rL k = a0 at *
        go_wp2
        go_ret
        exact ⟨congrArg (fun b => Ending.returned (Value.bool b)) (HN.out.symm.trans HR.out), hkp⟩
  · have hin : inB (lL : Int) 1 4 = false := inB_f.2 (by omega)
    have HN : Hid (levsB lL rL = false) := levsB_f.2 (fun q => hq q.1)
    clear hq
    go_enter Try.func12, Try.ntmps12
    go_wp2_with (first
      | (go_at_call 18; refine (within_any _ _ _ _).mono ?_; rintro e w1 ⟨rfl, rfl⟩; rw [hin])
      | fail)
    go_ret
    exact ⟨congrArg (fun b => Ending.returned (Value.bool b)) (HN.out.symm.trans HR.out), Kp.refl _⟩

end Go.Proofs.Ytcdjgmcepjaldaa.TB
