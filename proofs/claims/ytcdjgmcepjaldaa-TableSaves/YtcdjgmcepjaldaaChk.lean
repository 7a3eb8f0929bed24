/- What Check answers. -/
import Derived.Test.YtcdjgmcepjaldaaSlow
namespace Go.Proofs.Ytcdjgmcepjaldaa.TB
open Go.ChangeShapes Go.WideShapes Go.ChangeAt Go.RowKit Go.Proofs.Ytcdjgmcepjaldaa.AR

/-- OK, or ErrTable -/
def erc : Bool → Int
  | true => 0
  | false => 2

/-- what lies in memory of a machine -/
structure Mach (w : World) (aL : Option Addr) (lL : Nat) (rL : List (List Int)) (aS : Option Addr) (lS : Nat) (rS : List (List Int)) (aD : Option Addr) (lD : Nat) (rD : List (List Int)) : Prop where
  lev : RecAt w 2 aL lL rL
  slp : RecAt w 6 aS lS rS
  dvs : RecAt w 7 aD lD rD
  nL : lL ≤ 9223372036854775807
  nS : lS ≤ 9223372036854775807
  nD : lD ≤ 9223372036854775807

theorem Mach.kept {w w' : World} {aL : Option Addr} {lL : Nat} {rL : List (List Int)} {aS : Option Addr} {lS : Nat} {rS : List (List Int)} {aD : Option Addr} {lD : Nat} {rD : List (List Int)}
    (h : Mach w aL lL rL aS lS rS aD lD rD) (k : Kp w w') : Mach w' aL lL rL aS lS rS aD lD rD := ⟨RecAt.kept h.lev k, RecAt.kept h.slp k, RecAt.kept h.dvs k, h.nL, h.nS, h.nD⟩

/-- a machine's box stays as it is -/
theorem box_cells {w w1 : World} {c0 c1 c2 c3 c4 c5 c6 c7 c8 : Value} (k : Kp (w.alloc (.cells #[c0, c1, c2, c3, c4, c5, c6, c7, c8] 26)) w1) :
    w1.cell? ⟨w.heap.size, 0, none⟩ = some c0 ∧ w1.cell? ⟨w.heap.size, 1, none⟩ = some c1 ∧ w1.cell? ⟨w.heap.size, 2, none⟩ = some c2 ∧ w1.cell? ⟨w.heap.size, 3, none⟩ = some c3 ∧ w1.cell? ⟨w.heap.size, 4, none⟩ = some c4 ∧
      w1.cell? ⟨w.heap.size, 5, none⟩ = some c5 ∧ w1.cell? ⟨w.heap.size, 6, none⟩ = some c6 ∧ w1.cell? ⟨w.heap.size, 7, none⟩ = some c7 ∧ w1.cell? ⟨w.heap.size, 8, none⟩ = some c8 := by
  have h : ∀ i, w1.cell? ⟨w.heap.size, i, none⟩ = (w.alloc (.cells #[c0, c1, c2, c3, c4, c5, c6, c7, c8] 26)).cell? ⟨w.heap.size, i, none⟩ := fun i => k.cell (by simp)
  refine ⟨?_, ?_, ?_, ?_, ?_, ?_, ?_, ?_, ?_⟩ <;> rw [h] <;> simp

set_option maxHeartbeats 8000000 in
theorem check_any (aL : Option Addr) (lL cL : Nat) (rL : List (List Int)) (aS : Option Addr) (lS cS : Nat) (rS : List (List Int)) (aD : Option Addr) (lD cD : Nat) (rD : List (List Int)) (idle crit sw swe sems hor : Int) (w : World)
    (h : Mach w aL lL rL aS lS rS aD lD rD) :
    Calls Try.prog 8 #[pv aL lL cL aS lS cS aD lD cD idle crit sw swe sems hor] w
      fun e w' => e = .returned (.int .i64 (erc (mayB lL rL lS rS lD rD idle crit sw swe sems hor))) ∧ Kp w w' := by
  obtain ⟨res, hres⟩ : ∃ res, mayB lL rL lS rS lD rD idle crit sw swe sems hor = res := ⟨_, rfl⟩
  rw [hres]
  have HR : Hid (mayB lL rL lS rS lD rD idle crit sw swe sems hor = res) := hres
  clear hres
  have b0 : Kp w (w.alloc (.cells #[.slice aL lL cL, .slice aS lS cS, .slice aD lD cD, .int .i64 idle, .int .i64 crit, .int .i64 sw, .int .i64 swe, .int .i64 sems, .int .i64 hor] 26)) := (Kp.refl w).alloc _
  have HB : Hid (Kp w (w.alloc (.cells #[.slice aL lL cL, .slice aS lS cS, .slice aD lD cD, .int .i64 idle, .int .i64 crit, .int .i64 sw, .int .i64 swe, .int .i64 sems, .int .i64 hor] 26))) := b0
  clear b0
  unfold pv
  by_cases q1 : numB lL idle crit sw swe sems hor = true
  · by_cases q2 : levsB lL rL = true
    · have Q1 := numB_t.1 q1
      have Q2 := levsB_t.1 q2
      by_cases q3 : slowB lL rL idle crit = true
      · by_cases q4 : slpsB lS rS idle = true
        · by_cases q5 : devsB lD rD = true
          · have HN : Hid (res = true) := by show _ = _; rw [← HR.out]; unfold mayB; rw [q1, q2, q3, q4, q5]; simp
            go_enter Try.func8, Try.ntmps8
            go_wp2_with (first
              | (go_at_call 11; refine (numbers_any aL lL cL aS lS cS aD lD cD idle crit sw swe sems hor _ h.nL).mono ?_; rintro e w1 ⟨rfl, k1⟩; rw [q1]; obtain ⟨d0, d1, d2, d3, d4, d5, d6, d7, d8⟩ := box_cells k1; have KK := HB.out.trans k1)
              | (go_at_call 12; refine (levels_any aL lL cL rL _ (RecAt.kept h.lev KK) h.nL).mono ?_; rintro e w1 ⟨rfl, k2⟩; rw [q2]; have k1 := k1.trans k2; obtain ⟨d0, d1, d2, d3, d4, d5, d6, d7, d8⟩ := box_cells k1; have KK := HB.out.trans k1)
              | (go_at_call 13; refine (slowing_any aL lL cL aS lS cS aD lD cD idle crit sw swe sems hor rL _ (RecAt.kept h.lev KK) Q2.2 Q1.1 Q1.2.1 Q2.1.2).mono ?_; rintro e w1 ⟨rfl, k2⟩; rw [q3]; have k1 := k1.trans k2; obtain ⟨d0, d1, d2, d3, d4, d5, d6, d7, d8⟩ := box_cells k1; have KK := HB.out.trans k1)
              | (go_at_call 14; refine (sleeps_any aL lL cL aS lS cS aD lD cD idle crit sw swe sems hor rS _ (RecAt.kept h.slp KK) h.nS).mono ?_; rintro e w1 ⟨rfl, k2⟩; rw [q4]; have k1 := k1.trans k2; obtain ⟨d0, d1, d2, d3, d4, d5, d6, d7, d8⟩ := box_cells k1; have KK := HB.out.trans k1)
              | (go_at_call 15; refine (devices_any aD lD cD rD _ (RecAt.kept h.dvs KK) h.nD).mono ?_; rintro e w1 ⟨rfl, k2⟩; rw [q5]; have k1 := k1.trans k2; have KK := HB.out.trans k1)
              | fail)
            go_ret
            exact ⟨by rw [HN.out]; rfl, KK⟩
          · replace q5 : devsB lD rD = false := by simpa using q5
            have HN : Hid (res = false) := by show _ = _; rw [← HR.out]; unfold mayB; rw [q1, q2, q3, q4, q5]; simp
            go_enter Try.func8, Try.ntmps8
            go_wp2_with (first
              | (go_at_call 11; refine (numbers_any aL lL cL aS lS cS aD lD cD idle crit sw swe sems hor _ h.nL).mono ?_; rintro e w1 ⟨rfl, k1⟩; rw [q1]; obtain ⟨d0, d1, d2, d3, d4, d5, d6, d7, d8⟩ := box_cells k1; have KK := HB.out.trans k1)
              | (go_at_call 12; refine (levels_any aL lL cL rL _ (RecAt.kept h.lev KK) h.nL).mono ?_; rintro e w1 ⟨rfl, k2⟩; rw [q2]; have k1 := k1.trans k2; obtain ⟨d0, d1, d2, d3, d4, d5, d6, d7, d8⟩ := box_cells k1; have KK := HB.out.trans k1)
              | (go_at_call 13; refine (slowing_any aL lL cL aS lS cS aD lD cD idle crit sw swe sems hor rL _ (RecAt.kept h.lev KK) Q2.2 Q1.1 Q1.2.1 Q2.1.2).mono ?_; rintro e w1 ⟨rfl, k2⟩; rw [q3]; have k1 := k1.trans k2; obtain ⟨d0, d1, d2, d3, d4, d5, d6, d7, d8⟩ := box_cells k1; have KK := HB.out.trans k1)
              | (go_at_call 14; refine (sleeps_any aL lL cL aS lS cS aD lD cD idle crit sw swe sems hor rS _ (RecAt.kept h.slp KK) h.nS).mono ?_; rintro e w1 ⟨rfl, k2⟩; rw [q4]; have k1 := k1.trans k2; obtain ⟨d0, d1, d2, d3, d4, d5, d6, d7, d8⟩ := box_cells k1; have KK := HB.out.trans k1)
              | (go_at_call 15; refine (devices_any aD lD cD rD _ (RecAt.kept h.dvs KK) h.nD).mono ?_; rintro e w1 ⟨rfl, k2⟩; rw [q5]; have k1 := k1.trans k2; have KK := HB.out.trans k1)
              | fail)
            go_ret
            exact ⟨by rw [HN.out]; rfl, KK⟩
        · replace q4 : slpsB lS rS idle = false := by simpa using q4
          have HN : Hid (res = false) := by show _ = _; rw [← HR.out]; unfold mayB; rw [q1, q2, q3, q4]; simp
          go_enter Try.func8, Try.ntmps8
          go_wp2_with (first
            | (go_at_call 11; refine (numbers_any aL lL cL aS lS cS aD lD cD idle crit sw swe sems hor _ h.nL).mono ?_; rintro e w1 ⟨rfl, k1⟩; rw [q1]; obtain ⟨d0, d1, d2, d3, d4, d5, d6, d7, d8⟩ := box_cells k1; have KK := HB.out.trans k1)
            | (go_at_call 12; refine (levels_any aL lL cL rL _ (RecAt.kept h.lev KK) h.nL).mono ?_; rintro e w1 ⟨rfl, k2⟩; rw [q2]; have k1 := k1.trans k2; obtain ⟨d0, d1, d2, d3, d4, d5, d6, d7, d8⟩ := box_cells k1; have KK := HB.out.trans k1)
            | (go_at_call 13; refine (slowing_any aL lL cL aS lS cS aD lD cD idle crit sw swe sems hor rL _ (RecAt.kept h.lev KK) Q2.2 Q1.1 Q1.2.1 Q2.1.2).mono ?_; rintro e w1 ⟨rfl, k2⟩; rw [q3]; have k1 := k1.trans k2; obtain ⟨d0, d1, d2, d3, d4, d5, d6, d7, d8⟩ := box_cells k1; have KK := HB.out.trans k1)
            | (go_at_call 14; refine (sleeps_any aL lL cL aS lS cS aD lD cD idle crit sw swe sems hor rS _ (RecAt.kept h.slp KK) h.nS).mono ?_; rintro e w1 ⟨rfl, k2⟩; rw [q4]; have k1 := k1.trans k2; obtain ⟨d0, d1, d2, d3, d4, d5, d6, d7, d8⟩ := box_cells k1; have KK := HB.out.trans k1)
            | (go_at_call 15; refine (devices_any aD lD cD rD _ (RecAt.kept h.dvs KK) h.nD).mono ?_; rintro e w1 ⟨rfl, k2⟩; rw [q5]; have k1 := k1.trans k2; have KK := HB.out.trans k1)
            | fail)
          go_ret
          exact ⟨by rw [HN.out]; rfl, KK⟩
      · replace q3 : slowB lL rL idle crit = false := by simpa using q3
        have HN : Hid (res = false) := by show _ = _; rw [← HR.out]; unfold mayB; rw [q1, q2, q3]; simp
        go_enter Try.func8, Try.ntmps8
        go_wp2_with (first
          | (go_at_call 11; refine (numbers_any aL lL cL aS lS cS aD lD cD idle crit sw swe sems hor _ h.nL).mono ?_; rintro e w1 ⟨rfl, k1⟩; rw [q1]; obtain ⟨d0, d1, d2, d3, d4, d5, d6, d7, d8⟩ := box_cells k1; have KK := HB.out.trans k1)
          | (go_at_call 12; refine (levels_any aL lL cL rL _ (RecAt.kept h.lev KK) h.nL).mono ?_; rintro e w1 ⟨rfl, k2⟩; rw [q2]; have k1 := k1.trans k2; obtain ⟨d0, d1, d2, d3, d4, d5, d6, d7, d8⟩ := box_cells k1; have KK := HB.out.trans k1)
          | (go_at_call 13; refine (slowing_any aL lL cL aS lS cS aD lD cD idle crit sw swe sems hor rL _ (RecAt.kept h.lev KK) Q2.2 Q1.1 Q1.2.1 Q2.1.2).mono ?_; rintro e w1 ⟨rfl, k2⟩; rw [q3]; have k1 := k1.trans k2; obtain ⟨d0, d1, d2, d3, d4, d5, d6, d7, d8⟩ := box_cells k1; have KK := HB.out.trans k1)
          | (go_at_call 14; refine (sleeps_any aL lL cL aS lS cS aD lD cD idle crit sw swe sems hor rS _ (RecAt.kept h.slp KK) h.nS).mono ?_; rintro e w1 ⟨rfl, k2⟩; rw [q4]; have k1 := k1.trans k2; obtain ⟨d0, d1, d2, d3, d4, d5, d6, d7, d8⟩ := box_cells k1; have KK := HB.out.trans k1)
          | (go_at_call 15; refine (devices_any aD lD cD rD _ (RecAt.kept h.dvs KK) h.nD).mono ?_; rintro e w1 ⟨rfl, k2⟩; rw [q5]; have k1 := k1.trans k2; have KK := HB.out.trans k1)
          | fail)
        go_ret
        exact ⟨by rw [HN.out]; rfl, KK⟩
    · replace q2 : levsB lL rL = false := by simpa using q2
      have HN : Hid (res = false) := by show _ = _; rw [← HR.out]; unfold mayB; rw [q1, q2]; simp
      go_enter Try.func8, Try.ntmps8
      go_wp2_with (first
        | (go_at_call 11; refine (numbers_any aL lL cL aS lS cS aD lD cD idle crit sw swe sems hor _ h.nL).mono ?_; rintro e w1 ⟨rfl, k1⟩; rw [q1]; obtain ⟨d0, d1, d2, d3, d4, d5, d6, d7, d8⟩ := box_cells k1; have KK := HB.out.trans k1)
        | (go_at_call 12; refine (levels_any aL lL cL rL _ (RecAt.kept h.lev KK) h.nL).mono ?_; rintro e w1 ⟨rfl, k2⟩; rw [q2]; have k1 := k1.trans k2; obtain ⟨d0, d1, d2, d3, d4, d5, d6, d7, d8⟩ := box_cells k1; have KK := HB.out.trans k1)
        | (go_at_call 13; refine (slowing_any aL lL cL aS lS cS aD lD cD idle crit sw swe sems hor rL _ (RecAt.kept h.lev KK) Q2.2 Q1.1 Q1.2.1 Q2.1.2).mono ?_; rintro e w1 ⟨rfl, k2⟩; rw [q3]; have k1 := k1.trans k2; obtain ⟨d0, d1, d2, d3, d4, d5, d6, d7, d8⟩ := box_cells k1; have KK := HB.out.trans k1)
        | (go_at_call 14; refine (sleeps_any aL lL cL aS lS cS aD lD cD idle crit sw swe sems hor rS _ (RecAt.kept h.slp KK) h.nS).mono ?_; rintro e w1 ⟨rfl, k2⟩; rw [q4]; have k1 := k1.trans k2; obtain ⟨d0, d1, d2, d3, d4, d5, d6, d7, d8⟩ := box_cells k1; have KK := HB.out.trans k1)
        | (go_at_call 15; refine (devices_any aD lD cD rD _ (RecAt.kept h.dvs KK) h.nD).mono ?_; rintro e w1 ⟨rfl, k2⟩; rw [q5]; have k1 := k1.trans k2; have KK := HB.out.trans k1)
        | fail)
      go_ret
      exact ⟨by rw [HN.out]; rfl, KK⟩
  · replace q1 : numB lL idle crit sw swe sems hor = false := by simpa using q1
    have HN : Hid (res = false) := by show _ = _; rw [← HR.out]; unfold mayB; rw [q1]; simp
    go_enter Try.func8, Try.ntmps8
    go_wp2_with (first
      | (go_at_call 11; refine (numbers_any aL lL cL aS lS cS aD lD cD idle crit sw swe sems hor _ h.nL).mono ?_; rintro e w1 ⟨rfl, k1⟩; rw [q1]; obtain ⟨d0, d1, d2, d3, d4, d5, d6, d7, d8⟩ := box_cells k1; have KK := HB.out.trans k1)
      | (go_at_call 12; refine (levels_any aL lL cL rL _ (RecAt.kept h.lev KK) h.nL).mono ?_; rintro e w1 ⟨rfl, k2⟩; rw [q2]; have k1 := k1.trans k2; obtain ⟨d0, d1, d2, d3, d4, d5, d6, d7, d8⟩ := box_cells k1; have KK := HB.out.trans k1)
      | (go_at_call 13; refine (slowing_any aL lL cL aS lS cS aD lD cD idle crit sw swe sems hor rL _ (RecAt.kept h.lev KK) Q2.2 Q1.1 Q1.2.1 Q2.1.2).mono ?_; rintro e w1 ⟨rfl, k2⟩; rw [q3]; have k1 := k1.trans k2; obtain ⟨d0, d1, d2, d3, d4, d5, d6, d7, d8⟩ := box_cells k1; have KK := HB.out.trans k1)
      | (go_at_call 14; refine (sleeps_any aL lL cL aS lS cS aD lD cD idle crit sw swe sems hor rS _ (RecAt.kept h.slp KK) h.nS).mono ?_; rintro e w1 ⟨rfl, k2⟩; rw [q4]; have k1 := k1.trans k2; obtain ⟨d0, d1, d2, d3, d4, d5, d6, d7, d8⟩ := box_cells k1; have KK := HB.out.trans k1)
      | (go_at_call 15; refine (devices_any aD lD cD rD _ (RecAt.kept h.dvs KK) h.nD).mono ?_; rintro e w1 ⟨rfl, k2⟩; rw [q5]; have k1 := k1.trans k2; have KK := HB.out.trans k1)
      | fail)
    go_ret
    exact ⟨by rw [HN.out]; rfl, KK⟩

end Go.Proofs.Ytcdjgmcepjaldaa.TB
