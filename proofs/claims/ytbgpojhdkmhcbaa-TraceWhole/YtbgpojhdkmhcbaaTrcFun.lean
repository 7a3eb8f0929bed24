/- What the small functions answer: lasting, end, small, Join. -/
import Derived.Test.YtbgpojhdkmhcbaaTrcMem
namespace Go.Proofs.Ytbgpojhdkmhcbaa.TC
open Go.ChangeShapes Go.WideShapes Go.ChangeAt Go.RowKit Go.Proofs.Ytbgpojhdkmhcbaa.AR

theorem lasting_any (k : Int) (w : World) :
    Calls Try.prog 18 #[.int .i64 k] w fun e w' => e = .returned (.bool (lastsB k)) ∧ w = w' := by
  have HR : Hid (lastsB k = decide (k = 1 ∨ k = 2 ∨ k = 5)) := rfl
  generalize lastsB k = res at *
  by_cases a1 : k = 1
  · have HQ : Hid (true = res) := by show true = _; rw [HR.out]; exact (decide_eq_true (by omega)).symm
    clear HR
    have b1 : (k == 1) = true := by simpa using a1
    clear a1
    go_enter Try.func18, Try.ntmps18
    go_wp2
    go_ret
    exact ⟨congrArg (fun b => Ending.returned (Value.bool b)) HQ.out, rfl⟩
  · by_cases a2 : k = 2
    · have HQ : Hid (true = res) := by show true = _; rw [HR.out]; exact (decide_eq_true (by omega)).symm
      clear HR
      have b1 : (k == 1) = false := by simpa using a1
      have b2 : (k == 2) = true := by simpa using a2
      clear a1 a2
      go_enter Try.func18, Try.ntmps18
      go_wp2
      go_ret
      exact ⟨congrArg (fun b => Ending.returned (Value.bool b)) HQ.out, rfl⟩
    · have HQ : Hid ((k == 5) = res) := by
        show _ = _
        rw [HR.out]
        by_cases a5 : k = 5
        · rw [show (k == 5) = true by simpa using a5]; exact (decide_eq_true (by omega)).symm
        · rw [show (k == 5) = false by simpa using a5]; exact (decide_eq_false (by omega)).symm
      clear HR
      have b1 : (k == 1) = false := by simpa using a1
      have b2 : (k == 2) = false := by simpa using a2
      clear a1 a2
      go_enter Try.func18, Try.ntmps18
      go_wp2
      go_ret
      exact ⟨congrArg (fun b => Ending.returned (Value.bool b)) HQ.out, rfl⟩

theorem end_any (x : I6) (w : World) :
    Calls Try.prog 17 #[x.v] w fun e w' => e = .returned (.int .i64 (en x)) ∧ Kp w w' := by
  have HA : Hid (∀ o, Kp w (w.alloc o)) := fun o => (Step.refl _ w).alloc o
  obtain ⟨k, f, l, a, t, c⟩ := x
  unfold I6.v en
  go_enter Try.func17, Try.ntmps17
  go_wp2
  go_ret
  exact ⟨rfl, HA.out _⟩

/-- an interval of which the chapter speaks -/
def Small (x : I6) : Prop := (0 ≤ x.f ∧ x.f ≤ 1073741824) ∧ (0 ≤ x.l ∧ x.l ≤ 1073741824) ∧ (0 ≤ x.c ∧ x.c ≤ 1073741824)
def decSmall (x : I6) : Decidable (Small x) := by unfold Small; exact inferInstance
def smallB (x : I6) : Bool := @decide (Small x) (decSmall x)
theorem smallB_t {x : I6} : smallB x = true ↔ Small x := by simp [smallB]
theorem smallB_f {x : I6} : smallB x = false ↔ ¬ Small x := by simp [smallB]

set_option maxHeartbeats 4000000 in
theorem small_any (x : I6) (w : World) :
    Calls Try.prog 9 #[x.v] w fun e w' => e = .returned (.bool (smallB x)) ∧ Kp w w' := by
  have HA : Hid (∀ o, Kp w (w.alloc o)) := fun o => (Step.refl _ w).alloc o
  obtain ⟨k, frm, len, arg, task, cyc⟩ := x
  have HR : Hid (smallB ⟨k, frm, len, arg, task, cyc⟩ = decide ((0 ≤ frm ∧ frm ≤ 1073741824) ∧ (0 ≤ len ∧ len ≤ 1073741824) ∧ (0 ≤ cyc ∧ cyc ≤ 1073741824))) := rfl
  generalize smallB ⟨k, frm, len, arg, task, cyc⟩ = res at *
  unfold I6.v
  by_cases a1 : 0 ≤ frm
  · by_cases a2 : frm ≤ 1073741824
    · by_cases a3 : 0 ≤ len
      · by_cases a4 : len ≤ 1073741824
        · by_cases a5 : 0 ≤ cyc
          · by_cases a6 : cyc ≤ 1073741824
            · have HQ : Hid (true = res) := by show true = _; rw [HR.out]; exact (decide_eq_true ⟨⟨a1, a2⟩, ⟨a3, a4⟩, a5, a6⟩).symm
              clear HR
              go_enter Try.func9, Try.ntmps9
              go_wp2
              go_ret
              exact ⟨congrArg (fun b => Ending.returned (Value.bool b)) HQ.out, HA.out _⟩
            · have HQ : Hid (false = res) := by show false = _; rw [HR.out]; exact (decide_eq_false (by omega)).symm
              clear HR
              go_enter Try.func9, Try.ntmps9
              go_wp2
              go_ret
              exact ⟨congrArg (fun b => Ending.returned (Value.bool b)) HQ.out, HA.out _⟩
          · have HQ : Hid (false = res) := by show false = _; rw [HR.out]; exact (decide_eq_false (by omega)).symm
            clear HR
            go_enter Try.func9, Try.ntmps9
            go_wp2
            go_ret
            exact ⟨congrArg (fun b => Ending.returned (Value.bool b)) HQ.out, HA.out _⟩
        · have HQ : Hid (false = res) := by show false = _; rw [HR.out]; exact (decide_eq_false (by omega)).symm
          clear HR
          go_enter Try.func9, Try.ntmps9
          go_wp2
          go_ret
          exact ⟨congrArg (fun b => Ending.returned (Value.bool b)) HQ.out, HA.out _⟩
      · have HQ : Hid (false = res) := by show false = _; rw [HR.out]; exact (decide_eq_false (by omega)).symm
        clear HR
        go_enter Try.func9, Try.ntmps9
        go_wp2
        go_ret
        exact ⟨congrArg (fun b => Ending.returned (Value.bool b)) HQ.out, HA.out _⟩
    · have HQ : Hid (false = res) := by show false = _; rw [HR.out]; exact (decide_eq_false (by omega)).symm
      clear HR
      go_enter Try.func9, Try.ntmps9
      go_wp2
      go_ret
      exact ⟨congrArg (fun b => Ending.returned (Value.bool b)) HQ.out, HA.out _⟩
  · have HQ : Hid (false = res) := by show false = _; rw [HR.out]; exact (decide_eq_false (by omega)).symm
    clear HR
    go_enter Try.func9, Try.ntmps9
    go_wp2
    go_ret
    exact ⟨congrArg (fun b => Ending.returned (Value.bool b)) HQ.out, HA.out _⟩

end Go.Proofs.Ytbgpojhdkmhcbaa.TC
