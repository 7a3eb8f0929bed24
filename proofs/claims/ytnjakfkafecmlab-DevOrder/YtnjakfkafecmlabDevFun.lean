/- A device: its state at a moment, as the program and the document tell it; the small functions. -/
import Derived.Test.YtnjakfkafecmlabRows
import Derived.Test.YtnjakfkafecmlabArgs
import Derived.Test.YtnjakfkafecmlabAw
import Derived.WalkKit
import Derived.ProofKit
import Derived.Below
import Derived.OwnWalk
import Derived.BigRegion
import Derived.BigQuiet
import Derived.StillTailTactics
import Derived.Deep.RegionHeld3
namespace Go.Proofs.Ytnjakfkafecmlab.DV
open Go.ChangeShapes Go.WideShapes Go.ChangeAt Go.RowKit Go.Proofs.Ytnjakfkafecmlab.AR Go.Proofs.Ytnjakfkafecmlab.TB

/-! ### plain -/

/-- a device, and when it was away, as values -/
def dv (on off down up downE upE even : Int) : Value := .agg #[.int .i64 on, .int .i64 off, .int .i64 down, .int .i64 up, .int .i64 downE, .int .i64 upE, .int .i64 even]
def xv (f u : Int) : Value := .agg #[.int .i64 f, .int .i64 u]

/-- a moment, with room about it -/
def Mo (x : Int) : Prop := -4398046511104 ≤ x ∧ x ≤ 4398046511104

/-- never away? -/
def nvB (f u : Int) : Bool := f == 0 && u == 0
theorem nvB_t {f u : Int} : nvB f u = true ↔ f = 0 ∧ u = 0 := by simp [nvB]
theorem nvB_f {f u : Int} : nvB f u = false ↔ ¬ (f = 0 ∧ u = 0) := by rw [← nvB_t]; simp

/-- P7.1 -/
def stI (down up f u now : Int) : Int := if (f = 0 ∧ u = 0) ∨ now < f ∨ u ≤ now then 1 else if now < f + down then 3 else if now < u - up then 2 else 4

/-- a moment from 0 to never -/
def moB (n : Int) : Bool := decide (0 ≤ n ∧ n ≤ 1099511627776)
theorem moB_t {n : Int} : moB n = true ↔ 0 ≤ n ∧ n ≤ 1099511627776 := by simp [moB]
theorem moB_f {n : Int} : moB n = false ↔ ¬ (0 ≤ n ∧ n ≤ 1099511627776) := by simp [moB]

theorem kp_drewN (w : World) (n : Nat) : Kp w (w.drewN n) := ⟨rfl, rfl, rfl, Nat.le_refl _, fun _ _ => rfl⟩
theorem kp_drew (w : World) : Kp w w.drew := (Kp.refl w).drew

/-! ### '==' of two that are pairs -/

theorem int_eq (d : Nat) (x y : Int) (w : World) : (Op.equalIn (d + 1) 3 (.int .i64 x) (.int .i64 y)).run Try.prog w = .ok (x == y) w := by
  rw [run_equalIn_int w d 3 .i64 .i64 x y Try.underlying3]

theorem eq2d' (n : Nat) (a b c d : Int) (w : World) : (Op.equalIn (n + 1 + 1) 28 (.agg #[.int .i64 a, .int .i64 b]) (.agg #[.int .i64 c, .int .i64 d])).run Try.prog w = .ok (a == c && b == d) w := by
  have q : ∀ x y w, (Op.equalIn (n + 1) 3 (.int .i64 x) (.int .i64 y)).run Try.prog w = .ok (x == y) w := fun x y w => int_eq n x y w
  rw [Op.equalIn]
  generalize hE : Op.equalIn (n + 1) = E at *
  simp only [Sem.run_bind, run_underlying Try.underlying28, Result.andThen_ok]
  cases h1 : (a == c) <;> cases h2 : (b == d) <;> simp [go_sem, part, q, h1, h2]

theorem eq2d (a b c d : Int) (w : World) : (Op.equalIn 10000 28 (.agg #[.int .i64 a, .int .i64 b]) (.agg #[.int .i64 c, .int .i64 d])).run Try.prog w = .ok (a == c && b == d) w := eq2d' 9998 a b c d w

/-! ### walks -/

theorem never_any (f u : Int) (w : World) :
    Calls Try.prog 11 #[.agg #[.int .i64 f, .int .i64 u]] w fun e w' => e = .returned (.bool (nvB f u)) ∧ Kp w w' := by
  have HA : Hid (∀ o, Kp w (w.alloc o)) := fun o => (Kp.refl w).alloc o
  have E : ∀ w, (Op.equalIn 10000 28 (.agg #[.int .i64 f, .int .i64 u]) (.agg #[.int .i64 0, .int .i64 0])).run Try.prog w = .ok (nvB f u) w := fun w => eq2d f u 0 0 w
  generalize nvB f u = res at *
  go_enter Try.func11, Try.ntmps11
  go_wp2
  go_ret
  exact ⟨rfl, HA.out _⟩

end Go.Proofs.Ytnjakfkafecmlab.DV
