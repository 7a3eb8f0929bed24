/- A device: its state at a moment, as the program and the document tell it; the small functions. -/
import Derived.Test.YtnjakfkafecmlaaRows
import Derived.Test.YtnjakfkafecmlaaArgs
import Derived.Test.YtnjakfkafecmlaaAw
import Derived.WalkKit
import Derived.ProofKit
import Derived.Below
import Derived.OwnWalk
import Derived.BigRegion
import Derived.BigQuiet
import Derived.StillTailTactics
import Derived.Deep.RegionHeld3
namespace Go.Proofs.Ytnjakfkafecmlaa.DV
open Go.ChangeShapes Go.WideShapes Go.ChangeAt Go.RowKit Go.Proofs.Ytnjakfkafecmlaa.AR Go.Proofs.Ytnjakfkafecmlaa.TB

/-! ### plain -/

/-- a device, and when it was away, as values -/
def dv (on off down up downE upE even : Int) : Value := .agg #[.int .i64 on, .int .i64 off, .int .i64 down, .int .i64 up, .int .i64 downE, .int .i64 upE, .int .i64 even]
def xv (f u : Int) : Value := .agg #[.int .i64 f, .int .i64 u]

/-- a moment, with room about it -/
def Mo (x : Int) : Prop := -4398046511104 ≤ x ∧ x ≤ 4398046511104

/-- never away? -/
def nvB (f u : Int) : Bool := f == 0 && u == 0
theorem nvB_t {f u : Int} : nvB f u = true ↔ f = 0 ∧ u = 0 := by simp [nvB]
theorem nvB_f {f u : Int} : nvB f u = false ↔ ¬ (f = 0 ∧ u = 0) := by rw [← nvB_t]; simp

/-- P7.1 -/
def stI (down up f u now : Int) : Int := if (f = 0 ∧ u = 0) ∨ now < f ∨ u ≤ now then 1 else if now < f + down then 3 else if now < u - up then 2 else 4

/-- a moment from 0 to never -/
def moB (n : Int) : Bool := decide (0 ≤ n ∧ n ≤ 1099511627776)
theorem moB_t {n : Int} : moB n = true ↔ 0 ≤ n ∧ n ≤ 1099511627776 := by simp [moB]
theorem moB_f {n : Int} : moB n = false ↔ ¬ (0 ≤ n ∧ n ≤ 1099511627776) := by simp [moB]

theorem kp_drewN (w : World) (n : Nat) : Kp w (w.drewN n) := ⟨rfl, rfl, rfl, Nat.le_refl _, fun _ _ => rfl⟩
theorem kp_drew (w : World) : Kp w w.drew := (Kp.refl w).drew

/-! ### '==' of two that are pairs -/

theorem int_eq (d : Nat) (x y : Int) (w : World) : (Op.equalIn (d + 1) 3 (.int .i64 x) (.int .i64 y)).run Try.prog w = .ok (x == y) w := by
  rw [run_equalIn_int w d 3 .i64 .i64 x y Try.underlying3]

theorem eq2d' (n : Nat) (a b c d : Int) (w : World) : (Op.equalIn (n + 1 + 1) 30 (.agg #[.int .i64 a, .int .i64 b]) (.agg #[.int .i64 c, .int .i64 d])).run Try.prog w = .ok (a == c && b == d) w := by
  have q : ∀ x y w, (Op.equalIn (n + 1) 3 (.int .i64 x) (.int .i64 y)).run Try.prog w = .ok (x == y) w := fun x y w => int_eq n x y w
  rw [Op.equalIn]
  generalize hE : Op.equalIn (n + 1) = E at *
  simp only [Sem.run_bind, run_underlying Try.underlying30, Result.andThen_ok]
  cases h1 : (a == c) <;> cases h2 : (b == d) <;> simp [go_sem, part, q, h1, h2]

theorem eq2d (a b c d : Int) (w : World) : (Op.equalIn 10000 30 (.agg #[.int .i64 a, .int .i64 b]) (.agg #[.int .i64 c, .int .i64 d])).run Try.prog w = .ok (a == c && b == d) w := eq2d' 9998 a b c d w

theorem eq2r' (n : Nat) (a b c d : Int) (w : World) : (Op.equalIn (n + 1 + 1) 25 (.agg #[.int .i64 a, .int .i64 b]) (.agg #[.int .i64 c, .int .i64 d])).run Try.prog w = .ok (a == c && b == d) w := by
  have q : ∀ x y w, (Op.equalIn (n + 1) 3 (.int .i64 x) (.int .i64 y)).run Try.prog w = .ok (x == y) w := fun x y w => int_eq n x y w
  rw [Op.equalIn]
  generalize hE : Op.equalIn (n + 1) = E at *
  simp only [Sem.run_bind, run_underlying Try.underlying25, Result.andThen_ok]
  cases h1 : (a == c) <;> cases h2 : (b == d) <;> simp [go_sem, part, q, h1, h2]

theorem eq2r (a b c d : Int) (w : World) : (Op.equalIn 10000 25 (.agg #[.int .i64 a, .int .i64 b]) (.agg #[.int .i64 c, .int .i64 d])).run Try.prog w = .ok (a == c && b == d) w := eq2r' 9998 a b c d w

/-! ### walks -/

theorem never_any (f u : Int) (w : World) :
    Calls Try.prog 22 #[.agg #[.int .i64 f, .int .i64 u]] w fun e w' => e = .returned (.bool (nvB f u)) ∧ Kp w w' := by
  have HA : Hid (∀ o, Kp w (w.alloc o)) := fun o => (Kp.refl w).alloc o
  have E : ∀ w, (Op.equalIn 10000 30 (.agg #[.int .i64 f, .int .i64 u]) (.agg #[.int .i64 0, .int .i64 0])).run Try.prog w = .ok (nvB f u) w := fun w => eq2d f u 0 0 w
  generalize nvB f u = res at *
  go_enter Try.func22, Try.ntmps22
  go_wp2
  go_ret
  exact ⟨rfl, HA.out _⟩

theorem moment_any (n : Int) (w : World) :
    Calls Try.prog 10 #[.int .i64 n] w fun e w' => e = .returned (.bool (moB n)) ∧ w = w' := by
  have HR : Hid (moB n = decide (0 ≤ n ∧ n ≤ 1099511627776)) := rfl
  generalize moB n = res at *
  by_cases a1 : 0 ≤ n
  · have HQ : Hid (decide (n ≤ 1099511627776) = res) := by
      show _ = _
      rw [HR.out]
      exact decide_eq_decide.2 ⟨fun h => ⟨a1, h⟩, fun h => h.2⟩
    clear HR
    go_enter Try.func10, Try.ntmps10
    go_wp2
    go_ret
    exact ⟨congrArg (fun b => Ending.returned (Value.bool b)) HQ.out, rfl⟩
  · have HQ : Hid (false = res) := by show false = _; rw [HR.out]; exact (decide_eq_false (by omega)).symm
    clear HR
    go_enter Try.func10, Try.ntmps10
    go_wp2
    go_ret
    exact ⟨congrArg (fun b => Ending.returned (Value.bool b)) HQ.out, rfl⟩

theorem results_from (tmps : Array Value) (w : World) (b : Nat) (f u : Int) (hp : tmps[2]?.getD undef = .pointer (some ⟨b, 0, none⟩))
    (hb : w.heap[b]? = some (.cells #[.int .i64 f, .int .i64 u] 30 (0, 0))) :
    (results Try.f13 tmps).run Try.prog w = .ok (.agg #[.int .i64 f, .int .i64 u]) w := by
  have z0 : w.cell? ⟨b, 0, none⟩ = some (.int .i64 f) := by simp [World.cell?, hb]
  have z1 : w.cell? ⟨b, 1, none⟩ = some (.int .i64 u) := by simp [World.cell?, hb]
  simp [results, Try.results13, go_sem, hp, z0, z1]

theorem from_any (f u : Int) (w : World) :
    Calls Try.prog 13 #[.agg #[.int .i64 f, .int .i64 u]] w fun e w' => e = .returned (.agg #[.int .i64 f, .int .i64 u]) ∧ Kp w w' := by
  go_enter Try.func13, Try.ntmps13
  go_wp2
  exact bodyPost_ret (results_from _ _ (w.heap.size + 1) f u rfl (by have h := heap_alloc_at (w.alloc (.cells #[.int .i64 f, .int .i64 u] 25)); rw [World.size_alloc] at h; exact h _)) rfl ⟨rfl, ((Kp.refl _).alloc _).alloc _⟩

end Go.Proofs.Ytnjakfkafecmlaa.DV
