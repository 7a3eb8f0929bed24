/- What may be away, and what it costs: each small function of table and of the document's own check. -/
import Derived.Test.YtbhgjaaaffjjeaaRows
import Derived.WalkKit
import Derived.ProofKit
import Derived.Below
import Derived.OwnWalk
namespace Go.Proofs.Ytbhgjaaaffjjeaa.TB
open Go.ChangeShapes Go.WideShapes Go.ChangeAt Go.RowKit

/-! ### plain -/

/-- from lo to hi -/
def inB (x lo hi : Int) : Bool := decide (lo ≤ x ∧ x ≤ hi)
theorem inB_t {x lo hi : Int} : inB x lo hi = true ↔ lo ≤ x ∧ x ≤ hi := by simp [inB]
theorem inB_f {x lo hi : Int} : inB x lo hi = false ↔ ¬ (lo ≤ x ∧ x ≤ hi) := by simp [inB]

/-- may something be away so? -/
def Away (on off down up downE upE even : Int) : Prop :=
  (0 ≤ on ∧ on ≤ 65536) ∧ (0 ≤ off ∧ off ≤ on) ∧ (0 ≤ down ∧ down ≤ 256) ∧ (0 ≤ up ∧ up ≤ 256) ∧ (0 ≤ downE ∧ downE ≤ 65536) ∧ (0 ≤ upE ∧ upE ≤ 65536) ∧ (1 ≤ even ∧ down + up ≤ even ∧ even ≤ 16384) ∧
    downE + upE + off * (even - down - up) ≤ on * even
def decAway (a b c d e f g : Int) : Decidable (Away a b c d e f g) := by unfold Away; exact inferInstance
def awayB (on off down up downE upE even : Int) : Bool := @decide (Away on off down up downE upE even) (decAway on off down up downE upE even)
theorem awayB_t {a b c d e f g : Int} : awayB a b c d e f g = true ↔ Away a b c d e f g := by simp [awayB]
theorem awayB_f {a b c d e f g : Int} : awayB a b c d e f g = false ↔ ¬ Away a b c d e f g := by simp [awayB]

/-- all that was there is as it was -/
def Kp (w w' : World) : Prop := Below w.heap.size w w'
theorem Kp.refl (w : World) : Kp w w := Below.refl _ _
theorem Kp.trans {a b c : World} (h : Kp a b) (k : Kp b c) : Kp a c := Below.trans h (Below.mono k h.size)
theorem Kp.alloc {a b : World} (h : Kp a b) (o : Obj) : Kp a (b.alloc o) := Below.alloc h h.size o
theorem Kp.drew {a b : World} (h : Kp a b) : Kp a b.drew := Below.drew h
theorem Kp.setCell {a b : World} (h : Kp a b) {p : Addr} (hp : a.heap.size ≤ p.block) (u : Value) : Kp a (b.setCell p u) := Below.setCell h hp u
theorem Kp.size {a b : World} (h : Kp a b) : a.heap.size ≤ b.heap.size := Below.size h
theorem Kp.cell {a b : World} (h : Kp a b) {p : Addr} (hp : p.block < a.heap.size) : b.cell? p = a.cell? p := Below.cell h hp

/-! ### walks -/

theorem mul_bound {a b A B : Int} (h0 : 0 ≤ a) (h1 : a ≤ A) (h2 : 0 ≤ b) (h3 : b ≤ B) : 0 ≤ a * b ∧ a * b ≤ A * B :=
  ⟨Int.mul_nonneg h0 h2, Int.mul_le_mul h1 h3 h2 (by omega)⟩

theorem away_last {on off down up downE upE even : Int} (h1 : 0 ≤ on ∧ on ≤ 65536) (h2 : 0 ≤ off ∧ off ≤ on) (h3 : 0 ≤ down ∧ down ≤ 256) (h4 : 0 ≤ up ∧ up ≤ 256) (h5 : 0 ≤ downE ∧ downE ≤ 65536) (h6 : 0 ≤ upE ∧ upE ≤ 65536)
    (hE : 1 ≤ even ∧ down + up ≤ even ∧ even ≤ 16384) :
    decide (wrap64 (wrap64 (downE + upE) + wrap64 (off * wrap64 (wrap64 (even - down) - up))) ≤ wrap64 (on * even)) = awayB on off down up downE upE even := by
  have m1 := mul_bound (a := off) (b := even - down - up) (A := 65536) (B := 16384) h2.1 (by omega) (by omega) (by omega)
  have m2 := mul_bound (a := on) (b := even) (A := 65536) (B := 16384) h1.1 h1.2 (by omega) (by omega)
  rw [IntWalk.wrap64_in (downE + upE) (by omega), IntWalk.wrap64_in (even - down) (by omega), IntWalk.wrap64_in (even - down - up) (by omega), IntWalk.wrap64_in (off * (even - down - up)) (by omega), IntWalk.wrap64_in (on * even) (by omega), IntWalk.wrap64_in _ (by omega)]
  unfold awayB
  apply decide_eq_decide.2
  exact ⟨fun h => ⟨h1, h2, h3, h4, h5, h6, hE, h⟩, fun h => h.2.2.2.2.2.2.2⟩

theorem away_last2 {on off down up downE upE even : Int} (h1 : 0 ≤ on ∧ on ≤ 65536) (h2 : 0 ≤ off ∧ off ≤ on) (h3 : 0 ≤ down ∧ down ≤ 256) (h4 : 0 ≤ up ∧ up ≤ 256) (h5 : 0 ≤ downE ∧ downE ≤ 65536) (h6 : 0 ≤ upE ∧ upE ≤ 65536)
    (hE : 1 ≤ even ∧ down + up ≤ even ∧ even ≤ 16384) :
    decide (wrap64 (downE + upE + wrap64 (off * (even - down - up))) ≤ wrap64 (on * even)) = awayB on off down up downE upE even := by
  rw [← away_last h1 h2 h3 h4 h5 h6 hE, IntWalk.wrap64_in (downE + upE) (by omega), IntWalk.wrap64_in (even - down) (by omega), IntWalk.wrap64_in (even - down - up) (by omega)]

set_option maxHeartbeats 4000000 in
theorem refaway_any (on off down up downE upE even : Int) (w : World) :
    Calls Try.prog 19 #[.int .i64 down, .int .i64 up, .int .i64 downE, .int .i64 upE, .int .i64 off, .int .i64 on, .int .i64 even] w
      fun e w' => e = .returned (.bool (awayB on off down up downE upE even)) ∧ w = w' := by
  go_enter Try.func19, Try.ntmps19
  try dsimp only [List.append]
  go_wp2
  all_goals
    go_ret
    refine ⟨congrArg (fun b => Ending.returned (Value.bool b)) ?_, rfl⟩
    first
      | (have hs : wrap64 (down + up) = down + up := IntWalk.wrap64_in _ (by omega)
         first
           | (refine away_last2 ?_ ?_ ?_ ?_ ?_ ?_ ?_ <;> omega)
           | (symm; rw [awayB_f]; rintro ⟨_, _, _, _, _, _, _, _⟩; omega))
      | (symm; rw [awayB_f]; rintro ⟨_, _, _, _, _, _, _, _⟩; omega)

theorem refdevice_any (on off down up downE upE even : Int) (w : World) :
    Calls Try.prog 17 #[.agg #[.int .i64 on, .int .i64 off, .int .i64 down, .int .i64 up, .int .i64 downE, .int .i64 upE, .int .i64 even]] w
      fun e w' => e = .returned (.bool (awayB on off down up downE upE even)) ∧ Kp w w' := by
  go_enter Try.func17, Try.ntmps17
  go_wp2_with (first
    | (go_at_call 19; refine (refaway_any _ _ _ _ _ _ _ _).mono ?_; rintro e w1 ⟨rfl, rfl⟩)
    | fail)
  go_ret
  exact ⟨rfl, (Kp.refl _).alloc _⟩

theorem refsleep_any (idle power enter exit enterE exitE even : Int) (w : World) :
    Calls Try.prog 16 #[.agg #[.int .i64 power, .int .i64 enter, .int .i64 exit, .int .i64 enterE, .int .i64 exitE, .int .i64 even], .int .i64 idle] w
      fun e w' => e = .returned (.bool (awayB idle power enter exit enterE exitE even)) ∧ Kp w w' := by
  go_enter Try.func16, Try.ntmps16
  go_wp2_with (first
    | (go_at_call 19; refine (refaway_any _ _ _ _ _ _ _ _).mono ?_; rintro e w1 ⟨rfl, rfl⟩)
    | fail)
  go_ret
  exact ⟨rfl, (Kp.refl _).alloc _⟩

theorem heap_alloc_at (w : World) (o : Obj) : (w.alloc o).heap[w.heap.size]? = some o := by unfold World.alloc; exact Array.getElem?_push_size

end Go.Proofs.Ytbhgjaaaffjjeaa.TB
