/- Which machines may be: plain, over the numbers of a machine and the rows of its levels, sleep states and devices. -/
import Derived.Test.YtbhgjaaaffjjeaaAw
import Derived.Test.YtbhgjaaaffjjeaaArgs
namespace Go.Proofs.Ytbhgjaaaffjjeaa.TB
open Go.ChangeShapes Go.WideShapes Go.ChangeAt Go.RowKit Go.Proofs.Ytbhgjaaaffjjeaa.AR

/-- the j-th number of row i -/
def fd (r : List (List Int)) (i j : Nat) : Int := (r.getD i []).getD j 0

/-- a machine, as a value -/
abbrev pv (aL : Option Addr) (lL cL : Nat) (aS : Option Addr) (lS cS : Nat) (aD : Option Addr) (lD cD : Nat) (idle crit sw swe sems hor : Int) : Value :=
  .agg #[.slice aL lL cL, .slice aS lS cS, .slice aD lD cD, .int .i64 idle, .int .i64 crit, .int .i64 sw, .int .i64 swe, .int .i64 sems, .int .i64 hor]

/-- its own numbers -/
def Num (lL : Nat) (idle crit sw swe sems hor : Int) : Prop :=
  (0 ≤ idle ∧ idle ≤ 65536) ∧ (0 ≤ crit ∧ crit ≤ (lL : Int) - 1) ∧ (0 ≤ sw ∧ sw ≤ 256) ∧ (0 ≤ swe ∧ swe ≤ 65536) ∧ (0 ≤ sems ∧ sems ≤ 3) ∧ (1 ≤ hor ∧ hor ≤ 16384)
def decNum (n : Nat) (a b c d e f : Int) : Decidable (Num n a b c d e f) := by unfold Num; exact inferInstance
def numB (lL : Nat) (idle crit sw swe sems hor : Int) : Bool := @decide (Num lL idle crit sw swe sems hor) (decNum lL idle crit sw swe sems hor)
theorem numB_t {n : Nat} {a b c d e f : Int} : numB n a b c d e f = true ↔ Num n a b c d e f := by simp [numB]
theorem numB_f {n : Nat} {a b c d e f : Int} : numB n a b c d e f = false ↔ ¬ Num n a b c d e f := by simp [numB]

/-- P of the level ahead -/
def ahd (r : List (List Int)) : Nat → Int
  | 0 => 0
  | k + 1 => fd r k 0

/-- one level -/
def Lev (r : List (List Int)) (i : Nat) : Prop := (ahd r i + 1 ≤ fd r i 0 ∧ fd r i 0 ≤ 256) ∧ (0 ≤ fd r i 1 ∧ fd r i 1 ≤ 65536)

/-- all levels -/
def Levs (n : Nat) (r : List (List Int)) : Prop := (1 ≤ n ∧ n ≤ 4) ∧ ∀ i, i < n → Lev r i
def decLevs (n : Nat) (r : List (List Int)) : Decidable (Levs n r) := by unfold Levs Lev; exact inferInstance
def levsB (n : Nat) (r : List (List Int)) : Bool := @decide (Levs n r) (decLevs n r)
theorem levsB_t {n : Nat} {r : List (List Int)} : levsB n r = true ↔ Levs n r := by simp [levsB]
theorem levsB_f {n : Nat} {r : List (List Int)} : levsB n r = false ↔ ¬ Levs n r := by simp [levsB]

theorem lev_pos {r : List (List Int)} {n : Nat} (h : ∀ i, i < n → Lev r i) : ∀ i, i < n → 1 ≤ fd r i 0 ∧ fd r i 0 ≤ 256
  | 0, hi => by have := (h 0 hi).1; simp only [ahd] at this; omega
  | i + 1, hi => by
    have h1 := (h (i + 1) hi).1
    have h2 := lev_pos h i (by omega)
    simp only [ahd] at h1; omega

theorem ahd_bound {r : List (List Int)} {n : Nat} (h : ∀ i, i < n → Lev r i) : 0 ≤ ahd r n ∧ ahd r n ≤ 256 := by
  cases n with
  | zero => simp [ahd]
  | succ k => have := lev_pos h k (by omega); simp only [ahd]; omega

/-- what a cycle costs beyond being idle -/
def net (r : List (List Int)) (idle : Int) (i : Nat) : Int := fd r i 1 - fd r i 0 * idle

/-- slowing down pays, up to crit -/
def Slow (n : Nat) (r : List (List Int)) (idle crit : Int) : Prop := ∀ i, i < n → 1 ≤ i → (i : Int) ≤ crit → net r idle i ≤ net r idle (i - 1)
def decSlow (n : Nat) (r : List (List Int)) (a b : Int) : Decidable (Slow n r a b) := by unfold Slow; exact inferInstance
def slowB (n : Nat) (r : List (List Int)) (idle crit : Int) : Bool := @decide (Slow n r idle crit) (decSlow n r idle crit)
theorem slowB_t {n : Nat} {r : List (List Int)} {a b : Int} : slowB n r a b = true ↔ Slow n r a b := by simp [slowB]
theorem slowB_f {n : Nat} {r : List (List Int)} {a b : Int} : slowB n r a b = false ↔ ¬ Slow n r a b := by simp [slowB]

theorem net_bound {r : List (List Int)} {n i : Nat} {idle : Int} (h : ∀ i, i < n → Lev r i) (hi : i < n) (h0 : 0 ≤ idle ∧ idle ≤ 65536) : wrap64 (fd r i 1 - wrap64 (fd r i 0 * idle)) = net r idle i := by
  have h1 := lev_pos h i hi
  have h2 := (h i hi).2
  have m := mul_bound (a := fd r i 0) (b := idle) (A := 256) (B := 65536) (by omega) h1.2 h0.1 h0.2
  rw [IntWalk.wrap64_in (fd r i 0 * idle) (by omega), IntWalk.wrap64_in _ (by omega)]
  rfl

/-- all sleep states -/
def Slps (n : Nat) (r : List (List Int)) (idle : Int) : Prop := n ≤ 3 ∧ ∀ i, i < n → awayB idle (fd r i 0) (fd r i 1) (fd r i 2) (fd r i 3) (fd r i 4) (fd r i 5) = true
def decSlps (n : Nat) (r : List (List Int)) (a : Int) : Decidable (Slps n r a) := by unfold Slps; exact inferInstance
def slpsB (n : Nat) (r : List (List Int)) (idle : Int) : Bool := @decide (Slps n r idle) (decSlps n r idle)
theorem slpsB_t {n : Nat} {r : List (List Int)} {a : Int} : slpsB n r a = true ↔ Slps n r a := by simp [slpsB]
theorem slpsB_f {n : Nat} {r : List (List Int)} {a : Int} : slpsB n r a = false ↔ ¬ Slps n r a := by simp [slpsB]

/-- all devices -/
def Devs (n : Nat) (r : List (List Int)) : Prop := n ≤ 3 ∧ ∀ i, i < n → awayB (fd r i 0) (fd r i 1) (fd r i 2) (fd r i 3) (fd r i 4) (fd r i 5) (fd r i 6) = true
def decDevs (n : Nat) (r : List (List Int)) : Decidable (Devs n r) := by unfold Devs; exact inferInstance
def devsB (n : Nat) (r : List (List Int)) : Bool := @decide (Devs n r) (decDevs n r)
theorem devsB_t {n : Nat} {r : List (List Int)} : devsB n r = true ↔ Devs n r := by simp [devsB]
theorem devsB_f {n : Nat} {r : List (List Int)} : devsB n r = false ↔ ¬ Devs n r := by simp [devsB]

/-- a machine that may be -/
def mayB (lL : Nat) (rL : List (List Int)) (lS : Nat) (rS : List (List Int)) (lD : Nat) (rD : List (List Int)) (idle crit sw swe sems hor : Int) : Bool :=
  numB lL idle crit sw swe sems hor && levsB lL rL && slowB lL rL idle crit && slpsB lS rS idle && devsB lD rD

theorem mayB_t {lL : Nat} {rL : List (List Int)} {lS : Nat} {rS : List (List Int)} {lD : Nat} {rD : List (List Int)} {idle crit sw swe sems hor : Int} :
    mayB lL rL lS rS lD rD idle crit sw swe sems hor = true ↔ Num lL idle crit sw swe sems hor ∧ Levs lL rL ∧ Slow lL rL idle crit ∧ Slps lS rS idle ∧ Devs lD rD := by
  simp only [mayB, Bool.and_eq_true, numB_t, levsB_t, slowB_t, slpsB_t, devsB_t, and_assoc]

/-- the rows lie there -/
theorem fd_at {w wr : World} {ao : Option Addr} {len n : Nat} {rows : List (List Int)} {k : Nat} (h : RecAt w n ao len rows) (hk : k < len) (hb : Kp w wr) :
    ∃ b off, ao = some ⟨b, off, none⟩ ∧ b < wr.heap.size ∧ ∀ j, j < n → wr.cell? ⟨b, off + k * n + j, none⟩ = some (.int .i64 (fd rows k j)) := by
  rcases h.2.2 with h0 | ⟨b, off, e, hlt, hc⟩
  · omega
  · exact ⟨b, off, e, Nat.lt_of_lt_of_le hlt hb.size, fun j hj => by rw [hb.cell (by exact hlt)]; exact hc k j hk hj⟩

theorem RecAt.kept {w wr : World} {ao : Option Addr} {len n : Nat} {rows : List (List Int)} (h : RecAt w n ao len rows) (hb : Kp w wr) : RecAt wr n ao len rows := by
  refine ⟨h.1, h.2.1, ?_⟩
  rcases h.2.2 with h0 | ⟨b, off, e, hlt, hc⟩
  · exact .inl h0
  · exact .inr ⟨b, off, e, Nat.lt_of_lt_of_le hlt hb.size, fun i j hi hj => by rw [hb.cell (by exact hlt)]; exact hc i j hi hj⟩

end Go.Proofs.Ytbhgjaaaffjjeaa.TB
