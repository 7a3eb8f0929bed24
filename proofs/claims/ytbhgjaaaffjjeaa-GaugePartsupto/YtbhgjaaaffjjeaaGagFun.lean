/- What the gauge answers: what it might have cost, and what counts for that. -/
import Derived.Test.YtbhgjaaaffjjeaaOpen
import Derived.Test.YtbhgjaaaffjjeaaTbl
import Derived.BigQuiet
namespace Go.Proofs.Ytbhgjaaaffjjeaa.GG
open Go.ChangeShapes Go.WideShapes Go.ChangeAt Go.RowKit Go.Proofs.Ytbhgjaaaffjjeaa.AR Go.Proofs.Ytbhgjaaaffjjeaa.TB
set_option linter.unusedVariables false

/-- the cycles of the first k intervals' Runs -/
def cyS (r : List (List Int)) : Nat → Int
  | 0 => 0
  | k + 1 => cyS r k + (if fd r k 0 = 1 then fd r k 5 else 0)

/-- the Switches among the first k intervals -/
def swS (r : List (List Int)) : Nat → Int
  | 0 => 0
  | k + 1 => swS r k + (if fd r k 0 = 3 then 1 else 0)

theorem wrap_add (a b : Int) : wrap64 (wrap64 a + b) = wrap64 (a + b) := by unfold wrap64; omega
theorem wrap_add2 (a b : Int) : wrap64 (wrap64 a + wrap64 b) = wrap64 (a + b) := by unfold wrap64; omega

/-- so many cycles, and idle else, cost that -/
def bdI (c e P E I : Int) : Int := c * E + (if c * P < e then (e - c * P) * I else 0)

/-- the numbers that the chapter speaks of -/
structure Nb (c e P E I : Int) : Prop where
  c : 0 ≤ c ∧ c ≤ 1073741824
  e : 0 ≤ e ∧ e ≤ 1073741824
  P : 1 ≤ P ∧ P ≤ 256
  E : 0 ≤ E ∧ E ≤ 65536
  I : 0 ≤ I ∧ I ≤ 65536

theorem Nb.cP {c e P E I : Int} (h : Nb c e P E I) : 0 ≤ c * P ∧ c * P ≤ 274877906944 := by
  have := mul_bound h.c.1 h.c.2 (show 0 ≤ P by have := h.P; omega) h.P.2
  omega
theorem Nb.cE {c e P E I : Int} (h : Nb c e P E I) : 0 ≤ c * E ∧ c * E ≤ 70368744177664 := by
  have := mul_bound h.c.1 h.c.2 h.E.1 h.E.2
  omega
theorem Nb.eI {c e P E I : Int} (h : Nb c e P E I) (hl : c * P < e) : 0 ≤ (e - c * P) * I ∧ (e - c * P) * I ≤ 70368744177664 := by
  have := h.cP
  have := h.e
  have := mul_bound (a := e - c * P) (A := 1073741824) (by omega) (by omega) h.I.1 h.I.2
  omega

theorem results_first (tmps : Array Value) (w : World) (b : Nat) (x y : Int) (hp : tmps[2]?.getD undef = .pointer (some ⟨b, 0, none⟩)) (z0 : w.cell? ⟨b, 0, none⟩ = some (.int .i64 x)) (z1 : w.cell? ⟨b, 1, none⟩ = some (.int .i64 y)) :
    (results Try.f18 tmps).run Try.prog w = .ok (.agg #[.int .i64 x, .int .i64 y]) w := by
  simp [results, Try.results18, go_sem, hp, z0, z1]

set_option maxHeartbeats 4000000 in
theorem first_any (aL : Option Addr) (lL cL : Nat) (rL : List (List Int)) (aS : Option Addr) (lS cS : Nat) (aD : Option Addr) (lD cD : Nat) (idle crit sw swe sems hor : Int) (w : World)
    (h : RecAt w 2 aL lL rL) (hl : 1 ≤ lL) (hb : lL ≤ 9223372036854775807) :
    Calls Try.prog 18 #[pv aL lL cL aS lS cS aD lD cD idle crit sw swe sems hor] w
      fun e w' => e = .returned (.agg #[.int .i64 (fd rL 0 0), .int .i64 (fd rL 0 1)]) ∧ Kp w w' := by
  obtain ⟨b, off, rfl, hlt, hc⟩ := fd_at h (show 0 < lL by omega) (Kp.refl w)
  have e0 := hc 0 (by omega)
  have e1 := hc 1 (by omega)
  simp only [Nat.add_zero, Nat.zero_mul] at e0 e1
  clear hc
  have c1 : ((lL : Int) == 0) = false := by simp; omega
  have c2 : (0 : Int) < (lL : Int) := by omega
  have hk : Hid (∀ o o1, Kp w ((w.alloc o).alloc o1)) := fun o o1 => ((Kp.refl _).alloc _).alloc _
  unfold pv
  generalize fd rL 0 0 = x at *
  generalize fd rL 0 1 = y at *
  go_enter Try.func18, Try.ntmps18
  go_wp2_with fail
  exact bodyPost_ret (results_first _ _ (w.heap.size + 1) x y rfl (by simp) (by simp)) rfl ⟨rfl, by first | exact hk.out _ _ | exact (((hk.out _ _).setCell (by simp) _).setCell (by simp) _)⟩

theorem wid {x : Int} (h : -9223372036854775808 ≤ x ∧ x ≤ 9223372036854775807) : wrap64 x = x := by unfold wrap64; omega
theorem wik {x : Int} (h : -9223372036854775808 ≤ x ∧ x ≤ 9223372036854775807) : IntKind.i64.wrap x = x := by rw [IntKind.wrap_i64]; omega

set_option maxHeartbeats 4000000 in
theorem bound_any (aL : Option Addr) (lL cL : Nat) (rL : List (List Int)) (aS : Option Addr) (lS cS : Nat) (aD : Option Addr) (lD cD : Nat) (idle crit sw swe sems hor : Int) (c e : Int) (w : World)
    (h : RecAt w 2 aL lL rL) (hl : 1 ≤ lL) (hb : lL ≤ 9223372036854775807) (hn : Nb c e (fd rL 0 0) (fd rL 0 1) idle) :
    Calls Try.prog 10 #[pv aL lL cL aS lS cS aD lD cD idle crit sw swe sems hor, .int .i64 c, .int .i64 e] w
      fun r w' => r = .returned (.int .i64 (bdI c e (fd rL 0 0) (fd rL 0 1) idle)) ∧ Kp w w' := by
  have HF : Hid (∀ W, Kp w W → Calls Try.prog 18 #[pv aL lL cL aS lS cS aD lD cD idle crit sw swe sems hor] W fun e w' => e = .returned (.agg #[.int .i64 (fd rL 0 0), .int .i64 (fd rL 0 1)]) ∧ Kp W w') := fun W k => first_any aL lL cL rL aS lS cS aD lD cD idle crit sw swe sems hor W (TB.RecAt.kept h k) hl hb
  have b1 := hn.cP
  have b2 := hn.cE
  have b3 := hn.e
  have b4 : c * (fd rL 0 0) < e → 0 ≤ (e - c * (fd rL 0 0)) * idle ∧ (e - c * (fd rL 0 0)) * idle ≤ 70368744177664 := fun q => hn.eI q
  have HR : Hid (bdI c e (fd rL 0 0) (fd rL 0 1) idle = c * (fd rL 0 1) + (if c * (fd rL 0 0) < e then (e - c * (fd rL 0 0)) * idle else 0)) := rfl
  generalize bdI c e (fd rL 0 0) (fd rL 0 1) idle = res at *
  have e1 := HR.out
  clear HR
  have W1 := wid (show -9223372036854775808 ≤ c * (fd rL 0 0) ∧ c * (fd rL 0 0) ≤ 9223372036854775807 by omega)
  have W2 := wid (show -9223372036854775808 ≤ c * (fd rL 0 1) ∧ c * (fd rL 0 1) ≤ 9223372036854775807 by omega)
  have W3 := wid (show -9223372036854775808 ≤ e - c * (fd rL 0 0) ∧ e - c * (fd rL 0 0) ≤ 9223372036854775807 by omega)
  unfold pv at *
  generalize fd rL 0 0 = P at *
  generalize fd rL 0 1 = E at *
  by_cases hc : c * P < e
  · rw [if_pos hc] at e1
    have b5 := b4 hc
    have W4 := wid (show -9223372036854775808 ≤ (e - c * P) * idle ∧ (e - c * P) * idle ≤ 9223372036854775807 by omega)
    have W5 := wid (show -9223372036854775808 ≤ c * E + (e - c * P) * idle ∧ c * E + (e - c * P) * idle ≤ 9223372036854775807 by omega)
    have c1 : ¬ wrap64 (e - wrap64 (c * P)) ≤ 0 := by rw [W1, W3]; omega
    have c2 : 0 ≤ wrap64 (e - wrap64 (c * P)) := by omega
    have HE : Hid (wrap64 (wrap64 (c * E) + wrap64 (wrap64 (e - wrap64 (c * P)) * idle)) = res) := by show _ = _; rw [W1, W2, W3, W4, W5, e1]
    clear b1 b2 b3 b4 b5 W1 W2 W3 W4 W5 e1 hn
    go_enter Try.func10, Try.ntmps10
    go_wp2_with fail
    refine (HF.out _ ((Kp.refl _).alloc _)).mono ?_
    rintro r w1 ⟨rfl, k1⟩
    obtain ⟨d0, d1, d2, d3, d4, d5, d6, d7, d8⟩ := box_cells k1
    have K1 : Kp w w1 := ((Kp.refl _).alloc _).trans k1
    have hlt : w.heap.size < w1.heap.size := by have := k1.size; simp at this; omega
    have hne : w.heap.size ≠ w1.heap.size := by omega
    clear k1
    go_wp2_with fail
    go_ret
    exact ⟨congrArg (fun b => Ending.returned (Value.int .i64 b)) HE.out, K1.alloc _⟩
  · rw [if_neg hc] at e1
    have c1 : wrap64 (e - wrap64 (c * P)) ≤ 0 := by rw [W1, W3]; omega
    have HE : Hid (wrap64 (wrap64 (c * E)) = res) := by show _ = _; rw [W2, W2, e1, Int.add_zero]
    clear b1 b2 b3 b4 W1 W2 W3 e1 hn
    go_enter Try.func10, Try.ntmps10
    go_wp2_with fail
    refine (HF.out _ ((Kp.refl _).alloc _)).mono ?_
    rintro r w1 ⟨rfl, k1⟩
    obtain ⟨d0, d1, d2, d3, d4, d5, d6, d7, d8⟩ := box_cells k1
    have K1 : Kp w w1 := ((Kp.refl _).alloc _).trans k1
    have hlt : w.heap.size < w1.heap.size := by have := k1.size; simp at this; omega
    have hne : w.heap.size ≠ w1.heap.size := by omega
    clear k1
    go_wp2_with fail
    go_ret
    exact ⟨congrArg (fun b => Ending.returned (Value.int .i64 b)) HE.out, K1.alloc _⟩

set_option maxHeartbeats 4000000 in
theorem rbound_any (aL : Option Addr) (lL cL : Nat) (rL : List (List Int)) (aS : Option Addr) (lS cS : Nat) (aD : Option Addr) (lD cD : Nat) (idle crit sw swe sems hor : Int) (c e : Int) (w : World)
    (h : RecAt w 2 aL lL rL) (hl : 1 ≤ lL) (hb : lL ≤ 9223372036854775807) (hn : Nb c e (fd rL 0 0) (fd rL 0 1) idle) :
    Calls Try.prog 11 #[pv aL lL cL aS lS cS aD lD cD idle crit sw swe sems hor, .int .i64 c, .int .i64 e] w
      fun r w' => r = .returned (.int .i64 (bdI c e (fd rL 0 0) (fd rL 0 1) idle)) ∧ Kp w w' := by
  have HB : Hid (∀ o, Kp w (w.alloc o)) := fun o => (Kp.refl w).alloc o
  have b1 := hn.cP
  have b2 := hn.cE
  have b3 := hn.e
  have b4 : c * (fd rL 0 0) < e → 0 ≤ (e - c * (fd rL 0 0)) * idle ∧ (e - c * (fd rL 0 0)) * idle ≤ 70368744177664 := fun q => hn.eI q
  have HR : Hid (bdI c e (fd rL 0 0) (fd rL 0 1) idle = c * (fd rL 0 1) + (if c * (fd rL 0 0) < e then (e - c * (fd rL 0 0)) * idle else 0)) := rfl
  generalize bdI c e (fd rL 0 0) (fd rL 0 1) idle = res at *
  have e1 := HR.out
  clear HR
  have W1 := wid (show -9223372036854775808 ≤ c * (fd rL 0 0) ∧ c * (fd rL 0 0) ≤ 9223372036854775807 by omega)
  have W2 := wid (show -9223372036854775808 ≤ c * (fd rL 0 1) ∧ c * (fd rL 0 1) ≤ 9223372036854775807 by omega)
  have W3 := wid (show -9223372036854775808 ≤ e - c * (fd rL 0 0) ∧ e - c * (fd rL 0 0) ≤ 9223372036854775807 by omega)
  obtain ⟨b, off, rfl, hlt, hc⟩ := fd_at h (show 0 < lL by omega) (Kp.refl w)
  have e0 := hc 0 (by omega)
  have e2 := hc 1 (by omega)
  simp only [Nat.add_zero, Nat.zero_mul] at e0 e2
  clear hc
  have hlp : (0 : Int) < (lL : Int) := by omega
  unfold pv at *
  generalize fd rL 0 0 = P at *
  generalize fd rL 0 1 = E at *
  by_cases hc : c * P < e
  · rw [if_pos hc] at e1
    have b5 := b4 hc
    have W4 := wid (show -9223372036854775808 ≤ (e - c * P) * idle ∧ (e - c * P) * idle ≤ 9223372036854775807 by omega)
    have W5 := wid (show -9223372036854775808 ≤ c * E + (e - c * P) * idle ∧ c * E + (e - c * P) * idle ≤ 9223372036854775807 by omega)
    have c1 : wrap64 (c * P) < e := by rw [W1]; exact hc
    have HE : Hid (wrap64 (wrap64 (c * E) + wrap64 (wrap64 (e - wrap64 (c * P)) * idle)) = res) := by show _ = _; rw [W1, W2, W3, W4, W5, e1]
    clear b1 b2 b3 b4 b5 W1 W2 W3 W4 W5 e1 hn
    go_enter Try.func11, Try.ntmps11
    go_wp2_with fail
    go_quiet (fail)
    generalize hwq : World.drewN _ _ = w4
    have K4 : Kp w w4 := by rw [← hwq]; exact (HB.out _).trans (kp_drewN _ _)
    clear hwq
    go_wp2
    go_ret
    exact ⟨congrArg (fun b => Ending.returned (Value.int .i64 b)) HE.out, K4⟩
  · rw [if_neg hc] at e1
    have c1 : ¬ wrap64 (c * P) < e := by rw [W1]; exact hc
    have HE : Hid (wrap64 (c * E) = res) := by show _ = _; rw [W2, e1, Int.add_zero]
    clear b1 b2 b3 b4 W1 W2 W3 e1 hn
    go_enter Try.func11, Try.ntmps11
    go_wp2_with fail
    go_ret
    exact ⟨congrArg (fun b => Ending.returned (Value.int .i64 b)) HE.out, HB.out _⟩

end Go.Proofs.Ytbhgjaaaffjjeaa.GG
