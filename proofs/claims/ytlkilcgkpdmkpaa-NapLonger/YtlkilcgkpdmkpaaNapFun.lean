/- What a stay in a sleep state costs: nap's Cost and the document's. -/
import Derived.Test.YtlkilcgkpdmkpaaAw
import Derived.Deep.RegionHeld3
import Derived.BigQuiet
import Derived.Lib.MinMax
namespace Go.Proofs.Ytlkilcgkpdmkpaa.NP
open Go.ChangeShapes Go.WideShapes Go.ChangeAt Go.RowKit Go.Proofs.Ytlkilcgkpdmkpaa.TB

/-- the quanta between the ways in and out -/
def slpt (enter exit stay : Int) : Int := max 0 (wrap64 (wrap64 (stay - enter) - exit))

/-- what a stay costs, as an int reckons it -/
def cw (power enter exit enterE exitE stay : Int) : Int := wrap64 (wrap64 (enterE + exitE) + wrap64 (power * slpt enter exit stay))

theorem wrap_i64 (x : Int) : IntKind.i64.wrap x = wrap64 x := IntWalk.i64_left x

theorem kp_drew (w : World) : Kp w w.drew := (Kp.refl w).drew

/-- a sleep state's box beside what was there -/
structure SB (w W : World) (power enter exit enterE exitE even : Int) : Prop where
  kp : Kp w W
  sz : w.heap.size < W.heap.size
  s0 : W.cell? ⟨w.heap.size, 0, none⟩ = some (.int .i64 power)
  s1 : W.cell? ⟨w.heap.size, 1, none⟩ = some (.int .i64 enter)
  s2 : W.cell? ⟨w.heap.size, 2, none⟩ = some (.int .i64 exit)
  s3 : W.cell? ⟨w.heap.size, 3, none⟩ = some (.int .i64 enterE)
  s4 : W.cell? ⟨w.heap.size, 4, none⟩ = some (.int .i64 exitE)
  s5 : W.cell? ⟨w.heap.size, 5, none⟩ = some (.int .i64 even)

theorem SB.still {w W W' : World} {power enter exit enterE exitE even : Int} (h : SB w W power enter exit enterE exitE even) (k : Kp W W') : SB w W' power enter exit enterE exitE even := by
  have q : ∀ i, W'.cell? ⟨w.heap.size, i, none⟩ = W.cell? ⟨w.heap.size, i, none⟩ := fun i => k.cell h.sz
  exact ⟨h.kp.trans k, Nat.lt_of_lt_of_le h.sz k.size, (q _).trans h.s0, (q _).trans h.s1, (q _).trans h.s2, (q _).trans h.s3, (q _).trans h.s4, (q _).trans h.s5⟩

theorem sb_new {w W : World} {power enter exit enterE exitE even : Int} (e : W = w.alloc (.cells #[.int .i64 power, .int .i64 enter, .int .i64 exit, .int .i64 enterE, .int .i64 exitE, .int .i64 even] 23)) : SB w W power enter exit enterE exitE even := by
  subst e
  refine ⟨(Kp.refl w).alloc _, by simp, ?_, ?_, ?_, ?_, ?_, ?_⟩ <;> simp

theorem asleep_any (power enter exit enterE exitE even stay : Int) (w : World) :
    Calls Try.prog 15 #[.agg #[.int .i64 power, .int .i64 enter, .int .i64 exit, .int .i64 enterE, .int .i64 exitE, .int .i64 even], .int .i64 stay] w
      fun e w' => e = .returned (.int .i64 (slpt enter exit stay)) ∧ Kp w w' := by
  go_enter Try.func15, Try.ntmps15
  go_wp2
  go_ret
  exact ⟨rfl, (Kp.refl _).alloc _⟩

theorem rmax_any (a b : Int) (w : World) :
    Calls Try.prog 16 #[.int .i64 a, .int .i64 b] w fun e w' => e = .returned (.int .i64 (max a b)) ∧ w = w' := by
  by_cases h : b < a
  · have e : max a b = a := by omega
    rw [e]; clear e
    go_enter Try.func16, Try.ntmps16
    go_wp2
    go_ret
    exact ⟨rfl, rfl⟩
  · have e : max a b = b := by omega
    rw [e]; clear e
    go_enter Try.func16, Try.ntmps16
    go_wp2
    go_ret
    exact ⟨rfl, rfl⟩

set_option maxHeartbeats 4000000 in
theorem cost_any (power enter exit enterE exitE even stay : Int) (w : World) :
    Calls Try.prog 9 #[.agg #[.int .i64 power, .int .i64 enter, .int .i64 exit, .int .i64 enterE, .int .i64 exitE, .int .i64 even], .int .i64 stay] w
      fun e w' => e = .returned (.int .i64 (cw power enter exit enterE exitE stay)) ∧ Kp w w' := by
  obtain ⟨W0, HW⟩ : ∃ W0, Hid (W0 = w.alloc (.cells #[.int .i64 power, .int .i64 enter, .int .i64 exit, .int .i64 enterE, .int .i64 exitE, .int .i64 even] 23)) := ⟨_, rfl⟩
  have Y := sb_new HW.out
  obtain ⟨sl, hsl⟩ : ∃ sl, slpt enter exit stay = sl := ⟨_, rfl⟩
  have HA : Hid (∀ w, Calls Try.prog 15 #[.agg #[.int .i64 power, .int .i64 enter, .int .i64 exit, .int .i64 enterE, .int .i64 exitE, .int .i64 even], .int .i64 stay] w fun e w' => e = .returned (.int .i64 sl) ∧ Kp w w') := fun w => hsl ▸ asleep_any power enter exit enterE exitE even stay w
  unfold cw
  rw [hsl]
  clear hsl
  go_enter Try.func9, Try.ntmps9
  go_wp2_with fail
  rw [← HW.out]
  have d0 := Y.s0
  have d1 := Y.s1
  have d2 := Y.s2
  have d3 := Y.s3
  have d4 := Y.s4
  have d5 := Y.s5
  go_region_held3 (fun w' => w'.cell? ⟨w.heap.size, 0, none⟩ = some (.int .i64 power) ∧ w'.cell? ⟨w.heap.size, 1, none⟩ = some (.int .i64 enter) ∧ w'.cell? ⟨w.heap.size, 2, none⟩ = some (.int .i64 exit) ∧ w'.cell? ⟨w.heap.size, 3, none⟩ = some (.int .i64 enterE) ∧ w'.cell? ⟨w.heap.size, 4, none⟩ = some (.int .i64 exitE) ∧ w'.cell? ⟨w.heap.size, 5, none⟩ = some (.int .i64 even)) (go_keep) (first
    | (go_at_call 15; refine (HA.out _).mono ?_; rintro e w3 ⟨rfl, k3⟩; have K3 : Kp W0 w3 := (by first | exact (kp_drew _).trans k3 | exact k3); clear k3; have Y3 := Y.still K3; have z0 := Y3.s0; have z1 := Y3.s1; have z2 := Y3.s2; have z3 := Y3.s3; have z4 := Y3.s4; have z5 := Y3.s5)
    | fail)
  all_goals
    clear z0 z1 z2 z3 z4 z5
    go_wp2
    go_ret
    simp only [wrap_i64]
    exact ⟨rfl, Y3.kp⟩

set_option maxHeartbeats 4000000 in
theorem rcost_any (power enter exit enterE exitE even stay : Int) (w : World) :
    Calls Try.prog 10 #[.agg #[.int .i64 power, .int .i64 enter, .int .i64 exit, .int .i64 enterE, .int .i64 exitE, .int .i64 even], .int .i64 stay] w
      fun e w' => e = .returned (.int .i64 (cw power enter exit enterE exitE stay)) ∧ Kp w w' := by
  obtain ⟨W0, HW⟩ : ∃ W0, Hid (W0 = w.alloc (.cells #[.int .i64 power, .int .i64 enter, .int .i64 exit, .int .i64 enterE, .int .i64 exitE, .int .i64 even] 23)) := ⟨_, rfl⟩
  have Y := sb_new HW.out
  obtain ⟨sl, hsl⟩ : ∃ sl, slpt enter exit stay = sl := ⟨_, rfl⟩
  have HA : Hid (∀ w, Calls Try.prog 16 #[.int .i64 0, .int .i64 (IntKind.i64.wrap (IntKind.i64.wrap (stay - enter) - exit))] w fun e w' => e = .returned (.int .i64 sl) ∧ w = w') := fun w => by have q := rmax_any 0 (IntKind.i64.wrap (IntKind.i64.wrap (stay - enter) - exit)) w; simp only [wrap_i64] at q ⊢; rw [← hsl]; exact q
  unfold cw
  rw [hsl]
  clear hsl
  go_enter Try.func10, Try.ntmps10
  go_wp2_with fail
  rw [← HW.out]
  have d0 := Y.s0
  have d1 := Y.s1
  have d2 := Y.s2
  have d3 := Y.s3
  have d4 := Y.s4
  go_region_held3 (fun w' => w'.cell? ⟨w.heap.size, 0, none⟩ = some (.int .i64 power) ∧ w'.cell? ⟨w.heap.size, 1, none⟩ = some (.int .i64 enter) ∧ w'.cell? ⟨w.heap.size, 2, none⟩ = some (.int .i64 exit) ∧ w'.cell? ⟨w.heap.size, 3, none⟩ = some (.int .i64 enterE) ∧ w'.cell? ⟨w.heap.size, 4, none⟩ = some (.int .i64 exitE)) (go_keep) (first
    | (go_at_call 16; refine (HA.out _).mono ?_; rintro e w3 ⟨rfl, k3⟩; have K3 : Kp W0 w3 := (by subst k3; first | exact kp_drew _ | exact Kp.refl _); clear k3; have Y3 := Y.still K3; have z0 := Y3.s0; have z1 := Y3.s1; have z2 := Y3.s2; have z3 := Y3.s3; have z4 := Y3.s4)
    | fail)
  all_goals
    clear z0 z1 z2 z3 z4
    go_wp2
    go_ret
    simp only [wrap_i64]
    exact ⟨rfl, Y3.kp⟩

end Go.Proofs.Ytlkilcgkpdmkpaa.NP
