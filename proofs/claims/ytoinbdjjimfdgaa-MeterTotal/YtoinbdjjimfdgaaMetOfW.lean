/- What any interval costs, on any machine; and that the whole is all four. -/
import Derived.Test.YtoinbdjjimfdgaaMetAns
namespace Go.Proofs.Ytoinbdjjimfdgaa.MT
open Go.ChangeShapes Go.WideShapes Go.ChangeAt Go.RowKit Go.Proofs.Ytoinbdjjimfdgaa.AR Go.Proofs.Ytoinbdjjimfdgaa.TB

theorem u32_of_wf {x : Int} (h : (Lit.int .u32 x).wf = true) : 0 ≤ x ∧ x ≤ 4294967295 := by
  simp only [Lit.wf, Bool.and_eq_true, decide_eq_true_eq] at h
  exact h

theorem tot_small {a b c d : Int} (ha : 0 ≤ a ∧ a ≤ 4294967295) (hb : 0 ≤ b ∧ b ≤ 4294967295) (hc : 0 ≤ c ∧ c ≤ 4294967295) (hd : 0 ≤ d ∧ d ≤ 4294967295) : tot a b c d = a + b + c + d := by
  unfold tot
  rw [IntWalk.wrap64_in (a + b) (by omega), IntWalk.wrap64_in (a + b + c) (by omega), IntWalk.wrap64_in (a + b + c + d) (by omega)]

set_option maxHeartbeats 4000000 in
theorem meterTotal_walk (a b c d : Int) (w : World) (ha : (Lit.int .u32 a).wf = true) (hb : (Lit.int .u32 b).wf = true) (hc : (Lit.int .u32 c).wf = true) (hd : (Lit.int .u32 d).wf = true) :
    Calls Try.prog 6 #[.int .u32 a, .int .u32 b, .int .u32 c, .int .u32 d] w fun e w' => e = .returned (.bool true) ∧ Below w.heap.size w w' := by
  have a1 : 0 ≤ a ∧ a ≤ 4294967295 := u32_of_wf ha
  have b1 : 0 ≤ b ∧ b ≤ 4294967295 := u32_of_wf hb
  have c1 : 0 ≤ c ∧ c ≤ 4294967295 := u32_of_wf hc
  have d1 : 0 ≤ d ∧ d ≤ 4294967295 := u32_of_wf hd
  clear ha hb hc hd
  have HA : Hid (∀ o, Kp w (w.alloc o)) := fun o => (Kp.refl w).alloc o
  have HE : Hid (∀ w', Kp w w' → Below w.heap.size w w') := fun w' q => q
  have HT : Hid (∀ w', Calls Try.prog 15 #[mv a b c d] w' fun e w'' => e = .returned (.int .i64 (a + b + c + d)) ∧ Kp w' w'') := fun w' => by have := total_any a b c d w'; rw [tot_small a1 b1 c1 d1] at this; exact this
  unfold mv at HT
  obtain ⟨a2, a3⟩ := a1
  obtain ⟨b2, b3⟩ := b1
  obtain ⟨c2, c3⟩ := c1
  obtain ⟨d2, d3⟩ := d1
  go_enter Try.func6, Try.ntmps6
  go_wp2_with fail
  refine (manswers_any _).mono ?_
  rintro e w1 ⟨rfl, k1⟩
  have B := new4 k1
  obtain ⟨_, lm, m0, m1, m2, m3, g0, g1, g2, g3⟩ := B
  have K1 := (HA.out _).trans k1
  clear k1
  go_wp2_with fail
  refine (HT.out _).mono ?_
  rintro e w2 ⟨rfl, k2⟩
  go_wp2
  go_ret
  exact ⟨rfl, HE.out _ (K1.trans k2)⟩

set_option maxHeartbeats 8000000 in
theorem meterOf_walk (aL : Option Addr) (lL cL : Nat) (rL : List (List Int)) (aS : Option Addr) (lS cS : Nat) (rS : List (List Int)) (aD : Option Addr) (lD cD : Nat) (rD : List (List Int)) (idle crit sw swe sems hor : Int) (kind frm len arg task cyc : Int) (w : World)
    (h : Mach w aL lL rL aS lS rS aD lD rD) :
    Calls Try.prog 3 #[pv aL lL cL aS lS cS aD lD cD idle crit sw swe sems hor, iv kind frm len arg task cyc] w
      fun e w' => e = .returned (.bool true) ∧ Below w.heap.size w w' := by
  have HE : Hid (∀ w', Kp w w' → Below w.heap.size w w') := fun w' q => q
  have HT : Hid (∀ w', Kp w w' → Calls Try.prog 7 #[pv aL lL cL aS lS cS aD lD cD idle crit sw swe sems hor] w' fun e w'' => e = .returned (.bool (mayB lL rL lS rS lD rD idle crit sw swe sems hor)) ∧ Kp w' w'') := fun w' k => reftable_any aL lL cL rL aS lS cS rS aD lD cD rD idle crit sw swe sems hor w' (h.kept k)
  have HO : Hid (∀ w', Kp w w' → Calls Try.prog 10 #[pv aL lL cL aS lS cS aD lD cD idle crit sw swe sems hor, iv kind frm len arg task cyc] w' fun e w'' => e = .returned (.int .i64 (cost lL rL lS rS idle swe kind len arg cyc)) ∧ Kp w' w'') := fun w' k => of_any aL lL cL rL aS lS cS rS aD lD cD rD idle crit sw swe sems hor kind frm len arg task cyc w' (h.kept k)
  have HN : Hid (∀ w', Kp w w' → Calls Try.prog 11 #[pv aL lL cL aS lS cS aD lD cD idle crit sw swe sems hor, iv kind frm len arg task cyc] w' fun e w'' => e = .returned (.int .i64 (cost lL rL lS rS idle swe kind len arg cyc)) ∧ Kp w' w'') := fun w' k => energy_any aL lL cL rL aS lS cS rS aD lD cD rD idle crit sw swe sems hor kind frm len arg task cyc w' (h.kept k)
  have HM : Hid (∀ w', Calls Try.prog 8 #[iv kind frm len arg task cyc] w' fun e w'' => e = .returned (.bool (smallB len cyc)) ∧ Kp w' w'') := fun w' => small_any kind frm len arg task cyc w'
  generalize mayB lL rL lS rS lD rD idle crit sw swe sems hor = may at *
  generalize cost lL rL lS rS idle swe kind len arg cyc = co at *
  generalize smallB len cyc = sm at *
  obtain ⟨W0, HW⟩ : ∃ W0, Hid (W0 = (w.alloc (.cells #[.slice aL lL cL, .slice aS lS cS, .slice aD lD cD, .int .i64 idle, .int .i64 crit, .int .i64 sw, .int .i64 swe, .int .i64 sems, .int .i64 hor] 26)).alloc (.cells #[.int .i64 kind, .int .i64 frm, .int .i64 len, .int .i64 arg, .int .i64 task, .int .i64 cyc] 28)) := ⟨_, rfl⟩
  have Y := pi_new HW.out
  unfold pv iv at *
  cases may with
  | false =>
    go_enter Try.func3, Try.ntmps3
    go_wp2_with fail
    rw [← HW.out]
    refine (HT.out _ Y.kp).mono ?_
    rintro e w1 ⟨rfl, k1⟩
    have Y1 := Y.still k1
    go_wp2_with fail
    refine (manswers_any _).mono ?_
    rintro e w2 ⟨rfl, k2⟩
    go_wp2
    go_ret
    exact ⟨rfl, HE.out _ (Y1.kp.trans k2)⟩
  | true =>
    go_enter Try.func3, Try.ntmps3
    go_wp2_with fail
    rw [← HW.out]
    refine (HT.out _ Y.kp).mono ?_
    rintro e w1 ⟨rfl, k1⟩
    have Y1 := Y.still k1
    have i0 := Y1.i0
    have i1 := Y1.i1
    have i2 := Y1.i2
    have i3 := Y1.i3
    have i4 := Y1.i4
    have i5 := Y1.i5
    clear k1 Y HW W0
    go_wp2_with fail
    refine (HM.out _).mono ?_
    rintro e w2 ⟨rfl, k2⟩
    have Y2 := Y1.still k2
    clear k2 Y1 i0 i1 i2 i3 i4 i5 w1
    cases sm with
    | false =>
      go_wp2_with fail
      refine (manswers_any _).mono ?_
      rintro e w3 ⟨rfl, k3⟩
      go_wp2
      go_ret
      exact ⟨rfl, HE.out _ (Y2.kp.trans k3)⟩
    | true =>
      go_wp2_with fail
      have i0 := Y2.i0
      have i1 := Y2.i1
      have i2 := Y2.i2
      have i3 := Y2.i3
      have i4 := Y2.i4
      have i5 := Y2.i5
      have p0 := Y2.p0
      have p1 := Y2.p1
      have p2 := Y2.p2
      have p3 := Y2.p3
      have p4 := Y2.p4
      have p5 := Y2.p5
      have p6 := Y2.p6
      have p7 := Y2.p7
      have p8 := Y2.p8
      go_region_held3 (fun w' => w'.cell? ⟨w.heap.size, 0, none⟩ = some (.slice aL lL cL) ∧ w'.cell? ⟨w.heap.size, 1, none⟩ = some (.slice aS lS cS) ∧ w'.cell? ⟨w.heap.size, 2, none⟩ = some (.slice aD lD cD) ∧ w'.cell? ⟨w.heap.size, 3, none⟩ = some (.int .i64 idle) ∧ w'.cell? ⟨w.heap.size, 4, none⟩ = some (.int .i64 crit) ∧ w'.cell? ⟨w.heap.size, 5, none⟩ = some (.int .i64 sw) ∧ w'.cell? ⟨w.heap.size, 6, none⟩ = some (.int .i64 swe) ∧ w'.cell? ⟨w.heap.size, 7, none⟩ = some (.int .i64 sems) ∧ w'.cell? ⟨w.heap.size, 8, none⟩ = some (.int .i64 hor)
          ∧ w'.cell? ⟨w.heap.size + 1, 0, none⟩ = some (.int .i64 kind) ∧ w'.cell? ⟨w.heap.size + 1, 1, none⟩ = some (.int .i64 frm) ∧ w'.cell? ⟨w.heap.size + 1, 2, none⟩ = some (.int .i64 len) ∧ w'.cell? ⟨w.heap.size + 1, 3, none⟩ = some (.int .i64 arg) ∧ w'.cell? ⟨w.heap.size + 1, 4, none⟩ = some (.int .i64 task) ∧ w'.cell? ⟨w.heap.size + 1, 5, none⟩ = some (.int .i64 cyc)) (go_keep) (first
        | (go_at_call 9; refine (manswers_any _).mono ?_; rintro e w3 ⟨rfl, k3⟩; have Y3 := Y2.still ((kp_drew _).trans k3); clear k3; obtain ⟨K3, _, a0, a1, a2, a3, a4, a5, a6, a7, a8, b0, b1, b2, b3, b4, b5⟩ := id Y3)
        | (go_at_call 10; refine (HO.out _ Y3.kp).mono ?_; rintro e w4 ⟨rfl, k4⟩; have Y4 := Y3.still k4; clear k4; obtain ⟨K3, _, a0, a1, a2, a3, a4, a5, a6, a7, a8, b0, b1, b2, b3, b4, b5⟩ := id Y4)
        | (go_at_call 11; refine (HN.out _ Y4.kp).mono ?_; rintro e w5 ⟨rfl, k5⟩; have Y5 := Y4.still k5; clear k5; obtain ⟨K3, _, a0, a1, a2, a3, a4, a5, a6, a7, a8, b0, b1, b2, b3, b4, b5⟩ := id Y5)
        | fail)
      all_goals
        go_wp2
        go_ret
        exact ⟨rfl, HE.out _ Y5.kp⟩

end Go.Proofs.Ytoinbdjjimfdgaa.MT
