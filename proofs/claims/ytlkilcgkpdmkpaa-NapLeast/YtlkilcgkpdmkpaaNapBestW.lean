/- Which state is the best one for any stay, or that none is. -/
import Derived.Test.YtlkilcgkpdmkpaaNapAns
namespace Go.Proofs.Ytlkilcgkpdmkpaa.NP
open Go.ChangeShapes Go.WideShapes Go.ChangeAt Go.RowKit Go.Proofs.Ytlkilcgkpdmkpaa.AR Go.Proofs.Ytlkilcgkpdmkpaa.TB

/-- a machine's box, all of it, beside what was there -/
structure BA (w W : World) (c0 c1 c2 : Value) (idle crit sw swe sems hor : Int) : Prop where
  kp : Kp w W
  sz : w.heap.size < W.heap.size
  d0 : W.cell? ⟨w.heap.size, 0, none⟩ = some c0
  d1 : W.cell? ⟨w.heap.size, 1, none⟩ = some c1
  d2 : W.cell? ⟨w.heap.size, 2, none⟩ = some c2
  d3 : W.cell? ⟨w.heap.size, 3, none⟩ = some (.int .i64 idle)
  d4 : W.cell? ⟨w.heap.size, 4, none⟩ = some (.int .i64 crit)
  d5 : W.cell? ⟨w.heap.size, 5, none⟩ = some (.int .i64 sw)
  d6 : W.cell? ⟨w.heap.size, 6, none⟩ = some (.int .i64 swe)
  d7 : W.cell? ⟨w.heap.size, 7, none⟩ = some (.int .i64 sems)
  d8 : W.cell? ⟨w.heap.size, 8, none⟩ = some (.int .i64 hor)

theorem BA.still {w W W' : World} {c0 c1 c2 : Value} {idle crit sw swe sems hor : Int} (h : BA w W c0 c1 c2 idle crit sw swe sems hor) (k : Kp W W') : BA w W' c0 c1 c2 idle crit sw swe sems hor := by
  have q : ∀ i, W'.cell? ⟨w.heap.size, i, none⟩ = W.cell? ⟨w.heap.size, i, none⟩ := fun i => k.cell h.sz
  exact ⟨h.kp.trans k, Nat.lt_of_lt_of_le h.sz k.size, (q _).trans h.d0, (q _).trans h.d1, (q _).trans h.d2, (q _).trans h.d3, (q _).trans h.d4, (q _).trans h.d5, (q _).trans h.d6, (q _).trans h.d7, (q _).trans h.d8⟩

theorem ba_new {w W : World} {c0 c1 c2 : Value} {idle crit sw swe sems hor : Int}
    (e : W = w.alloc (.cells #[c0, c1, c2, .int .i64 idle, .int .i64 crit, .int .i64 sw, .int .i64 swe, .int .i64 sems, .int .i64 hor] 32)) : BA w W c0 c1 c2 idle crit sw swe sems hor := by
  subst e
  obtain ⟨h0, h1, h2, h3, h4, h5, h6, h7, h8⟩ := box_cells (Kp.refl (w.alloc (.cells #[c0, c1, c2, .int .i64 idle, .int .i64 crit, .int .i64 sw, .int .i64 swe, .int .i64 sems, .int .i64 hor] 32)))
  exact ⟨(Kp.refl w).alloc _, by simp, h0, h1, h2, h3, h4, h5, h6, h7, h8⟩

set_option maxHeartbeats 8000000 in
theorem napBest_walk (aL : Option Addr) (lL cL : Nat) (rL : List (List Int)) (aS : Option Addr) (lS cS : Nat) (rS : List (List Int)) (aD : Option Addr) (lD cD : Nat) (rD : List (List Int)) (idle crit sw swe sems hor : Int) (stay : Int) (w : World)
    (h : Mach w aL lL rL aS lS rS aD lD rD) (_ : (Lit.int .i64 stay).wf = true) :
    Calls Try.prog 4 #[pv aL lL cL aS lS cS aD lD cD idle crit sw swe sems hor, .int .i64 stay] w
      fun e w' => e = .returned (.bool true) ∧ Below w.heap.size w w' := by
  have HE : Hid (∀ w', Kp w w' → Below w.heap.size w w') := fun w' q => q
  have HT : Hid (∀ w', Kp w w' → Calls Try.prog 11 #[pv aL lL cL aS lS cS aD lD cD idle crit sw swe sems hor] w' fun e w'' => e = .returned (.bool (mayB lL rL lS rS lD rD idle crit sw swe sems hor)) ∧ Kp w' w'') := fun w' k => reftable_any aL lL cL rL aS lS cS rS aD lD cD rD idle crit sw swe sems hor w' (h.kept k)
  have HB : Hid (∀ w', Kp w w' → Calls Try.prog 12 #[pv aL lL cL aS lS cS aD lD cD idle crit sw swe sems hor, .int .i64 stay] w' fun e w'' => e = .returned (.tuple #[.int .i64 ((bst rS stay lS).1 : Nat), .bool (bst rS stay lS).2]) ∧ Kp w' w'') := fun w' k => best_any aL lL cL aS lS cS rS aD lD cD idle crit sw swe sems hor stay w' (h.kept k).slp h.nS
  have HR : Hid (∀ w', Kp w w' → Calls Try.prog 13 #[pv aL lL cL aS lS cS aD lD cD idle crit sw swe sems hor, .int .i64 stay] w' fun e w'' => e = .returned (.tuple #[.int .i64 ((bst rS stay lS).1 : Nat), .bool (bst rS stay lS).2]) ∧ Kp w' w'') := fun w' k => rbest_any aL lL cL aS lS cS rS aD lD cD idle crit sw swe sems hor stay w' (h.kept k).slp h.nS
  generalize mayB lL rL lS rS lD rD idle crit sw swe sems hor = may at *
  generalize bst rS stay lS = bf at *
  obtain ⟨bb, ff⟩ := bf
  simp only at HB HR
  obtain ⟨W0, HW⟩ : ∃ W0, Hid (W0 = w.alloc (.cells #[.slice aL lL cL, .slice aS lS cS, .slice aD lD cD, .int .i64 idle, .int .i64 crit, .int .i64 sw, .int .i64 swe, .int .i64 sems, .int .i64 hor] 32)) := ⟨_, rfl⟩
  have Y := ba_new HW.out
  have HK : Hid (Kp w W0) := Y.kp
  unfold pv at *
  cases may with
  | false =>
    go_enter Try.func4, Try.ntmps4
    go_wp2_with fail
    rw [← HW.out]
    refine (HT.out _ HK.out).mono ?_
    rintro e w1 ⟨rfl, k1⟩
    go_wp2_with fail
    refine (nanswers_any _).mono ?_
    rintro e w2 ⟨rfl, k2⟩
    go_wp2
    go_ret
    exact ⟨rfl, HE.out _ ((Y.kp.trans k1).trans k2)⟩
  | true =>
    by_cases t0 : stay < 0
    · go_enter Try.func4, Try.ntmps4
      go_wp2_with fail
      rw [← HW.out]
      refine (HT.out _ HK.out).mono ?_
      rintro e w1 ⟨rfl, k1⟩
      go_wp2_with fail
      refine (nanswers_any _).mono ?_
      rintro e w2 ⟨rfl, k2⟩
      go_wp2
      go_ret
      exact ⟨rfl, HE.out _ ((Y.kp.trans k1).trans k2)⟩
    · by_cases t1 : 1073741824 < stay
      · go_enter Try.func4, Try.ntmps4
        go_wp2_with fail
        rw [← HW.out]
        refine (HT.out _ HK.out).mono ?_
        rintro e w1 ⟨rfl, k1⟩
        go_wp2_with fail
        refine (nanswers_any _).mono ?_
        rintro e w2 ⟨rfl, k2⟩
        go_wp2
        go_ret
        exact ⟨rfl, HE.out _ ((Y.kp.trans k1).trans k2)⟩
      · go_enter Try.func4, Try.ntmps4
        go_wp2_with fail
        rw [← HW.out]
        refine (HT.out _ HK.out).mono ?_
        rintro e w1 ⟨rfl, k1⟩
        have Y1 := Y.still k1
        clear k1 HW HK Y HT
        have d0 := Y1.d0
        have d1 := Y1.d1
        have d2 := Y1.d2
        have d3 := Y1.d3
        have d4 := Y1.d4
        have d5 := Y1.d5
        have d6 := Y1.d6
        have d7 := Y1.d7
        have d8 := Y1.d8
        go_wp2_with fail
        refine (HB.out _ Y1.kp).mono ?_
        rintro e w2 ⟨rfl, k2⟩
        have Y2 := Y1.still k2
        clear k2 Y1 HB d0 d1 d2 d3 d4 d5 d6 d7 d8
        have d0 := Y2.d0
        have d1 := Y2.d1
        have d2 := Y2.d2
        have d3 := Y2.d3
        have d4 := Y2.d4
        have d5 := Y2.d5
        have d6 := Y2.d6
        have d7 := Y2.d7
        have d8 := Y2.d8
        go_wp2_with fail
        refine (HR.out _ Y2.kp).mono ?_
        rintro e w3 ⟨rfl, k3⟩
        have K3 := Y2.kp.trans k3
        clear k3 Y2 HR d0 d1 d2 d3 d4 d5 d6 d7 d8
        go_wp2_with fail
        refine (nanswers_any _).mono ?_
        rintro e w4 ⟨rfl, k4⟩
        go_wp2
        all_goals
          go_ret
          refine ⟨?_, HE.out _ (K3.trans k4)⟩
          first | rfl | (simp; done)

end Go.Proofs.Ytlkilcgkpdmkpaa.NP
