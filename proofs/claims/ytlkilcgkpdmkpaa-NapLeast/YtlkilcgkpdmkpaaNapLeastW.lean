/- The best one costs no more than any other one that may be taken, and no more than to idle; without one none may be taken. -/
import Derived.Test.YtlkilcgkpdmkpaaNapBestW
namespace Go.Proofs.Ytlkilcgkpdmkpaa.NP
open Go.ChangeShapes Go.WideShapes Go.ChangeAt Go.RowKit Go.Proofs.Ytlkilcgkpdmkpaa.AR Go.Proofs.Ytlkilcgkpdmkpaa.TB

/-- asleep for Even or more costs no more than to idle -/
theorem cw_idle {idle power enter exit enterE exitE even stay : Int} (h : awayB idle power enter exit enterE exitE even = true) (h0 : even ≤ stay ∧ stay ≤ 1073741824) :
    cw power enter exit enterE exitE stay ≤ idle * stay := by
  obtain ⟨g1, g2, g3, g4, g5, g6, gE, g8⟩ := awayB_t.1 h
  rw [cw_small ⟨g2.1, by omega⟩ g3 g4 g5 g6 ⟨by omega, by omega⟩]
  have e0 : max 0 (stay - enter - exit) = (even - enter - exit) + (stay - even) := by omega
  have e1 : power * ((even - enter - exit) + (stay - even)) = power * (even - enter - exit) + power * (stay - even) := Int.mul_add _ _ _
  have e2 : idle * stay = idle * even + idle * (stay - even) := by rw [← Int.mul_add]; congr 1; omega
  have m3 : power * (stay - even) ≤ idle * (stay - even) := Int.mul_le_mul_of_nonneg_right g2.2 (by omega)
  rw [e0, e1, e2]
  omega

set_option maxRecDepth 100000 in
set_option maxHeartbeats 8000000 in
theorem napLeast_walk (aL : Option Addr) (lL cL : Nat) (rL : List (List Int)) (aS : Option Addr) (lS cS : Nat) (rS : List (List Int)) (aD : Option Addr) (lD cD : Nat) (rD : List (List Int)) (idle crit sw swe sems hor : Int) (stay : Int) (w : World)
    (h : Mach w aL lL rL aS lS rS aD lD rD) (_ : (Lit.int .i64 stay).wf = true) :
    Calls Try.prog 5 #[pv aL lL cL aS lS cS aD lD cD idle crit sw swe sems hor, .int .i64 stay] w
      fun e w' => e = .returned (.bool true) ∧ Below w.heap.size w w' := by
  have HE : Hid (∀ w', Kp w w' → Below w.heap.size w w') := fun w' q => q
  have hnS := h.nS
  have HM : Hid (mayB lL rL lS rS lD rD idle crit sw swe sems hor = true → (0 ≤ idle ∧ idle ≤ 65536) ∧ ∀ i, i < lS → awayB idle (fd rS i 0) (fd rS i 1) (fd rS i 2) (fd rS i 3) (fd rS i 4) (fd rS i 5) = true) := fun q => ⟨(mayB_t.1 q).1.1, (mayB_t.1 q).2.2.2.1.2⟩
  have HT : Hid (∀ w', Kp w w' → Calls Try.prog 11 #[pv aL lL cL aS lS cS aD lD cD idle crit sw swe sems hor] w' fun e w'' => e = .returned (.bool (mayB lL rL lS rS lD rD idle crit sw swe sems hor)) ∧ Kp w' w'') := fun w' k => reftable_any aL lL cL rL aS lS cS rS aD lD cD rD idle crit sw swe sems hor w' (h.kept k)
  have HB : Hid (∀ w', Kp w w' → Calls Try.prog 12 #[pv aL lL cL aS lS cS aD lD cD idle crit sw swe sems hor, .int .i64 stay] w' fun e w'' => e = .returned (.tuple #[.int .i64 ((bst rS stay lS).1 : Nat), .bool (bst rS stay lS).2]) ∧ Kp w' w'') := fun w' k => best_any aL lL cL aS lS cS rS aD lD cD idle crit sw swe sems hor stay w' (h.kept k).slp h.nS
  generalize mayB lL rL lS rS lD rD idle crit sw swe sems hor = may at *
  obtain ⟨W0, HW⟩ : ∃ W0, Hid (W0 = w.alloc (.cells #[.slice aL lL cL, .slice aS lS cS, .slice aD lD cD, .int .i64 idle, .int .i64 crit, .int .i64 sw, .int .i64 swe, .int .i64 sems, .int .i64 hor] 32)) := ⟨_, rfl⟩
  have Y := ba_new HW.out
  have HK : Hid (Kp w W0) := Y.kp
  unfold pv at *
  cases may with
  | false =>
    go_enter Try.func5, Try.ntmps5
    try dsimp only [List.append]
    go_wp2_with fail
    rw [← HW.out]
    refine (HT.out _ HK.out).mono ?_
    rintro e w1 ⟨rfl, k1⟩
    go_wp2_with fail
    refine (nanswers_any _).mono ?_
    rintro e w2 ⟨rfl, k2⟩
    go_wp2
    go_ret
    exact ⟨rfl, HE.out _ ((Y.kp.trans k1).trans k2)⟩
  | true =>
    by_cases t0 : stay < 0
    · go_enter Try.func5, Try.ntmps5
      try dsimp only [List.append]
      go_wp2_with fail
      rw [← HW.out]
      refine (HT.out _ HK.out).mono ?_
      rintro e w1 ⟨rfl, k1⟩
      go_wp2_with fail
      refine (nanswers_any _).mono ?_
      rintro e w2 ⟨rfl, k2⟩
      go_wp2
      go_ret
      exact ⟨rfl, HE.out _ ((Y.kp.trans k1).trans k2)⟩
    · by_cases t1 : 1073741824 < stay
      · go_enter Try.func5, Try.ntmps5
        try dsimp only [List.append]
        go_wp2_with fail
        rw [← HW.out]
        refine (HT.out _ HK.out).mono ?_
        rintro e w1 ⟨rfl, k1⟩
        go_wp2_with fail
        refine (nanswers_any _).mono ?_
        rintro e w2 ⟨rfl, k2⟩
        go_wp2
        go_ret
        exact ⟨rfl, HE.out _ ((Y.kp.trans k1).trans k2)⟩
      · obtain ⟨hid, ha⟩ := HM.out rfl
        have HA : Hid (∀ i, i < lS → awayB idle (fd rS i 0) (fd rS i 1) (fd rS i 2) (fd rS i 3) (fd rS i 4) (fd rS i 5) = true) := ha
        clear ha HM
        rcases hq : bst rS stay lS with ⟨bb, ff⟩
        have HO : Hid (∀ i, i < lS → fd rS i 5 ≤ stay → ff = true) := fun i hi gi => (bst_all hq i hi gi).1
        have HP : Hid (∀ i, i < lS → fd rS i 5 ≤ stay → ck rS stay bb ≤ ck rS stay i) := fun i hi gi => (bst_all hq i hi gi).2
        have HI : Hid (ff = true → bb < lS ∧ fd rS bb 5 ≤ stay) := fun e => bst_in (by rw [← e]; exact hq)
        rw [hq] at HB
        clear hq
        simp only at HB
        cases ff with
        | false =>
          clear HA HP HI
          go_enter Try.func5, Try.ntmps5
          try dsimp only [List.append]
          go_wp2_with fail
          rw [← HW.out]
          refine (HT.out _ HK.out).mono ?_
          rintro e w1 ⟨rfl, k1⟩
          have Y1 := Y.still k1
          clear k1 HW HK Y HT
          have d0 := Y1.d0
          have d1 := Y1.d1
          have d2 := Y1.d2
          have d3 := Y1.d3
          have d4 := Y1.d4
          have d5 := Y1.d5
          have d6 := Y1.d6
          have d7 := Y1.d7
          have d8 := Y1.d8
          go_wp2_with fail
          refine (HB.out _ Y1.kp).mono ?_
          rintro e w2 ⟨rfl, k2⟩
          have Y2 := Y1.still k2
          clear k2 Y1 HB d0 d1 d2 d3 d4 d5 d6 d7 d8
          go_wp2_with fail
          go_quiet (fail)
          go_wp2_with fail
          go_loopw [7] (fun i wr => ∃ k : Nat, k ≤ lS ∧ i = .int .i64 k ∧ BA w wr (.slice aL lL cL) (.slice aS lS cS) (.slice aD lD cD) idle crit sw swe sems hor) (fun i _ => lS - (intOf i).toNat)
          case atStart => exact ⟨0, Nat.zero_le _, rfl, Y2.still (kp_drewN _ _)⟩
          case round =>
            obtain ⟨k, hk, rfl, X⟩ := hrel
            clear Y2
            have hkp := X.kp
            have hsz := X.sz
            have d1 := X.d1
            by_cases hlt : k < lS
            · have hlt' : (k : Int) < (lS : Int) := by omega
              obtain ⟨b, off, rfl, hbl, hc⟩ := fd_at h.slp hlt hkp
              have c5 := hc 5 (by omega)
              clear hc
              have g1 : decide (fd rS k 5 ≤ stay) = false := decide_eq_false (fun q => by have := HO.out k hlt q; cases this)
              clear HO hlt
              generalize fd rS k 5 = x5 at *
              go_wp2_with fail
              go_quiet (fail)
              go_wp2
              go_roundw
              case rel => exact ⟨k + 1, by omega, by go_num, X.still (kp_drewN _ _)⟩
              case measure => simp [intOf]; omega
            · have hlt' : ¬ (k : Int) < (lS : Int) := by omega
              go_wp2_with fail
              refine (nanswers_any _).mono ?_
              rintro e w4 ⟨rfl, k4⟩
              go_wp2
              go_ret
              exact ⟨rfl, HE.out _ (hkp.trans k4)⟩
        | true =>
          obtain ⟨hbb, hev⟩ := HI.out rfl
          clear HI HO
          have hcw := cw_idle (HA.out bb hbb) ⟨hev, by omega⟩
          have hmul := mul_bound (a := idle) (b := stay) (A := 65536) (B := 1073741824) hid.1 hid.2 (by omega) (by omega)
          obtain ⟨b, off, rfl, hbw, _⟩ := fd_at h.slp hbb (Kp.refl w)
          have hw1 : wrap64 (idle * stay) = idle * stay := IntWalk.wrap64_in _ (by omega)
          have hw2 : IntKind.i64.wrap (idle * stay) = idle * stay := by rw [wrap_i64]; exact hw1
          have f0 : decide ((bb : Int) < 0) = false := decide_eq_false (by omega)
          have f1 : decide ((lS : Int) ≤ (bb : Int)) = false := decide_eq_false (by omega)
          have f4 : decide (lS ≤ bb) = false := decide_eq_false (by omega)
          have f2 : decide (stay < fd rS bb 5) = false := decide_eq_false (by omega)
          have f3 : decide (idle * stay < cw (fd rS bb 0) (fd rS bb 1) (fd rS bb 2) (fd rS bb 3) (fd rS bb 4) stay) = false := decide_eq_false (by omega)
          have hbb' : (bb : Int) < (lS : Int) := by omega
          clear HA hcw hmul hid hev
          go_enter Try.func5, Try.ntmps5
          try dsimp only [List.append]
          go_wp2_with fail
          rw [← HW.out]
          refine (HT.out _ HK.out).mono ?_
          rintro e w1 ⟨rfl, k1⟩
          have Y1 := Y.still k1
          clear k1 HW HK Y HT
          have d0 := Y1.d0
          have d1 := Y1.d1
          have d2 := Y1.d2
          have d3 := Y1.d3
          have d4 := Y1.d4
          have d5 := Y1.d5
          have d6 := Y1.d6
          have d7 := Y1.d7
          have d8 := Y1.d8
          go_wp2_with fail
          refine (HB.out _ Y1.kp).mono ?_
          rintro e w2 ⟨rfl, k2⟩
          have Y2 := Y1.still k2
          clear k2 Y1 HB d0 d1 d2 d3 d4 d5 d6 d7 d8
          have hc := (fd_in (k := bb) h.slp hbb Y2.kp).2
          have hbl : b < w2.heap.size := (fd_in (k := bb) h.slp hbb Y2.kp).1
          have e0 := hc 0 (by omega)
          have e1 := hc 1 (by omega)
          have e2 := hc 2 (by omega)
          have e3 := hc 3 (by omega)
          have e4 := hc 4 (by omega)
          have e5 := hc 5 (by omega)
          clear hc
          simp only [Nat.add_zero] at e0
          have hsz := Y2.sz
          have d1 := Y2.d1
          have d3 := Y2.d3
          go_wp2_with fail
          go_region_held3 (fun w' => w'.cell? ⟨w.heap.size, 1, none⟩ = some (.slice (some ⟨b, off, none⟩) lS cS) ∧ w'.cell? ⟨w.heap.size, 3, none⟩ = some (.int .i64 idle) ∧ w'.cell? ⟨b, off + bb * 6, none⟩ = some (.int .i64 (fd rS bb 0)) ∧ w'.cell? ⟨b, off + bb * 6 + 1, none⟩ = some (.int .i64 (fd rS bb 1)) ∧ w'.cell? ⟨b, off + bb * 6 + 2, none⟩ = some (.int .i64 (fd rS bb 2)) ∧ w'.cell? ⟨b, off + bb * 6 + 3, none⟩ = some (.int .i64 (fd rS bb 3)) ∧ w'.cell? ⟨b, off + bb * 6 + 4, none⟩ = some (.int .i64 (fd rS bb 4)) ∧ w'.cell? ⟨b, off + bb * 6 + 5, none⟩ = some (.int .i64 (fd rS bb 5))) (go_keep) (first
            | (go_at_call 9; refine (cost_any _ _ _ _ _ _ _ _).mono ?_; rintro e w3 ⟨rfl, k3⟩; have K3 : Kp w2 w3 := (by first | exact (TB.kp_drew _).trans k3 | exact k3); clear k3; have z0 := (K3.cell (p := ⟨w.heap.size, 1, none⟩) hsz).trans d1; have z1 := (K3.cell (p := ⟨w.heap.size, 3, none⟩) hsz).trans d3; have z2 := (K3.cell (p := ⟨b, off + bb * 6, none⟩) hbl).trans e0; have z3 := (K3.cell (p := ⟨b, off + bb * 6 + 1, none⟩) hbl).trans e1; have z4 := (K3.cell (p := ⟨b, off + bb * 6 + 2, none⟩) hbl).trans e2; have z5 := (K3.cell (p := ⟨b, off + bb * 6 + 3, none⟩) hbl).trans e3; have z6 := (K3.cell (p := ⟨b, off + bb * 6 + 4, none⟩) hbl).trans e4; have z7 := (K3.cell (p := ⟨b, off + bb * 6 + 5, none⟩) hbl).trans e5)
            | fail)
          all_goals
            clear z0 z1 z2 z3 z4 z5 z6 z7 e0 e1 e2 e3 e4 e5 d1 d3
            have Y3 := Y2.still K3
            clear Y2 K3
            try rw [f3]
            clear f0 f1 f2 f3 f4 hw1 hw2 hsz hbl
            go_wp2_with fail
            go_loopw [7] (fun i wr => ∃ k : Nat, k ≤ lS ∧ i = .int .i64 k ∧ BA w wr (.slice aL lL cL) (.slice (some ⟨b, off, none⟩) lS cS) (.slice aD lD cD) idle crit sw swe sems hor) (fun i _ => lS - (intOf i).toNat)
            case atStart => exact ⟨0, Nat.zero_le _, rfl, Y3⟩
            case round =>
              obtain ⟨k, hk, rfl, X⟩ := hrel
              clear Y3
              have hkp := X.kp
              have hsz := X.sz
              have d1 := X.d1
              by_cases hlt : k < lS
              · have hlt' : (k : Int) < (lS : Int) := by omega
                have hbl : b < wr.heap.size := (fd_in (k := k) h.slp hlt hkp).1
                have hc := (fd_in (k := k) h.slp hlt hkp).2
                have c0 := hc 0 (by omega)
                have c1 := hc 1 (by omega)
                have c2 := hc 2 (by omega)
                have c3 := hc 3 (by omega)
                have c4 := hc 4 (by omega)
                have c5 := hc 5 (by omega)
                clear hc
                have hc := (fd_in (k := bb) h.slp hbb hkp).2
                have e0 := hc 0 (by omega)
                have e1 := hc 1 (by omega)
                have e2 := hc 2 (by omega)
                have e3 := hc 3 (by omega)
                have e4 := hc 4 (by omega)
                have e5 := hc 5 (by omega)
                clear hc
                simp only [Nat.add_zero] at c0 e0
                by_cases g : fd rS k 5 ≤ stay
                · have g1 : decide (fd rS k 5 ≤ stay) = true := decide_eq_true g
                  have g2 := HP.out k hlt g
                  unfold ck at g2
                  clear HP hlt hbb g
                  generalize fd rS k 0 = x0 at *
                  generalize fd rS k 1 = x1 at *
                  generalize fd rS k 2 = x2 at *
                  generalize fd rS k 3 = x3 at *
                  generalize fd rS k 4 = x4 at *
                  generalize fd rS k 5 = x5 at *
                  generalize fd rS bb 0 = y0 at *
                  generalize fd rS bb 1 = y1 at *
                  generalize fd rS bb 2 = y2 at *
                  generalize fd rS bb 3 = y3 at *
                  generalize fd rS bb 4 = y4 at *
                  generalize fd rS bb 5 = y5 at *
                  have g3 : decide (cw x0 x1 x2 x3 x4 stay < cw y0 y1 y2 y3 y4 stay) = false := decide_eq_false (by omega)
                  clear g2
                  go_wp2_with fail
                  go_region_held3 (fun w' => w'.cell? ⟨w.heap.size, 1, none⟩ = some (.slice (some ⟨b, off, none⟩) lS cS) ∧ w'.cell? ⟨b, off + k * 6, none⟩ = some (.int .i64 x0) ∧ w'.cell? ⟨b, off + k * 6 + 1, none⟩ = some (.int .i64 x1) ∧ w'.cell? ⟨b, off + k * 6 + 2, none⟩ = some (.int .i64 x2) ∧ w'.cell? ⟨b, off + k * 6 + 3, none⟩ = some (.int .i64 x3) ∧ w'.cell? ⟨b, off + k * 6 + 4, none⟩ = some (.int .i64 x4) ∧ w'.cell? ⟨b, off + k * 6 + 5, none⟩ = some (.int .i64 x5) ∧ w'.cell? ⟨b, off + bb * 6, none⟩ = some (.int .i64 y0) ∧ w'.cell? ⟨b, off + bb * 6 + 1, none⟩ = some (.int .i64 y1) ∧ w'.cell? ⟨b, off + bb * 6 + 2, none⟩ = some (.int .i64 y2) ∧ w'.cell? ⟨b, off + bb * 6 + 3, none⟩ = some (.int .i64 y3) ∧ w'.cell? ⟨b, off + bb * 6 + 4, none⟩ = some (.int .i64 y4) ∧ w'.cell? ⟨b, off + bb * 6 + 5, none⟩ = some (.int .i64 y5)) (go_keep) (first
                    | (go_at_call 9; refine (cost_any _ _ _ _ _ _ _ _).mono ?_; rintro e w3 ⟨rfl, k3⟩; have K3 : Kp wr w3 := (by first | exact (K3.trans (TB.kp_drew _)).trans k3 | exact K3.trans k3 | exact (TB.kp_drew _).trans k3 | exact k3); clear k3; have z0 := (K3.cell (p := ⟨w.heap.size, 1, none⟩) hsz).trans d1; have z1 := (K3.cell (p := ⟨b, off + k * 6, none⟩) hbl).trans c0; have z2 := (K3.cell (p := ⟨b, off + k * 6 + 1, none⟩) hbl).trans c1; have z3 := (K3.cell (p := ⟨b, off + k * 6 + 2, none⟩) hbl).trans c2; have z4 := (K3.cell (p := ⟨b, off + k * 6 + 3, none⟩) hbl).trans c3; have z5 := (K3.cell (p := ⟨b, off + k * 6 + 4, none⟩) hbl).trans c4; have z6 := (K3.cell (p := ⟨b, off + k * 6 + 5, none⟩) hbl).trans c5; have z7 := (K3.cell (p := ⟨b, off + bb * 6, none⟩) hbl).trans e0; have z8 := (K3.cell (p := ⟨b, off + bb * 6 + 1, none⟩) hbl).trans e1; have z9 := (K3.cell (p := ⟨b, off + bb * 6 + 2, none⟩) hbl).trans e2; have z10 := (K3.cell (p := ⟨b, off + bb * 6 + 3, none⟩) hbl).trans e3; have z11 := (K3.cell (p := ⟨b, off + bb * 6 + 4, none⟩) hbl).trans e4; have z12 := (K3.cell (p := ⟨b, off + bb * 6 + 5, none⟩) hbl).trans e5)
                    | fail)
                  all_goals
                    clear z0 z1 z2 z3 z4 z5 z6 z7 z8 z9 z10 z11 z12
                    try rw [g3]
                    go_wp2
                    go_roundw
                    case rel => exact ⟨k + 1, by omega, by go_num, X.still K3⟩
                    case measure => simp [intOf]; omega
                · have g1 : decide (fd rS k 5 ≤ stay) = false := decide_eq_false g
                  clear HP hlt g c0 c1 c2 c3 c4 e0 e1 e2 e3 e4 e5
                  generalize fd rS k 5 = x5 at *
                  go_wp2_with fail
                  go_quiet (fail)
                  go_wp2
                  go_roundw
                  case rel => exact ⟨k + 1, by omega, by go_num, X.still (kp_drewN _ _)⟩
                  case measure => simp [intOf]; omega
              · have hlt' : ¬ (k : Int) < (lS : Int) := by omega
                go_wp2_with fail
                refine (nanswers_any _).mono ?_
                rintro e w4 ⟨rfl, k4⟩
                go_wp2
                go_ret
                exact ⟨rfl, HE.out _ (hkp.trans k4)⟩

end Go.Proofs.Ytlkilcgkpdmkpaa.NP
