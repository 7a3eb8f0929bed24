/- A longer stay costs no less in the same state; what may be taken for a stay may be taken for a longer one. -/
import Derived.Test.YtlkilcgkpdmkpaaNapBestW
namespace Go.Proofs.Ytlkilcgkpdmkpaa.NP
open Go.ChangeShapes Go.WideShapes Go.ChangeAt Go.RowKit Go.Proofs.Ytlkilcgkpdmkpaa.AR Go.Proofs.Ytlkilcgkpdmkpaa.TB

theorem u16_in {x : Int} (h : (Lit.int .u16 x).wf = true) : 0 ≤ x ∧ x ≤ 65535 := by
  simp [Lit.wf, IntKind.min, IntKind.max, IntKind.signed, IntKind.bits] at h
  omega

/-- longer is no cheaper -/
theorem cw_more {idle power enter exit enterE exitE even stay more : Int} (h : awayB idle power enter exit enterE exitE even = true) (h0 : 0 ≤ stay ∧ stay ≤ 536870912) (h1 : 0 ≤ more ∧ more ≤ 65535) :
    ¬ cw power enter exit enterE exitE (stay + more) < cw power enter exit enterE exitE stay := by
  obtain ⟨g1, g2, g3, g4, g5, g6, _, _⟩ := awayB_t.1 h
  rw [cw_small ⟨g2.1, by omega⟩ g3 g4 g5 g6 ⟨by omega, by omega⟩, cw_small ⟨g2.1, by omega⟩ g3 g4 g5 g6 ⟨by omega, by omega⟩]
  have : power * max 0 (stay - enter - exit) ≤ power * max 0 (stay + more - enter - exit) := Int.mul_le_mul_of_nonneg_left (by omega) g2.1
  omega

/-- what may be taken may be taken for longer -/
theorem bst_more {r : List (List Int)} {stay n : Int} {k : Nat} (h : stay ≤ n) (g : (bst r stay k).2 = true) : (bst r n k).2 = true := by
  rcases hq : bst r stay k with ⟨b, f⟩
  rw [hq] at g
  simp only at g
  subst g
  obtain ⟨h1, h2⟩ := bst_in hq
  rcases hp : bst r n k with ⟨b', f'⟩
  exact (bst_all hp b h1 (by omega)).1

set_option maxRecDepth 100000 in
set_option maxHeartbeats 8000000 in
theorem napLonger_walk (aL : Option Addr) (lL cL : Nat) (rL : List (List Int)) (aS : Option Addr) (lS cS : Nat) (rS : List (List Int)) (aD : Option Addr) (lD cD : Nat) (rD : List (List Int)) (idle crit sw swe sems hor : Int) (stay more : Int) (w : World)
    (h : Mach w aL lL rL aS lS rS aD lD rD) (_ : (Lit.int .i64 stay).wf = true) (hmo : (Lit.int .u16 more).wf = true) :
    Calls Try.prog 6 #[pv aL lL cL aS lS cS aD lD cD idle crit sw swe sems hor, .int .i64 stay, .int .u16 more] w
      fun e w' => e = .returned (.bool true) ∧ Below w.heap.size w w' := by
  have HE : Hid (∀ w', Kp w w' → Below w.heap.size w w') := fun w' q => q
  have hnS := h.nS
  have HM : Hid (mayB lL rL lS rS lD rD idle crit sw swe sems hor = true → ∀ i, i < lS → awayB idle (fd rS i 0) (fd rS i 1) (fd rS i 2) (fd rS i 3) (fd rS i 4) (fd rS i 5) = true) := fun q => (mayB_t.1 q).2.2.2.1.2
  have HT : Hid (∀ w', Kp w w' → Calls Try.prog 11 #[pv aL lL cL aS lS cS aD lD cD idle crit sw swe sems hor] w' fun e w'' => e = .returned (.bool (mayB lL rL lS rS lD rD idle crit sw swe sems hor)) ∧ Kp w' w'') := fun w' k => reftable_any aL lL cL rL aS lS cS rS aD lD cD rD idle crit sw swe sems hor w' (h.kept k)
  have HB : Hid (∀ w' t, Kp w w' → Calls Try.prog 12 #[pv aL lL cL aS lS cS aD lD cD idle crit sw swe sems hor, .int .i64 t] w' fun e w'' => e = .returned (.tuple #[.int .i64 ((bst rS t lS).1 : Nat), .bool (bst rS t lS).2]) ∧ Kp w' w'') := fun w' t k => best_any aL lL cL aS lS cS rS aD lD cD idle crit sw swe sems hor t w' (h.kept k).slp h.nS
  generalize mayB lL rL lS rS lD rD idle crit sw swe sems hor = may at *
  have hmb := u16_in hmo
  clear hmo
  obtain ⟨m1, m2⟩ := hmb
  obtain ⟨W0, HW⟩ : ∃ W0, Hid (W0 = w.alloc (.cells #[.slice aL lL cL, .slice aS lS cS, .slice aD lD cD, .int .i64 idle, .int .i64 crit, .int .i64 sw, .int .i64 swe, .int .i64 sems, .int .i64 hor] 32)) := ⟨_, rfl⟩
  have Y := ba_new HW.out
  have HK : Hid (Kp w W0) := Y.kp
  unfold pv at *
  cases may with
  | false =>
    go_enter Try.func6, Try.ntmps6
    go_wp2_with fail
    rw [← HW.out]
    refine (HT.out _ HK.out).mono ?_
    rintro e w1 ⟨rfl, k1⟩
    go_wp2_with fail
    refine (nanswers_any _).mono ?_
    rintro e w2 ⟨rfl, k2⟩
    go_wp2
    go_ret
    exact ⟨rfl, HE.out _ ((Y.kp.trans k1).trans k2)⟩
  | true =>
    by_cases t0 : stay < 0
    · go_enter Try.func6, Try.ntmps6
      go_wp2_with fail
      rw [← HW.out]
      refine (HT.out _ HK.out).mono ?_
      rintro e w1 ⟨rfl, k1⟩
      go_wp2_with fail
      refine (nanswers_any _).mono ?_
      rintro e w2 ⟨rfl, k2⟩
      go_wp2
      go_ret
      exact ⟨rfl, HE.out _ ((Y.kp.trans k1).trans k2)⟩
    · by_cases t1 : 536870912 < stay
      · go_enter Try.func6, Try.ntmps6
        go_wp2_with fail
        rw [← HW.out]
        refine (HT.out _ HK.out).mono ?_
        rintro e w1 ⟨rfl, k1⟩
        go_wp2_with fail
        refine (nanswers_any _).mono ?_
        rintro e w2 ⟨rfl, k2⟩
        go_wp2
        go_ret
        exact ⟨rfl, HE.out _ ((Y.kp.trans k1).trans k2)⟩
      · have t2 : 0 ≤ stay := by omega
        have t3 : stay ≤ 536870912 := by omega
        have HA : Hid (∀ i, i < lS → awayB idle (fd rS i 0) (fd rS i 1) (fd rS i 2) (fd rS i 3) (fd rS i 4) (fd rS i 5) = true) := HM.out rfl
        have HQ : Hid ((bst rS stay lS).2 = true → (bst rS (stay + more) lS).2 = true) := fun q => bst_more (by omega) q
        go_enter Try.func6, Try.ntmps6
        go_wp2_with fail
        rw [← HW.out]
        refine (HT.out _ HK.out).mono ?_
        rintro e w1 ⟨rfl, k1⟩
        have Y1 := Y.still k1
        clear k1 HW HK Y HT HM
        go_wp2_with fail
        go_loopw [8] (fun i wr => ∃ k : Nat, k ≤ lS ∧ i = .int .i64 k ∧ BA w wr (.slice aL lL cL) (.slice aS lS cS) (.slice aD lD cD) idle crit sw swe sems hor) (fun i _ => lS - (intOf i).toNat)
        case atStart => exact ⟨0, Nat.zero_le _, rfl, Y1⟩
        case round =>
          obtain ⟨k, hk, rfl, X⟩ := hrel
          clear Y1
          have hkp := X.kp
          have hsz := X.sz
          by_cases hlt : k < lS
          · have hlt' : (k : Int) < (lS : Int) := by omega
            have d1 := X.d1
            obtain ⟨b, off, rfl, hbl, hc⟩ := fd_at h.slp hlt hkp
            have c0 := hc 0 (by omega)
            have c1 := hc 1 (by omega)
            have c2 := hc 2 (by omega)
            have c3 := hc 3 (by omega)
            have c4 := hc 4 (by omega)
            have c5 := hc 5 (by omega)
            clear hc
            simp only [Nat.add_zero] at c0
            have HN := cw_more (HA.out k hlt) ⟨t2, t3⟩ ⟨m1, m2⟩
            clear HA HQ HB hlt
            generalize fd rS k 0 = x0 at *
            generalize fd rS k 1 = x1 at *
            generalize fd rS k 2 = x2 at *
            generalize fd rS k 3 = x3 at *
            generalize fd rS k 4 = x4 at *
            generalize fd rS k 5 = x5 at *
            have HN' : decide (cw x0 x1 x2 x3 x4 (stay + more) < cw x0 x1 x2 x3 x4 stay) = false := decide_eq_false HN
            clear HN
            go_wp2_with fail
            go_region_held3 (fun w' => w'.cell? ⟨w.heap.size, 1, none⟩ = some (.slice (some ⟨b, off, none⟩) lS cS) ∧ w'.cell? ⟨b, off + k * 6, none⟩ = some (.int .i64 x0) ∧ w'.cell? ⟨b, off + k * 6 + 1, none⟩ = some (.int .i64 x1) ∧ w'.cell? ⟨b, off + k * 6 + 2, none⟩ = some (.int .i64 x2) ∧ w'.cell? ⟨b, off + k * 6 + 3, none⟩ = some (.int .i64 x3) ∧ w'.cell? ⟨b, off + k * 6 + 4, none⟩ = some (.int .i64 x4) ∧ w'.cell? ⟨b, off + k * 6 + 5, none⟩ = some (.int .i64 x5)) (go_keep) (first
              | (go_at_call 9; refine (cost_any _ _ _ _ _ _ _ _).mono ?_; rintro e w3 ⟨rfl, k3⟩; have K3 : Kp wr w3 := (by first | exact (K3.trans (TB.kp_drew _)).trans k3 | exact K3.trans k3 | exact (TB.kp_drew _).trans k3 | exact k3); clear k3; have z0 := (K3.cell (p := ⟨w.heap.size, 1, none⟩) hsz).trans d1; have z1 := (K3.cell (p := ⟨b, off + k * 6, none⟩) hbl).trans c0; have z2 := (K3.cell (p := ⟨b, off + k * 6 + 1, none⟩) hbl).trans c1; have z3 := (K3.cell (p := ⟨b, off + k * 6 + 2, none⟩) hbl).trans c2; have z4 := (K3.cell (p := ⟨b, off + k * 6 + 3, none⟩) hbl).trans c3; have z5 := (K3.cell (p := ⟨b, off + k * 6 + 4, none⟩) hbl).trans c4; have z6 := (K3.cell (p := ⟨b, off + k * 6 + 5, none⟩) hbl).trans c5)
              | fail)
            all_goals
              clear z0 z1 z2 z3 z4 z5 z6
              try rw [HN']
              go_wp2
              go_roundw
              case rel => exact ⟨k + 1, by omega, by go_num, X.still K3⟩
              case measure => simp [intOf]; omega
          · have hlt' : ¬ (k : Int) < (lS : Int) := by omega
            have d0 := X.d0
            have d1 := X.d1
            have d2 := X.d2
            have d3 := X.d3
            have d4 := X.d4
            have d5 := X.d5
            have d6 := X.d6
            have d7 := X.d7
            have d8 := X.d8
            go_wp2_with fail
            refine (HB.out _ _ hkp).mono ?_
            rintro e w2 ⟨rfl, k2⟩
            have Y2 := X.still k2
            clear k2 X hkp hsz d0 d1 d2 d3 d4 d5 d6 d7 d8
            have d0 := Y2.d0
            have d1 := Y2.d1
            have d2 := Y2.d2
            have d3 := Y2.d3
            have d4 := Y2.d4
            have d5 := Y2.d5
            have d6 := Y2.d6
            have d7 := Y2.d7
            have d8 := Y2.d8
            go_wp2_with fail
            refine (HB.out _ _ Y2.kp).mono ?_
            rintro e w3 ⟨rfl, k3⟩
            have K3 := Y2.kp.trans k3
            clear k3 Y2 HB d0 d1 d2 d3 d4 d5 d6 d7 d8
            generalize (bst rS stay lS).2 = fa at *
            generalize (bst rS (stay + more) lS).2 = fb at *
            go_wp2_with fail
            refine (nanswers_any _).mono ?_
            rintro e w4 ⟨rfl, k4⟩
            cases fa with
            | false =>
              go_wp2
              go_ret
              exact ⟨rfl, HE.out _ (K3.trans k4)⟩
            | true =>
              have HF := HQ.out rfl
              subst HF
              go_wp2
              go_ret
              exact ⟨rfl, HE.out _ (K3.trans k4)⟩

end Go.Proofs.Ytlkilcgkpdmkpaa.NP
