/- What the document's own check answers: its loops. -/
import Derived.Test.YtbhgjaaaffjjeaaRef
import Derived.Deep.RegionHeld3
namespace Go.Proofs.Ytbhgjaaaffjjeaa.TB
open Go.ChangeShapes Go.WideShapes Go.ChangeAt Go.RowKit Go.Proofs.Ytbhgjaaaffjjeaa.AR

/-- a machine's box beside what was there -/
structure Bx (w wr : World) (c0 c1 c2 : Value) (idle crit : Int) : Prop where
  kp : Kp w wr
  sz : w.heap.size < wr.heap.size
  d0 : wr.cell? ⟨w.heap.size, 0, none⟩ = some c0
  d1 : wr.cell? ⟨w.heap.size, 1, none⟩ = some c1
  d2 : wr.cell? ⟨w.heap.size, 2, none⟩ = some c2
  d3 : wr.cell? ⟨w.heap.size, 3, none⟩ = some (.int .i64 idle)
  d4 : wr.cell? ⟨w.heap.size, 4, none⟩ = some (.int .i64 crit)

theorem Bx.still {w wr w' : World} {c0 c1 c2 : Value} {idle crit : Int} (h : Bx w wr c0 c1 c2 idle crit) (k : Kp wr w') : Bx w w' c0 c1 c2 idle crit :=
  ⟨h.kp.trans k, Nat.lt_of_lt_of_le h.sz k.size, (k.cell (by exact h.sz)).trans h.d0, (k.cell (by exact h.sz)).trans h.d1, (k.cell (by exact h.sz)).trans h.d2, (k.cell (by exact h.sz)).trans h.d3, (k.cell (by exact h.sz)).trans h.d4⟩

theorem bx_new (w : World) (c0 c1 c2 : Value) (idle crit sw swe sems hor : Int) :
    Bx w (w.alloc (.cells #[c0, c1, c2, .int .i64 idle, .int .i64 crit, .int .i64 sw, .int .i64 swe, .int .i64 sems, .int .i64 hor] 26)) c0 c1 c2 idle crit := by
  obtain ⟨h0, h1, h2, h3, h4, _⟩ := box_cells (Kp.refl (w.alloc (.cells #[c0, c1, c2, .int .i64 idle, .int .i64 crit, .int .i64 sw, .int .i64 swe, .int .i64 sems, .int .i64 hor] 26)))
  exact ⟨(Kp.refl w).alloc _, by simp, h0, h1, h2, h3, h4⟩

theorem kp_drewN (w : World) : ∀ n, Kp w (w.drewN n) := fun _ => ⟨rfl, rfl, rfl, Nat.le_refl _, fun _ _ => rfl⟩

theorem may_f {lL : Nat} {rL : List (List Int)} {lS : Nat} {rS : List (List Int)} {lD : Nat} {rD : List (List Int)} {idle crit sw swe sems hor : Int} (h : Num lL idle crit sw swe sems hor ∧ Levs lL rL ∧ Slow lL rL idle crit ∧ Slps lS rS idle ∧ Devs lD rD → False) : mayB lL rL lS rS lD rD idle crit sw swe sems hor = false := by
  cases q : mayB lL rL lS rS lD rD idle crit sw swe sems hor with
  | false => rfl
  | true => exact (h (mayB_t.1 q)).elim
theorem may_lev_f {lL : Nat} {rL : List (List Int)} {lS : Nat} {rS : List (List Int)} {lD : Nat} {rD : List (List Int)} {idle crit sw swe sems hor : Int} {k : Nat} (hk : k < lL) (h : ¬ Lev rL k) : mayB lL rL lS rS lD rD idle crit sw swe sems hor = false := may_f (fun q => h (q.2.1.2 k hk))
theorem may_slow_f {lL : Nat} {rL : List (List Int)} {lS : Nat} {rS : List (List Int)} {lD : Nat} {rD : List (List Int)} {idle crit sw swe sems hor : Int} {k : Nat} (hk : k < lL) (h1 : 1 ≤ k) (h2 : (k : Int) ≤ crit) (h : net rL idle (k - 1) < net rL idle k) : mayB lL rL lS rS lD rD idle crit sw swe sems hor = false := may_f (fun q => by have := q.2.2.1 k hk h1 h2; omega)
theorem may_slp_f {lL : Nat} {rL : List (List Int)} {lS : Nat} {rS : List (List Int)} {lD : Nat} {rD : List (List Int)} {idle crit sw swe sems hor : Int} {k : Nat} (hk : k < lS) (h : awayB idle (fd rS k 0) (fd rS k 1) (fd rS k 2) (fd rS k 3) (fd rS k 4) (fd rS k 5) = false) : mayB lL rL lS rS lD rD idle crit sw swe sems hor = false := may_f (fun q => by have := q.2.2.2.1.2 k hk; rw [h] at this; cases this)
theorem may_dev_f {lL : Nat} {rL : List (List Int)} {lS : Nat} {rS : List (List Int)} {lD : Nat} {rD : List (List Int)} {idle crit sw swe sems hor : Int} {k : Nat} (hk : k < lD) (h : awayB (fd rD k 0) (fd rD k 1) (fd rD k 2) (fd rD k 3) (fd rD k 4) (fd rD k 5) (fd rD k 6) = false) : mayB lL rL lS rS lD rD idle crit sw swe sems hor = false := may_f (fun q => by have := q.2.2.2.2.2 k hk; rw [h] at this; cases this)

set_option maxRecDepth 100000 in
set_option maxHeartbeats 8000000 in
theorem reftable_loops (aL : Option Addr) (lL cL : Nat) (rL : List (List Int)) (aS : Option Addr) (lS cS : Nat) (rS : List (List Int)) (aD : Option Addr) (lD cD : Nat) (rD : List (List Int)) (idle crit sw swe sems hor : Int) (w : World)
    (h : Mach w aL lL rL aS lS rS aD lD rD) (hh : Head lL lS lD idle crit sw swe sems hor) :
    Calls Try.prog 7 #[pv aL lL cL aS lS cS aD lD cD idle crit sw swe sems hor] w
      fun e w' => e = .returned (.bool (mayB lL rL lS rS lD rD idle crit sw swe sems hor)) ∧ Kp w w' := by
  obtain ⟨res, hres⟩ : ∃ res, mayB lL rL lS rS lD rD idle crit sw swe sems hor = res := ⟨_, rfl⟩
  rw [hres]
  have HR : Hid (mayB lL rL lS rS lD rD idle crit sw swe sems hor = res) := hres
  clear hres
  have HH : Hid (Head lL lS lD idle crit sw swe sems hor) := hh
  obtain ⟨⟨a1, a2⟩, ⟨⟨b1, b2⟩, ⟨b3, b4⟩, ⟨b5, b6⟩, ⟨b7, b8⟩, ⟨b9, b10⟩, ⟨b11, b12⟩⟩, a3, a4⟩ := hh
  have f1 : ¬ (lL : Int) < 1 := by omega
  have f2 : ¬ (4 : Int) < (lL : Int) := by omega
  have f3 : ¬ (lL : Int) ≤ crit := by omega
  have f4 : ¬ (3 : Int) < (lS : Int) := by omega
  have f5 : ¬ (3 : Int) < (lD : Int) := by omega
  have f6 : ¬ idle < 0 := by omega
  have f7 : ¬ 65536 < idle := by omega
  have f8 : ¬ crit < 0 := by omega
  have f9 : ¬ sw < 0 := by omega
  have f10 : ¬ 256 < sw := by omega
  have f11 : ¬ swe < 0 := by omega
  have f12 : ¬ 65536 < swe := by omega
  have f13 : ¬ sems < 0 := by omega
  have f14 : ¬ 3 < sems := by omega
  have f15 : ¬ hor < 1 := by omega
  have f16 : ¬ 16384 < hor := by omega
  clear b5 b6 b7 b8 b9 b10 b11 b12
  have HX := bx_new w (.slice aL lL cL) (.slice aS lS cS) (.slice aD lD cD) idle crit sw swe sems hor
  unfold pv
  go_enter Try.func7, Try.ntmps7
  try dsimp only [List.append]
  go_wp2_with fail
  clear f1 f2 f3 f4 f5 f6 f7 f8 f9 f10 f11 f12 f13 f14 f15 f16
  go_loopw [3] (fun i wr => ∃ k : Nat, k ≤ lL ∧ i = .int .i64 k ∧ Hid (∀ j, j < k → Lev rL j) ∧ Hid (∀ j, j < k → 1 ≤ j → (j : Int) ≤ crit → net rL idle j ≤ net rL idle (j - 1)) ∧ Bx w wr (.slice aL lL cL) (.slice aS lS cS) (.slice aD lD cD) idle crit) (fun i _ => lL - (intOf i).toNat)
  case atStart => exact ⟨0, Nat.zero_le _, rfl, fun j hj => by omega, fun j hj => by omega, HX⟩
  case round =>
    obtain ⟨k, hk, rfl, HL, HT, X⟩ := hrel
    clear HX
    by_cases hlt : k < lL
    · have hlt' : (k : Int) < (lL : Int) := by omega
      obtain ⟨b, off, rfl, hb, hc⟩ := fd_at h.lev hlt X.kp
      have c0 := hc 0 (by omega)
      have c1 := hc 1 (by omega)
      clear hc
      simp only [Nat.add_zero] at c0
      have d0 := X.d0
      have d3 := X.d3
      have d4 := X.d4
      have hn1 : w.heap.size ≠ wr.heap.size := Nat.ne_of_lt X.sz
      have hn2 : b ≠ wr.heap.size := Nat.ne_of_lt hb
      have hn3 := X.sz
      by_cases k0 : k = 0
      · have u1 : decide ((0 : Int) < (k : Int)) = false := decide_eq_false (by omega)
        have u2' : decide (0 < k) = false := decide_eq_false (by omega)
        have HV : Hid (Lev rL k = ((0 + 1 ≤ fd rL k 0 ∧ fd rL k 0 ≤ 256) ∧ (0 ≤ fd rL k 1 ∧ fd rL k 1 ≤ 65536))) := by subst k0; rfl
        have HT' : Hid (∀ j, j < k + 1 → 1 ≤ j → (j : Int) ≤ crit → net rL idle j ≤ net rL idle (j - 1)) := fun j h1 h2 => by omega
        have HL' : Hid (Lev rL k → ∀ j, j < k + 1 → Lev rL j) := fun q j hj => by
          by_cases hj' : j < k
          · exact HL.out j hj'
          · obtain rfl : j = k := by omega
            exact q
        clear k0
        generalize fd rL k 0 = p at *
        generalize fd rL k 1 = e at *
        by_cases g1 : p < 1
        · have t1 : decide (p < 1) = true := decide_eq_true g1
          have HN : Hid (mayB lL rL lS rS lD rD idle crit sw swe sems hor = false) := may_lev_f hlt (by rw [HV.out]; omega)
          go_wp2_with fail
          go_quiet (fail)
          go_wp2
          go_ret
          exact ⟨congrArg (fun b => Ending.returned (Value.bool b)) (HN.out.symm.trans HR.out), (X.kp.alloc _).trans (kp_drewN _ _)⟩
        · have t1 : decide (p < 1) = false := decide_eq_false g1
          by_cases g2 : 256 < p
          · have t2 : decide (256 < p) = true := decide_eq_true g2
            have HN : Hid (mayB lL rL lS rS lD rD idle crit sw swe sems hor = false) := may_lev_f hlt (by rw [HV.out]; omega)
            go_wp2_with fail
            go_quiet (fail)
            go_wp2
            go_ret
            exact ⟨congrArg (fun b => Ending.returned (Value.bool b)) (HN.out.symm.trans HR.out), (X.kp.alloc _).trans (kp_drewN _ _)⟩
          · have t2 : decide (256 < p) = false := decide_eq_false g2
            by_cases g3 : e < 0
            · have t3 : decide (e < 0) = true := decide_eq_true g3
              have HN : Hid (mayB lL rL lS rS lD rD idle crit sw swe sems hor = false) := may_lev_f hlt (by rw [HV.out]; omega)
              go_wp2_with fail
              go_quiet (fail)
              go_wp2
              go_ret
              exact ⟨congrArg (fun b => Ending.returned (Value.bool b)) (HN.out.symm.trans HR.out), (X.kp.alloc _).trans (kp_drewN _ _)⟩
            · have t3 : decide (e < 0) = false := decide_eq_false g3
              by_cases g4 : 65536 < e
              · have t4 : decide (65536 < e) = true := decide_eq_true g4
                have HN : Hid (mayB lL rL lS rS lD rD idle crit sw swe sems hor = false) := may_lev_f hlt (by rw [HV.out]; omega)
                go_wp2_with fail
                go_quiet (fail)
                go_wp2
                go_ret
                exact ⟨congrArg (fun b => Ending.returned (Value.bool b)) (HN.out.symm.trans HR.out), (X.kp.alloc _).trans (kp_drewN _ _)⟩
              · have t4 : decide (65536 < e) = false := decide_eq_false g4
                have HL2 := HL'.out (by rw [HV.out]; omega)
                have HL3 : Hid (∀ j, j < k + 1 → Lev rL j) := HL2
                clear HL2
                go_wp2_with fail
                go_quiet (fail)
                go_wp2
                go_quiet (fail)
                go_wp2
                go_roundw
                case rel => exact ⟨k + 1, by omega, by go_num, HL3, HT', X.still (((Kp.refl _).alloc _).trans (kp_drewN _ _))⟩
                case measure => simp [intOf]; omega
      · obtain ⟨m, rfl⟩ : ∃ m, k = m + 1 := ⟨k - 1, by omega⟩
        obtain ⟨_, hc'⟩ := fd_in (k := m) h.lev (by omega) X.kp
        have e0 := hc' 0 (by omega)
        have e1 := hc' 1 (by omega)
        clear hc' k0
        simp only [Nat.add_zero] at e0
        have u1 : decide ((0 : Int) < ((m + 1 : Nat) : Int)) = true := decide_eq_true (by omega)
        have u2' : (0 : Int) < (m : Int) + 1 := by omega
        have hx1 : ((m : Int) + 1).toNat = m + 1 := by omega
        have hx2 : (m : Int) + 1 < lL := by omega
        have hx3 : (m : Int) < lL := by omega
        have hx4 : 0 ≤ (m : Int) + 1 := by omega
        have hx5 : IntKind.i64.wrap ((m : Int) + 1 - 1) = m := by rw [wrapI (by omega)]; omega
        have hx6 : IntKind.i64.wrap (m : Int) = m := wrapI (by omega)
        have HP : Hid (1 ≤ fd rL m 0 ∧ fd rL m 0 ≤ 256) := lev_pos HL.out m (by omega)
        have HE : Hid (0 ≤ fd rL m 1 ∧ fd rL m 1 ≤ 65536) := (HL.out m (by omega)).2
        have HV : Hid (Lev rL (m + 1) = ((fd rL m 0 + 1 ≤ fd rL (m + 1) 0 ∧ fd rL (m + 1) 0 ≤ 256) ∧ (0 ≤ fd rL (m + 1) 1 ∧ fd rL (m + 1) 1 ≤ 65536))) := rfl
        have HZ : Hid ((m + 1 : Int) ≤ crit → fd rL m 1 - fd rL m 0 * idle < fd rL (m + 1) 1 - fd rL (m + 1) 0 * idle → mayB lL rL lS rS lD rD idle crit sw swe sems hor = false) := fun q1 q2 => may_slow_f hlt (by omega) (by omega) q2
        have HT' : Hid (((m + 1 : Int) ≤ crit → fd rL (m + 1) 1 - fd rL (m + 1) 0 * idle ≤ fd rL m 1 - fd rL m 0 * idle) → ∀ j, j < m + 1 + 1 → 1 ≤ j → (j : Int) ≤ crit → net rL idle j ≤ net rL idle (j - 1)) := fun q j h1 h2 h3 => by
          by_cases hj' : j < m + 1
          · exact HT.out j hj' h2 h3
          · obtain rfl : j = m + 1 := by omega
            exact q (by omega)
        have HL' : Hid (Lev rL (m + 1) → ∀ j, j < m + 1 + 1 → Lev rL j) := fun q j hj => by
          by_cases hj' : j < m + 1
          · exact HL.out j hj'
          · obtain rfl : j = m + 1 := by omega
            exact q
        generalize fd rL (m + 1) 0 = p at *
        generalize fd rL (m + 1) 1 = e at *
        generalize fd rL m 0 = p0 at *
        generalize fd rL m 1 = e0' at *
        by_cases g1 : p < 1
        · have t1 : decide (p < 1) = true := decide_eq_true g1
          have HN : Hid (mayB lL rL lS rS lD rD idle crit sw swe sems hor = false) := may_lev_f hlt (by rw [HV.out]; have := HP.out; omega)
          go_wp2_with fail
          go_quiet (fail)
          go_wp2
          go_ret
          exact ⟨congrArg (fun b => Ending.returned (Value.bool b)) (HN.out.symm.trans HR.out), (X.kp.alloc _).trans (kp_drewN _ _)⟩
        · have t1 : decide (p < 1) = false := decide_eq_false g1
          by_cases g2 : 256 < p
          · have t2 : decide (256 < p) = true := decide_eq_true g2
            have HN : Hid (mayB lL rL lS rS lD rD idle crit sw swe sems hor = false) := may_lev_f hlt (by rw [HV.out]; have := HP.out; omega)
            go_wp2_with fail
            go_quiet (fail)
            go_wp2
            go_ret
            exact ⟨congrArg (fun b => Ending.returned (Value.bool b)) (HN.out.symm.trans HR.out), (X.kp.alloc _).trans (kp_drewN _ _)⟩
          · have t2 : decide (256 < p) = false := decide_eq_false g2
            by_cases g3 : e < 0
            · have t3 : decide (e < 0) = true := decide_eq_true g3
              have HN : Hid (mayB lL rL lS rS lD rD idle crit sw swe sems hor = false) := may_lev_f hlt (by rw [HV.out]; have := HP.out; omega)
              go_wp2_with fail
              go_quiet (fail)
              go_wp2
              go_ret
              exact ⟨congrArg (fun b => Ending.returned (Value.bool b)) (HN.out.symm.trans HR.out), (X.kp.alloc _).trans (kp_drewN _ _)⟩
            · have t3 : decide (e < 0) = false := decide_eq_false g3
              by_cases g4 : 65536 < e
              · have t4 : decide (65536 < e) = true := decide_eq_true g4
                have HN : Hid (mayB lL rL lS rS lD rD idle crit sw swe sems hor = false) := may_lev_f hlt (by rw [HV.out]; have := HP.out; omega)
                go_wp2_with fail
                go_quiet (fail)
                go_wp2
                go_ret
                exact ⟨congrArg (fun b => Ending.returned (Value.bool b)) (HN.out.symm.trans HR.out), (X.kp.alloc _).trans (kp_drewN _ _)⟩
              · have t4 : decide (65536 < e) = false := decide_eq_false g4
                by_cases g5 : p ≤ p0
                · have t5 : decide (p ≤ p0) = true := decide_eq_true g5
                  have HN : Hid (mayB lL rL lS rS lD rD idle crit sw swe sems hor = false) := may_lev_f hlt (by rw [HV.out]; have := HP.out; omega)
                  go_wp2_with fail
                  go_quiet (fail)
                  go_wp2
                  go_ret
                  exact ⟨congrArg (fun b => Ending.returned (Value.bool b)) (HN.out.symm.trans HR.out), (X.kp.alloc _).trans (kp_drewN _ _)⟩
                · have t5 : decide (p ≤ p0) = false := decide_eq_false g5
                  have HL2 := HL'.out (by rw [HV.out]; omega)
                  have HL3 : Hid (∀ j, j < m + 1 + 1 → Lev rL j) := HL2
                  clear HL2 HL'
                  have m1 := mul_bound (a := p) (b := idle) (A := 256) (B := 65536) (by omega) (by omega) b1 b2
                  have m2 := mul_bound (a := p0) (b := idle) (A := 256) (B := 65536) (by have := HP.out; omega) (by have := HP.out; omega) b1 b2
                  obtain ⟨x1, hx1'⟩ : ∃ x, p * idle = x := ⟨_, rfl⟩
                  obtain ⟨x0, hx0'⟩ : ∃ x, p0 * idle = x := ⟨_, rfl⟩
                  rw [hx1'] at m1 HZ HT'
                  rw [hx0'] at m2 HZ HT'
                  have w1 : IntKind.i64.wrap (p * idle) = x1 := by rw [hx1']; exact wrapI (by omega)
                  have w2 : IntKind.i64.wrap (p0 * idle) = x0 := by rw [hx0']; exact wrapI (by omega)
                  have w3 : IntKind.i64.wrap (e - x1) = e - x1 := wrapI (by omega)
                  have w4 : IntKind.i64.wrap (e0' - x0) = e0' - x0 := wrapI (by have := HE.out; omega)
                  clear hx1' hx0' m1 m2
                  by_cases g6 : (m : Int) + 1 ≤ crit
                  · have t6 : decide ((m : Int) + 1 ≤ crit) = true := decide_eq_true g6
                    by_cases g7 : e0' - x0 < e - x1
                    · have t7 : decide (e0' - x0 < e - x1) = true := decide_eq_true g7
                      have HN : Hid (mayB lL rL lS rS lD rD idle crit sw swe sems hor = false) := HZ.out g6 g7
                      clear HZ HT'
                      go_wp2_with fail
                      go_quiet (fail)
                      go_wp2
                      go_quiet (fail)
                      go_wp2
                      go_ret
                      exact ⟨congrArg (fun b => Ending.returned (Value.bool b)) (HN.out.symm.trans HR.out), ((X.kp.alloc _).trans (kp_drewN _ _)).trans (kp_drewN _ _)⟩
                    · have t7 : decide (e0' - x0 < e - x1) = false := decide_eq_false g7
                      have HT2 := HT'.out (fun _ => by omega)
                      have HT3 : Hid (∀ j, j < m + 1 + 1 → 1 ≤ j → (j : Int) ≤ crit → net rL idle j ≤ net rL idle (j - 1)) := HT2
                      clear HT2 HT' HZ
                      go_wp2_with fail
                      go_quiet (fail)
                      go_wp2
                      go_quiet (fail)
                      go_wp2
                      go_roundw
                      case rel => exact ⟨m + 1 + 1, by omega, by go_num, HL3, HT3, X.still (((Kp.refl _).alloc _).trans (kp_drewN _ _))⟩
                      case measure => simp [intOf]; omega
                  · have t6 : decide ((m : Int) + 1 ≤ crit) = false := decide_eq_false g6
                    have HT2 := HT'.out (fun q => absurd q g6)
                    have HT3 : Hid (∀ j, j < m + 1 + 1 → 1 ≤ j → (j : Int) ≤ crit → net rL idle j ≤ net rL idle (j - 1)) := HT2
                    clear HT2 HT' HZ
                    go_wp2_with fail
                    go_quiet (fail)
                    go_wp2
                    go_quiet (fail)
                    go_wp2
                    go_roundw
                    case rel => exact ⟨m + 1 + 1, by omega, by go_num, HL3, HT3, X.still (((Kp.refl _).alloc _).trans (kp_drewN _ _))⟩
                    case measure => simp [intOf]; omega
    · have hlt' : ¬ (k : Int) < (lL : Int) := by omega
      have HLV : Hid (Levs lL rL) := ⟨⟨a1, a2⟩, fun i hi => HL.out i (by omega)⟩
      have HSL : Hid (Slow lL rL idle crit) := fun i hi h1 h2 => HT.out i (by omega) h1 h2
      clear HL HT
      have d0 := X.d0
      go_wp2_with fail
      clear d0 hlt' hlt
      go_loopw [5] (fun i wr => ∃ n : Nat, n ≤ lS ∧ i = .int .i64 n ∧ Hid (∀ j, j < n → awayB idle (fd rS j 0) (fd rS j 1) (fd rS j 2) (fd rS j 3) (fd rS j 4) (fd rS j 5) = true) ∧ Bx w wr (.slice aL lL cL) (.slice aS lS cS) (.slice aD lD cD) idle crit) (fun i _ => lS - (intOf i).toNat)
      case atStart => exact ⟨0, Nat.zero_le _, rfl, fun j hj => by omega, X⟩
      case round =>
        obtain ⟨n, hn, rfl, HA, Y⟩ := hrel
        clear X
        by_cases hlt : n < lS
        · have hlt' : (n : Int) < (lS : Int) := by omega
          obtain ⟨b, off, rfl, hb, hc⟩ := fd_at h.slp hlt Y.kp
          have c0 := hc 0 (by omega)
          have c1 := hc 1 (by omega)
          have c2 := hc 2 (by omega)
          have c3 := hc 3 (by omega)
          have c4 := hc 4 (by omega)
          have c5 := hc 5 (by omega)
          clear hc
          simp only [Nat.add_zero] at c0
          have d1 := Y.d1
          have d3 := Y.d3
          by_cases g : awayB idle (fd rS n 0) (fd rS n 1) (fd rS n 2) (fd rS n 3) (fd rS n 4) (fd rS n 5) = true
          · have HN : Hid (∀ j, j < n + 1 → awayB idle (fd rS j 0) (fd rS j 1) (fd rS j 2) (fd rS j 3) (fd rS j 4) (fd rS j 5) = true) := fun j hj => by
              by_cases hj' : j < n
              · exact HA.out j hj'
              · obtain rfl : j = n := by omega
                exact g
            go_wp2_with fail
            go_region_held3 (fun w' => w'.cell? ⟨w.heap.size, 1, none⟩ = some (.slice (some ⟨b, off, none⟩) lS cS) ∧ w'.cell? ⟨w.heap.size, 3, none⟩ = some (.int .i64 idle) ∧ w'.cell? ⟨b, off + n * 6, none⟩ = some (.int .i64 (fd rS n 0)) ∧ w'.cell? ⟨b, off + n * 6 + 1, none⟩ = some (.int .i64 (fd rS n 1)) ∧ w'.cell? ⟨b, off + n * 6 + 2, none⟩ = some (.int .i64 (fd rS n 2)) ∧ w'.cell? ⟨b, off + n * 6 + 3, none⟩ = some (.int .i64 (fd rS n 3)) ∧ w'.cell? ⟨b, off + n * 6 + 4, none⟩ = some (.int .i64 (fd rS n 4)) ∧ w'.cell? ⟨b, off + n * 6 + 5, none⟩ = some (.int .i64 (fd rS n 5))) (go_keep) (first
              | (go_at_call 16; refine (refsleep_any _ _ _ _ _ _ _ _).mono ?_; rintro e w3 ⟨rfl, k3⟩; have K3 : Kp wr w3 := (by first | exact (kp_drew _).trans k3 | exact k3); clear k3; have z0 := (K3.cell (p := ⟨w.heap.size, 1, none⟩) Y.sz).trans d1; have z1 := (K3.cell (p := ⟨w.heap.size, 3, none⟩) Y.sz).trans d3; have z2 := (K3.cell (p := ⟨b, off + n * 6, none⟩) hb).trans c0; have z3 := (K3.cell (p := ⟨b, off + n * 6 + 1, none⟩) hb).trans c1; have z4 := (K3.cell (p := ⟨b, off + n * 6 + 2, none⟩) hb).trans c2; have z5 := (K3.cell (p := ⟨b, off + n * 6 + 3, none⟩) hb).trans c3; have z6 := (K3.cell (p := ⟨b, off + n * 6 + 4, none⟩) hb).trans c4; have z7 := (K3.cell (p := ⟨b, off + n * 6 + 5, none⟩) hb).trans c5)
              | fail)
            all_goals
              clear z0 z1 z2 z3 z4 z5 z6 z7
              try rw [g]
              go_wp2
              go_roundw
              case rel => exact ⟨n + 1, by omega, by go_num, HN, Y.still K3⟩
              case measure => simp [intOf]; omega
          · replace g : awayB idle (fd rS n 0) (fd rS n 1) (fd rS n 2) (fd rS n 3) (fd rS n 4) (fd rS n 5) = false := by simpa using g
            have HN : Hid (mayB lL rL lS rS lD rD idle crit sw swe sems hor = false) := may_slp_f hlt g
            go_wp2_with fail
            go_region_held3 (fun w' => w'.cell? ⟨w.heap.size, 1, none⟩ = some (.slice (some ⟨b, off, none⟩) lS cS) ∧ w'.cell? ⟨w.heap.size, 3, none⟩ = some (.int .i64 idle) ∧ w'.cell? ⟨b, off + n * 6, none⟩ = some (.int .i64 (fd rS n 0)) ∧ w'.cell? ⟨b, off + n * 6 + 1, none⟩ = some (.int .i64 (fd rS n 1)) ∧ w'.cell? ⟨b, off + n * 6 + 2, none⟩ = some (.int .i64 (fd rS n 2)) ∧ w'.cell? ⟨b, off + n * 6 + 3, none⟩ = some (.int .i64 (fd rS n 3)) ∧ w'.cell? ⟨b, off + n * 6 + 4, none⟩ = some (.int .i64 (fd rS n 4)) ∧ w'.cell? ⟨b, off + n * 6 + 5, none⟩ = some (.int .i64 (fd rS n 5))) (go_keep) (first
              | (go_at_call 16; refine (refsleep_any _ _ _ _ _ _ _ _).mono ?_; rintro e w3 ⟨rfl, k3⟩; have K3 : Kp wr w3 := (by first | exact (kp_drew _).trans k3 | exact k3); clear k3; have z0 := (K3.cell (p := ⟨w.heap.size, 1, none⟩) Y.sz).trans d1; have z1 := (K3.cell (p := ⟨w.heap.size, 3, none⟩) Y.sz).trans d3; have z2 := (K3.cell (p := ⟨b, off + n * 6, none⟩) hb).trans c0; have z3 := (K3.cell (p := ⟨b, off + n * 6 + 1, none⟩) hb).trans c1; have z4 := (K3.cell (p := ⟨b, off + n * 6 + 2, none⟩) hb).trans c2; have z5 := (K3.cell (p := ⟨b, off + n * 6 + 3, none⟩) hb).trans c3; have z6 := (K3.cell (p := ⟨b, off + n * 6 + 4, none⟩) hb).trans c4; have z7 := (K3.cell (p := ⟨b, off + n * 6 + 5, none⟩) hb).trans c5)
              | fail)
            all_goals
              clear z0 z1 z2 z3 z4 z5 z6 z7
              try rw [g]
              go_wp2
              go_ret
              exact ⟨congrArg (fun b => Ending.returned (Value.bool b)) (HN.out.symm.trans HR.out), Y.kp.trans K3⟩
        · have hlt' : ¬ (n : Int) < (lS : Int) := by omega
          have HSP : Hid (Slps lS rS idle) := ⟨a3, fun i hi => HA.out i (by omega)⟩
          clear HA
          have d1 := Y.d1
          go_wp2_with fail
          clear d1 hlt' hlt
          go_loopw [6] (fun i wr => ∃ q : Nat, q ≤ lD ∧ i = .int .i64 q ∧ Hid (∀ j, j < q → awayB (fd rD j 0) (fd rD j 1) (fd rD j 2) (fd rD j 3) (fd rD j 4) (fd rD j 5) (fd rD j 6) = true) ∧ Bx w wr (.slice aL lL cL) (.slice aS lS cS) (.slice aD lD cD) idle crit) (fun i _ => lD - (intOf i).toNat)
          case atStart => exact ⟨0, Nat.zero_le _, rfl, fun j hj => by omega, Y⟩
          case round =>
            obtain ⟨q, hq, rfl, HA, Z⟩ := hrel
            clear Y
            have d2 := Z.d2
            by_cases hlt : q < lD
            · have hlt' : (q : Int) < (lD : Int) := by omega
              obtain ⟨b, off, rfl, hb, hc⟩ := fd_at h.dvs hlt Z.kp
              have c0 := hc 0 (by omega)
              have c1 := hc 1 (by omega)
              have c2 := hc 2 (by omega)
              have c3 := hc 3 (by omega)
              have c4 := hc 4 (by omega)
              have c5 := hc 5 (by omega)
              have c6 := hc 6 (by omega)
              clear hc
              simp only [Nat.add_zero] at c0
              by_cases g : awayB (fd rD q 0) (fd rD q 1) (fd rD q 2) (fd rD q 3) (fd rD q 4) (fd rD q 5) (fd rD q 6) = true
              · have HN : Hid (∀ j, j < q + 1 → awayB (fd rD j 0) (fd rD j 1) (fd rD j 2) (fd rD j 3) (fd rD j 4) (fd rD j 5) (fd rD j 6) = true) := fun j hj => by
                  by_cases hj' : j < q
                  · exact HA.out j hj'
                  · obtain rfl : j = q := by omega
                    exact g
                go_wp2_with (first
                  | (go_at_call 17; refine (refdevice_any _ _ _ _ _ _ _ _).mono ?_; rintro e w3 ⟨rfl, k3⟩; rw [g])
                  | fail)
                go_roundw
                case rel => exact ⟨q + 1, by omega, by go_num, HN, Z.still k3⟩
                case measure => simp [intOf]; omega
              · replace g : awayB (fd rD q 0) (fd rD q 1) (fd rD q 2) (fd rD q 3) (fd rD q 4) (fd rD q 5) (fd rD q 6) = false := by simpa using g
                have HN : Hid (mayB lL rL lS rS lD rD idle crit sw swe sems hor = false) := may_dev_f hlt g
                go_wp2_with (first
                  | (go_at_call 17; refine (refdevice_any _ _ _ _ _ _ _ _).mono ?_; rintro e w3 ⟨rfl, k3⟩; rw [g])
                  | fail)
                go_ret
                exact ⟨congrArg (fun b => Ending.returned (Value.bool b)) (HN.out.symm.trans HR.out), Z.kp.trans k3⟩
            · have hlt' : ¬ (q : Int) < (lD : Int) := by omega
              have HN : Hid (mayB lL rL lS rS lD rD idle crit sw swe sems hor = true) := mayB_t.2 ⟨HH.out.2.1, HLV.out, HSL.out, HSP.out, a4, fun i hi => HA.out i (by omega)⟩
              clear HA
              go_wp2
              go_ret
              exact ⟨congrArg (fun b => Ending.returned (Value.bool b)) (HN.out.symm.trans HR.out), Z.kp⟩

theorem reftable_any (aL : Option Addr) (lL cL : Nat) (rL : List (List Int)) (aS : Option Addr) (lS cS : Nat) (rS : List (List Int)) (aD : Option Addr) (lD cD : Nat) (rD : List (List Int)) (idle crit sw swe sems hor : Int) (w : World)
    (h : Mach w aL lL rL aS lS rS aD lD rD) :
    Calls Try.prog 7 #[pv aL lL cL aS lS cS aD lD cD idle crit sw swe sems hor] w
      fun e w' => e = .returned (.bool (mayB lL rL lS rS lD rD idle crit sw swe sems hor)) ∧ Kp w w' := by
  by_cases hh : Head lL lS lD idle crit sw swe sems hor
  · exact reftable_loops aL lL cL rL aS lS cS rS aD lD cD rD idle crit sw swe sems hor w h hh
  · rw [may_head hh]
    exact reftable_head aL lL cL aS lS cS aD lD cD idle crit sw swe sems hor w h.nL hh

end Go.Proofs.Ytbhgjaaaffjjeaa.TB
