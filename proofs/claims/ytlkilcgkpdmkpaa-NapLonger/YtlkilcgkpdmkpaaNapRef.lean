/- The document's Best. -/
import Derived.Test.YtlkilcgkpdmkpaaNapBst
import Derived.Test.YtlkilcgkpdmkpaaSlow
namespace Go.Proofs.Ytlkilcgkpdmkpaa.NP
open Go.ChangeShapes Go.WideShapes Go.ChangeAt Go.RowKit Go.Proofs.Ytlkilcgkpdmkpaa.AR Go.Proofs.Ytlkilcgkpdmkpaa.TB

set_option maxRecDepth 100000 in
set_option maxHeartbeats 8000000 in
theorem rbest_any (aL : Option Addr) (lL cL : Nat) (aS : Option Addr) (lS cS : Nat) (rS : List (List Int)) (aD : Option Addr) (lD cD : Nat) (idle crit sw swe sems hor stay : Int) (w : World) (h : RecAt w 6 aS lS rS) (hl : lS ≤ 9223372036854775807) :
    Calls Try.prog 13 #[pv aL lL cL aS lS cS aD lD cD idle crit sw swe sems hor, .int .i64 stay] w
      fun e w' => e = .returned (.tuple #[.int .i64 ((bst rS stay lS).1 : Nat), .bool (bst rS stay lS).2]) ∧ Kp w w' := by
  have HX := bx_new w (.slice aL lL cL) (.slice aS lS cS) (.slice aD lD cD) idle crit sw swe sems hor
  unfold pv
  obtain ⟨res, hres⟩ : ∃ res, bst rS stay lS = res := ⟨_, rfl⟩
  rw [hres]
  have HR : Hid (bst rS stay lS = res) := hres
  clear hres
  go_enter Try.func13, Try.ntmps13
  try dsimp only [List.append]
  go_wp2_with fail
  go_loopw [6, 7, 8] (fun b f i wr => ∃ (k bb : Nat) (ff : Bool), k ≤ lS ∧ i = .int .i64 k ∧ b = .int .i64 bb ∧ f = .bool ff ∧ Hid (bst rS stay k = (bb, ff)) ∧ Bx w wr (.slice aL lL cL) (.slice aS lS cS) (.slice aD lD cD) idle crit) (fun _ _ i _ => lS - (intOf i).toNat)
  case atStart => exact ⟨0, 0, false, Nat.zero_le _, rfl, rfl, rfl, rfl, HX⟩
  case round =>
    obtain ⟨k, bb, ff, hk, rfl, rfl, rfl, hb, X⟩ := hrel
    have hkp := X.kp
    have hsz := X.sz
    have d1 := X.d1
    clear HX
    by_cases hlt : k < lS
    · have hlt' : (k : Int) < (lS : Int) := by omega
      obtain ⟨b, off, rfl, hbl, hc⟩ := fd_at h hlt hkp
      have c0 := hc 0 (by omega)
      have c1 := hc 1 (by omega)
      have c2 := hc 2 (by omega)
      have c3 := hc 3 (by omega)
      have c4 := hc 4 (by omega)
      have c5 := hc 5 (by omega)
      clear hc
      simp only [Nat.add_zero] at c0
      by_cases g : fd rS k 5 ≤ stay
      · have g1 : decide (fd rS k 5 ≤ stay) = true := decide_eq_true g
        cases ff with
        | false =>
          have HN : Hid (bst rS stay (k + 1) = (k, true)) := bst_first hb.out g
          clear hb
          generalize fd rS k 5 = x5 at *
          go_wp2_with fail
          go_quiet (fail)
          go_wp2
          go_roundw
          case rel => exact ⟨k + 1, k, true, by omega, by go_num, rfl, rfl, HN, X.still (kp_drewN _ _)⟩
          case measure => simp [intOf]; omega
        | true =>
          have hbk := (bst_in hb.out).1
          have hbb : bb < lS := by omega
          have hbb' : (bb : Int) < (lS : Int) := by omega
          obtain ⟨_, hc'⟩ := fd_in (k := bb) h hbb hkp
          have e0 := hc' 0 (by omega)
          have e1 := hc' 1 (by omega)
          have e2 := hc' 2 (by omega)
          have e3 := hc' 3 (by omega)
          have e4 := hc' 4 (by omega)
          have e5 := hc' 5 (by omega)
          clear hc'
          simp only [Nat.add_zero] at e0
          have HT : Hid (ck rS stay k < ck rS stay bb → bst rS stay (k + 1) = (k, true)) := fun q => bst_turn hb.out g q
          have HS : Hid (¬ ck rS stay k < ck rS stay bb → bst rS stay (k + 1) = (bb, true)) := fun q => bst_stay hb.out q
          unfold ck at HT HS
          clear hb hbk hbb hlt
          generalize fd rS k 0 = x0 at *
          generalize fd rS k 1 = x1 at *
          generalize fd rS k 2 = x2 at *
          generalize fd rS k 3 = x3 at *
          generalize fd rS k 4 = x4 at *
          generalize fd rS k 5 = x5 at *
          generalize fd rS bb 0 = y0 at *
          generalize fd rS bb 1 = y1 at *
          generalize fd rS bb 2 = y2 at *
          generalize fd rS bb 3 = y3 at *
          generalize fd rS bb 4 = y4 at *
          generalize fd rS bb 5 = y5 at *
          go_wp2_with fail
          go_region_held3 (fun w' => w'.cell? ⟨w.heap.size, 1, none⟩ = some (.slice (some ⟨b, off, none⟩) lS cS) ∧ w'.cell? ⟨b, off + k * 6, none⟩ = some (.int .i64 x0) ∧ w'.cell? ⟨b, off + k * 6 + 1, none⟩ = some (.int .i64 x1) ∧ w'.cell? ⟨b, off + k * 6 + 2, none⟩ = some (.int .i64 x2) ∧ w'.cell? ⟨b, off + k * 6 + 3, none⟩ = some (.int .i64 x3) ∧ w'.cell? ⟨b, off + k * 6 + 4, none⟩ = some (.int .i64 x4) ∧ w'.cell? ⟨b, off + k * 6 + 5, none⟩ = some (.int .i64 x5) ∧ w'.cell? ⟨b, off + bb * 6, none⟩ = some (.int .i64 y0) ∧ w'.cell? ⟨b, off + bb * 6 + 1, none⟩ = some (.int .i64 y1) ∧ w'.cell? ⟨b, off + bb * 6 + 2, none⟩ = some (.int .i64 y2) ∧ w'.cell? ⟨b, off + bb * 6 + 3, none⟩ = some (.int .i64 y3) ∧ w'.cell? ⟨b, off + bb * 6 + 4, none⟩ = some (.int .i64 y4) ∧ w'.cell? ⟨b, off + bb * 6 + 5, none⟩ = some (.int .i64 y5)) (go_keep) (first
            | (go_at_call 10; refine (rcost_any _ _ _ _ _ _ _ _).mono ?_; rintro e w3 ⟨rfl, k3⟩; have K3 : Kp wr w3 := (by first | exact (K3.trans (TB.kp_drew _)).trans k3 | exact K3.trans k3 | exact (TB.kp_drew _).trans k3 | exact k3); clear k3; have z0 := (K3.cell (p := ⟨w.heap.size, 1, none⟩) hsz).trans d1; have z1 := (K3.cell (p := ⟨b, off + k * 6, none⟩) hbl).trans c0; have z2 := (K3.cell (p := ⟨b, off + k * 6 + 1, none⟩) hbl).trans c1; have z3 := (K3.cell (p := ⟨b, off + k * 6 + 2, none⟩) hbl).trans c2; have z4 := (K3.cell (p := ⟨b, off + k * 6 + 3, none⟩) hbl).trans c3; have z5 := (K3.cell (p := ⟨b, off + k * 6 + 4, none⟩) hbl).trans c4; have z6 := (K3.cell (p := ⟨b, off + k * 6 + 5, none⟩) hbl).trans c5; have z7 := (K3.cell (p := ⟨b, off + bb * 6, none⟩) hbl).trans e0; have z8 := (K3.cell (p := ⟨b, off + bb * 6 + 1, none⟩) hbl).trans e1; have z9 := (K3.cell (p := ⟨b, off + bb * 6 + 2, none⟩) hbl).trans e2; have z10 := (K3.cell (p := ⟨b, off + bb * 6 + 3, none⟩) hbl).trans e3; have z11 := (K3.cell (p := ⟨b, off + bb * 6 + 4, none⟩) hbl).trans e4; have z12 := (K3.cell (p := ⟨b, off + bb * 6 + 5, none⟩) hbl).trans e5)
            | fail)
          all_goals
            clear z0 z1 z2 z3 z4 z5 z6 z7 z8 z9 z10 z11 z12
            by_cases g2 : cw x0 x1 x2 x3 x4 stay < cw y0 y1 y2 y3 y4 stay
            · have HN : Hid (bst rS stay (k + 1) = (k, true)) := HT.out g2
              have g3 : decide (cw x0 x1 x2 x3 x4 stay < cw y0 y1 y2 y3 y4 stay) = true := decide_eq_true g2
              clear HT HS
              try rw [g3]
              go_wp2
              go_roundw
              case rel => exact ⟨k + 1, k, true, by omega, by go_num, rfl, rfl, HN, X.still K3⟩
              case measure => simp [intOf]; omega
            · have HN : Hid (bst rS stay (k + 1) = (bb, true)) := HS.out (by first | exact g2 | omega)
              have g3 : decide (cw x0 x1 x2 x3 x4 stay < cw y0 y1 y2 y3 y4 stay) = false := decide_eq_false g2
              clear HT HS
              try rw [g3]
              go_wp2
              go_roundw
              case rel => exact ⟨k + 1, bb, true, by omega, by go_num, rfl, rfl, HN, X.still K3⟩
              case measure => simp [intOf]; omega
      · have g1 : decide (fd rS k 5 ≤ stay) = false := decide_eq_false g
        have HN : Hid (bst rS stay (k + 1) = (bb, ff)) := bst_late hb.out (by omega)
        clear hb
        generalize fd rS k 5 = x5 at *
        go_wp2_with fail
        go_quiet (fail)
        go_wp2
        go_roundw
        case rel => exact ⟨k + 1, bb, ff, by omega, by go_num, rfl, rfl, HN, X.still (kp_drewN _ _)⟩
        case measure => simp [intOf]; omega
    · have hlt' : ¬ (k : Int) < (lS : Int) := by omega
      obtain rfl : k = lS := by omega
      have HN : Hid ((bb, ff) = res) := hb.out.symm.trans HR.out
      clear hb HR hlt
      go_wp2
      go_ret2
      rw [← HN.out]
      exact ⟨rfl, hkp⟩

end Go.Proofs.Ytlkilcgkpdmkpaa.NP
