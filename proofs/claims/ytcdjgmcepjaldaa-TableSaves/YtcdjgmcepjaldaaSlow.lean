/- What slowingPays answers. -/
import Derived.Test.YtcdjgmcepjaldaaDev
import Derived.Deep.RegionHeld3
namespace Go.Proofs.Ytcdjgmcepjaldaa.TB
open Go.ChangeShapes Go.WideShapes Go.ChangeAt Go.RowKit Go.Proofs.Ytcdjgmcepjaldaa.AR

theorem fd_in {w wr : World} {b off len n : Nat} {rows : List (List Int)} {k : Nat} (h : RecAt w n (some ⟨b, off, none⟩) len rows) (hk : k < len) (hb : Kp w wr) :
    b < wr.heap.size ∧ ∀ j, j < n → wr.cell? ⟨b, off + k * n + j, none⟩ = some (.int .i64 (fd rows k j)) := by
  obtain ⟨b', off', e, h1, h2⟩ := fd_at h hk hb
  simp only [Option.some.injEq, Addr.mk.injEq, and_true] at e
  obtain ⟨rfl, rfl⟩ := e
  exact ⟨h1, h2⟩

theorem kp_drew (w : World) : Kp w w.drew := (Kp.refl w).drew

theorem wrapI {x : Int} (h : -9223372036854775808 ≤ x ∧ x ≤ 9223372036854775807) : IntKind.i64.wrap x = x := by rw [IntWalk.i64_left]; exact IntWalk.wrap64_in x h

set_option maxHeartbeats 8000000 in
theorem slowing_any (aL : Option Addr) (lL cL : Nat) (aS : Option Addr) (lS cS : Nat) (aD : Option Addr) (lD cD : Nat) (idle crit sw swe sems hor : Int) (rL : List (List Int)) (w : World) (hr : RecAt w 2 aL lL rL)
    (hlev : ∀ i, i < lL → Lev rL i) (h0 : 0 ≤ idle ∧ idle ≤ 65536) (hcr : 0 ≤ crit ∧ crit ≤ (lL : Int) - 1) (hl : lL ≤ 4) :
    Calls Try.prog 13 #[pv aL lL cL aS lS cS aD lD cD idle crit sw swe sems hor] w
      fun e w' => e = .returned (.bool (slowB lL rL idle crit)) ∧ Kp w w' := by
  obtain ⟨res, hres⟩ : ∃ res, slowB lL rL idle crit = res := ⟨_, rfl⟩
  rw [hres]
  have HR : Hid (slowB lL rL idle crit = res) := hres
  clear hres
  have HV : Hid (∀ i, i < lL → Lev rL i) := hlev
  clear hlev
  unfold pv
  go_enter Try.func13, Try.ntmps13
  go_wp2
  go_loopw [3] (fun i wr => ∃ m : Nat, (m : Int) ≤ crit ∧ i = .int .i64 ((m : Int) + 1) ∧ Hid (∀ j, 1 ≤ j → j ≤ m → net rL idle j ≤ net rL idle (j - 1)) ∧ Kp w wr ∧ w.heap.size < wr.heap.size ∧ wr.cell? ⟨w.heap.size, 0, none⟩ = some (.slice aL lL cL) ∧ wr.cell? ⟨w.heap.size, 3, none⟩ = some (.int .i64 idle) ∧ wr.cell? ⟨w.heap.size, 4, none⟩ = some (.int .i64 crit)) (fun i _ => lL - (intOf i).toNat)
  case atStart => exact ⟨0, hcr.1, rfl, fun j hj hj' => by omega, (Kp.refl _).alloc _, by simp, by simp, by simp, by simp⟩
  case round =>
    obtain ⟨m, hm, rfl, HL, hkp, hsz, d0, d3, d4⟩ := hrel
    by_cases hlt : (m : Int) + 1 ≤ crit
    · obtain ⟨b, off, rfl, hb, hc⟩ := fd_at (k := m + 1) hr (by omega) hkp
      have c0 := hc 0 (by omega)
      have c1 := hc 1 (by omega)
      obtain ⟨_, hc'⟩ := fd_in (k := m) hr (by omega) hkp
      have e0 := hc' 0 (by omega)
      have e1 := hc' 1 (by omega)
      clear hc hc'
      simp only [Nat.add_zero] at c0 e0
      have hx1 : ((m : Int) + 1).toNat = m + 1 := by omega
      have hx2 : (m : Int) + 1 < lL := by omega
      have hx3 : (m : Int) < lL := by omega
      have hx4 : 0 ≤ (m : Int) + 1 := by omega
      have hx5 : IntKind.i64.wrap ((m : Int) + 1 - 1) = m := by rw [wrapI (by omega)]; omega
      have hx6 : IntKind.i64.wrap (m : Int) = m := wrapI (by omega)
      have n1 := net_bound (i := m + 1) HV.out (by omega) h0
      have n2 := net_bound (i := m) HV.out (by omega) h0
      have nb1 : Hid (wrap64 (fd rL (m + 1) 1 - wrap64 (fd rL (m + 1) 0 * idle)) = net rL idle (m + 1)) := n1
      have nb2 : Hid (wrap64 (fd rL m 1 - wrap64 (fd rL m 0 * idle)) = net rL idle m) := n2
      clear n1 n2
      go_wp2_with fail
      go_region_held3 (fun w' => w'.cell? ⟨w.heap.size, 0, none⟩ = some (.slice (some ⟨b, off, none⟩) lL cL) ∧ w'.cell? ⟨w.heap.size, 3, none⟩ = some (.int .i64 idle) ∧ w'.cell? ⟨b, off + (m + 1) * 2, none⟩ = some (.int .i64 (fd rL (m + 1) 0)) ∧ w'.cell? ⟨b, off + (m + 1) * 2 + 1, none⟩ = some (.int .i64 (fd rL (m + 1) 1)) ∧ w'.cell? ⟨b, off + m * 2, none⟩ = some (.int .i64 (fd rL m 0)) ∧ w'.cell? ⟨b, off + m * 2 + 1, none⟩ = some (.int .i64 (fd rL m 1))) (go_keep) (first
        | (go_at_call 19; refine (overIdle_any _ _ _ _).mono ?_; rintro e w3 ⟨rfl, k3⟩; have K3 : Kp wr w3 := (by first | exact (K3.trans (kp_drew _)).trans k3 | exact K3.trans k3 | exact (kp_drew _).trans k3 | exact k3); clear k3; have z0 := (K3.cell (p := ⟨w.heap.size, 0, none⟩) hsz).trans d0; have z1 := (K3.cell (p := ⟨w.heap.size, 3, none⟩) hsz).trans d3; have z2 := (K3.cell (p := ⟨b, off + (m + 1) * 2, none⟩) hb).trans c0; have z3 := (K3.cell (p := ⟨b, off + (m + 1) * 2 + 1, none⟩) hb).trans c1; have z4 := (K3.cell (p := ⟨b, off + m * 2, none⟩) hb).trans e0; have z5 := (K3.cell (p := ⟨b, off + m * 2 + 1, none⟩) hb).trans e1)
        | fail)
      all_goals
        clear z0 z1 z2 z3 z4 z5
        rw [nb1.out, nb2.out]
        by_cases g : net rL idle m < net rL idle (m + 1)
        · have HN : Hid (slowB lL rL idle crit = false) := slowB_f.2 (fun q => by have := q (m + 1) (by omega) (by omega) (by omega); simp only [Nat.add_sub_cancel] at this; omega)
          have g' : decide (net rL idle m < net rL idle (m + 1)) = true := by simpa using g
          rw [g']
          go_wp2
          go_ret
          exact ⟨congrArg (fun b => Ending.returned (Value.bool b)) (HN.out.symm.trans HR.out), hkp.trans K3⟩
        · have g' : decide (net rL idle m < net rL idle (m + 1)) = false := by simpa using g
          have HN : Hid (∀ j, 1 ≤ j → j ≤ m + 1 → net rL idle j ≤ net rL idle (j - 1)) := fun j h1 h2 => by
            by_cases hj : j ≤ m
            · exact HL.out j h1 hj
            · obtain rfl : j = m + 1 := by omega
              simp only [Nat.add_sub_cancel]; omega
          rw [g']
          go_wp2
          go_roundw
          case rel => exact ⟨m + 1, by omega, by go_num, HN, hkp.trans K3, Nat.lt_of_lt_of_le hsz K3.size, by rw [K3.cell (by exact hsz)]; exact d0, by rw [K3.cell (by exact hsz)]; exact d3, by rw [K3.cell (by exact hsz)]; exact d4⟩
          case measure => simp [intOf]; omega
    · have HN : Hid (slowB lL rL idle crit = true) := slowB_t.2 (fun i hi h1 h2 => HL.out i h1 (by omega))
      go_wp2
      go_ret
      exact ⟨congrArg (fun b => Ending.returned (Value.bool b)) (HN.out.symm.trans HR.out), hkp⟩

end Go.Proofs.Ytcdjgmcepjaldaa.TB
