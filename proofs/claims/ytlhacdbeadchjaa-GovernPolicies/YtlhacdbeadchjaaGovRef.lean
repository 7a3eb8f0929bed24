/- The document's Fast: walked. -/
import Derived.Test.YtlhacdbeadchjaaGovChs
namespace Go.Proofs.Ytlhacdbeadchjaa.GV
open Go.ChangeShapes Go.WideShapes Go.ChangeAt Go.RowKit Go.Proofs.Ytlhacdbeadchjaa.AR Go.Proofs.Ytlhacdbeadchjaa.TB Go.Proofs.Ytlhacdbeadchjaa.FX

/-- the four kinds of policies -/
theorem pol_ways {m : Mc} (h : 0 ≤ m.crit) (pol st : Int) :
    (pol = 1 ∧ Hid ((lmN m pol st : Int) = mn (mx st 0) m.crit)) ∨ (pol = 3 ∧ Hid ((lmN m pol st : Int) = mn (mx st 0) m.crit)) ∨ (pol = 2 ∧ Hid ((lmN m pol st : Int) = m.crit)) ∨
      (((pol == 1) = false ∧ (pol == 2) = false ∧ (pol == 3) = false) ∧ Hid ((lmN m pol st : Int) = 0)) := by
  have hn := (lmN_le h pol st).1
  by_cases c1 : pol = 1
  · exact .inl ⟨c1, hn.trans (lm_s (.inl c1))⟩
  · by_cases c3 : pol = 3
    · exact .inr (.inl ⟨c3, hn.trans (lm_s (.inr c3))⟩)
    · by_cases c2 : pol = 2
      · exact .inr (.inr (.inl ⟨c2, hn.trans (lm_l c2)⟩))
      · exact .inr (.inr (.inr ⟨⟨by simpa using c1, by simpa using c2, by simpa using c3⟩, hn.trans (lm_o c1 c2 c3)⟩))

/-- how a walk reckons it -/
theorem ex_walk {m : Mc} (hb : Bd m) {lf : Int} (hl : 0 ≤ lf ∧ lf ≤ 8192) {k : Nat} (hk : k < m.lL) (lv : Int) :
    ((k : Int) = lv → wrap64 (lf * (fd m.rL k 0 - fd m.rL 0 0)) = exI m lf lv k) ∧ (¬ (k : Int) = lv → wrap64 (wrap64 (lf * (fd m.rL k 0 - fd m.rL 0 0)) + m.sw) = exI m lf lv k) ∧ IntKind.i64.wrap (fd m.rL k 0 - fd m.rL 0 0) = fd m.rL k 0 - fd m.rL 0 0 := by
  have b1 := ex_bd hb hl hk
  have b2 := hb.lev k hk
  have b3 := hb.lev 0 (by omega)
  have b4 := hb.sw
  exact ⟨fun q => by rw [ex_eq q, IntWalk.wrap64_in _ (by omega)], fun q => by rw [ex_ne q, IntWalk.wrap64_in (lf * _) (by omega), IntWalk.wrap64_in _ (by omega)], wrapI (by omega)⟩

set_option maxRecDepth 100000 in
set_option maxHeartbeats 16000000 in
theorem rfast_any (m : Mc) (pol st lf sl lv : Int) (w : World) (h : m.At w) (hb : Bd m) (hl : 0 ≤ lf ∧ lf ≤ 8192) :
    Calls Try.prog 11 #[m.v, .int .i64 pol, .int .i64 st, .int .i64 lf, .int .i64 sl, .int .i64 lv] w fun e w' => e = .returned (.int .i64 (chI m pol st lf sl lv : Nat)) ∧ Kp w w' := by
  obtain ⟨W0, HW, K0, P0⟩ := one_box w m
  have HP : Hid (∀ W, Kp W0 W → B9 W w.heap.size m) := fun W k => P0.kp k
  have HK : Hid (Kp w W0) := K0
  have HM : Hid (m.At W0) := h.kept K0
  have HB : Hid (Bd m) := hb
  have HMx : Hid (∀ w, Calls Try.prog 13 #[.int .i64 st, .int .i64 0] w fun e w' => e = .returned (.int .i64 (mx st 0)) ∧ w = w') := fun w => rmax_at st 0 w
  have HMn : Hid (∀ w, Calls Try.prog 16 #[.int .i64 (mx st 0), .int .i64 m.crit] w fun e w' => e = .returned (.int .i64 (mn (mx st 0) m.crit)) ∧ w = w') := fun w => rmin_at _ _ w
  have hcr := hb.cr
  have h4 := hb.l4
  have hNc := (lmN_le hcr.1 pol st).2
  have hw := pol_ways hcr.1 pol st
  obtain ⟨res, hres⟩ : ∃ res, chI m pol st lf sl lv = res := ⟨_, rfl⟩
  rw [hres]
  have HR : Hid (best m lf sl lv (lmN m pol st) = res) := hres
  generalize lmN m pol st = n at *
  generalize mn (mx st 0) m.crit = lim0 at *
  generalize mx st 0 = st0 at *
  obtain ⟨p0, p1, p2, p3, p4, p5, p6, p7, p8⟩ := P0.all
  unfold Mc.v at *
  clear hres K0 P0 h hb
  rcases hw with ⟨rfl, HL⟩ | ⟨rfl, HL⟩ | ⟨rfl, HL⟩ | ⟨⟨d1, d2, d3⟩, HL⟩
  all_goals
    go_enter Try.func11, Try.ntmps11
    go_wp2_with fail
    rw [← HW.out]
    clear HW
    try go_region_held3 (fun w' => w'.cell? ⟨w.heap.size, 0, none⟩ = some (.slice m.aL m.lL m.cL) ∧ w'.cell? ⟨w.heap.size, 1, none⟩ = some (.slice m.aS m.lS m.cS) ∧ w'.cell? ⟨w.heap.size, 2, none⟩ = some (.slice m.aD m.lD m.cD) ∧ w'.cell? ⟨w.heap.size, 3, none⟩ = some (.int .i64 m.idle) ∧ w'.cell? ⟨w.heap.size, 4, none⟩ = some (.int .i64 m.crit) ∧ w'.cell? ⟨w.heap.size, 5, none⟩ = some (.int .i64 m.sw) ∧ w'.cell? ⟨w.heap.size, 6, none⟩ = some (.int .i64 m.swe) ∧ w'.cell? ⟨w.heap.size, 7, none⟩ = some (.int .i64 m.sems) ∧ w'.cell? ⟨w.heap.size, 8, none⟩ = some (.int .i64 m.hor)) (go_keep) (first
      | (go_at_call 13; refine Calls.mono (HMx.out _) ?_; rintro e w2 ⟨rfl, rfl⟩)
      | (go_at_call 16; refine Calls.mono (HMn.out _) ?_; rintro e w2 ⟨rfl, rfl⟩)
      | fail)
    clear p0 p1 p2 p3 p4 p5 p6 p7 p8
    go_wp2_with fail
    go_loopw [14, 15, 16] (fun b i q wr => ∃ k : Nat, 1 ≤ k ∧ k ≤ n + 1 ∧ b = .int .i64 (best m lf sl lv (k - 1) : Nat) ∧ i = .int .i64 (k : Nat) ∧ Kp W0 wr) (fun _ i _ _ => n + 1 - (intOf i).toNat)
    case atStart => exact ⟨1, by omega, by omega, rfl, rfl, by first | exact Kp.refl _ | exact TB.kp_drew _⟩
    case round =>
      obtain ⟨k, hk1, hkn, rfl, rfl, hkp⟩ := hrel
      by_cases hlt : (k : Int) ≤ (n : Int)
      · have hkl : k < m.lL := by omega
        have hkn' : k + 1 ≤ n + 1 := by omega
        rw [HL.out] at hlt
        first
          | (exfalso; omega)
          | skip
            obtain ⟨e1, e2, s1⟩ := ex_walk HB.out hl hkl lv
            obtain ⟨b, off, e, hlb, l1, l0⟩ := lev_two (HM.out.kept hkp) hkl
            have HY : Hid ((wh (exI m lf lv k) ≤ sl → best m lf sl lv k = k) ∧ (¬ wh (exI m lf lv k) ≤ sl → best m lf sl lv k = best m lf sl lv (k - 1))) := best_one hk1
            obtain ⟨p0, p1, p2, p3, p4, p5, p6, p7, p8⟩ := (HP.out _ hkp).all
            rw [e] at p0
            have hq1 : ¬ (k : Int) < 0 := by omega
            have hq2 : (k : Int) < (m.lL : Int) := by omega
            have hq3 : (0 : Int) < (m.lL : Int) := by omega
            have hq4 : 0 < m.lL := by omega
            have HZ : Hid (∀ x, best m lf sl lv k = x → best m lf sl lv (k + 1 - 1) = x) := fun _ q => q
            clear e HM HB HP HR HMx HMn
            generalize best m lf sl lv k = bk at *
            generalize best m lf sl lv (k - 1) = bl at *
            generalize exI m lf lv k = ex at *
            generalize fd m.rL k 0 = x at *
            generalize fd m.rL 0 0 = y at *
            by_cases c : (k : Int) = lv
            · have HWh : Hid (∀ w, Calls Try.prog 12 #[.int .i64 (wrap64 (lf * (x - y)))] w fun e w' => e = .returned (.int .i64 (wh ex)) ∧ w = w') := fun w => by rw [e1 c]; exact rwhole_at _ w
              have c' : ((k : Int) != lv) = false := by simpa using c
              clear e1 e2 c
              generalize wh ex = z at *
              by_cases g : z ≤ sl
              · have HN : Hid (best m lf sl lv (k + 1 - 1) = k) := HZ.out _ (HY.out.1 g)
                clear HY HZ
                go_wp2_with fail
                go_region
                all_goals
                  go_wp2_with (first
                    | (go_at_call 12; refine Calls.mono (HWh.out _) ?_; rintro e w3 ⟨rfl, rfl⟩)
                    | fail)
                  go_roundw
                  case rel => exact ⟨k + 1, by omega, hkn', congrArg (fun x : Nat => Value.int .i64 x) HN.out.symm, by go_num, by first | exact hkp | exact hkp.trans (TB.kp_drew _)⟩
                  case measure => simp [intOf]; omega
              · have HN : Hid (best m lf sl lv (k + 1 - 1) = bl) := HZ.out _ (HY.out.2 g)
                clear HY HZ
                go_wp2_with fail
                go_region
                all_goals
                  go_wp2_with (first
                    | (go_at_call 12; refine Calls.mono (HWh.out _) ?_; rintro e w3 ⟨rfl, rfl⟩)
                    | fail)
                  go_roundw
                  case rel => exact ⟨k + 1, by omega, hkn', congrArg (fun x : Nat => Value.int .i64 x) HN.out.symm, by go_num, by first | exact hkp | exact hkp.trans (TB.kp_drew _)⟩
                  case measure => simp [intOf]; omega
            · have HWh : Hid (∀ w, Calls Try.prog 12 #[.int .i64 (wrap64 (wrap64 (lf * (x - y)) + m.sw))] w fun e w' => e = .returned (.int .i64 (wh ex)) ∧ w = w') := fun w => by rw [e2 c]; exact rwhole_at _ w
              have c' : ((k : Int) != lv) = true := by simpa using c
              clear e1 e2 c
              generalize wh ex = z at *
              by_cases g : z ≤ sl
              · have HN : Hid (best m lf sl lv (k + 1 - 1) = k) := HZ.out _ (HY.out.1 g)
                clear HY HZ
                go_wp2_with fail
                go_region
                all_goals
                  go_wp2_with (first
                    | (go_at_call 12; refine Calls.mono (HWh.out _) ?_; rintro e w3 ⟨rfl, rfl⟩)
                    | fail)
                  go_roundw
                  case rel => exact ⟨k + 1, by omega, hkn', congrArg (fun x : Nat => Value.int .i64 x) HN.out.symm, by go_num, by first | exact hkp | exact hkp.trans (TB.kp_drew _)⟩
                  case measure => simp [intOf]; omega
              · have HN : Hid (best m lf sl lv (k + 1 - 1) = bl) := HZ.out _ (HY.out.2 g)
                clear HY HZ
                go_wp2_with fail
                go_region
                all_goals
                  go_wp2_with (first
                    | (go_at_call 12; refine Calls.mono (HWh.out _) ?_; rintro e w3 ⟨rfl, rfl⟩)
                    | fail)
                  go_roundw
                  case rel => exact ⟨k + 1, by omega, hkn', congrArg (fun x : Nat => Value.int .i64 x) HN.out.symm, by go_num, by first | exact hkp | exact hkp.trans (TB.kp_drew _)⟩
                  case measure => simp [intOf]; omega
      · have HN : Hid (best m lf sl lv (k - 1) = res) := by
          obtain rfl : k = n + 1 := by omega
          exact HR.out
        rw [HL.out] at hlt
        clear HM HB HP HR HMx HMn
        go_wp2
        go_ret
        exact ⟨congrArg (fun x : Nat => Ending.returned (Value.int .i64 x)) HN.out, HK.out.trans hkp⟩

end Go.Proofs.Ytlhacdbeadchjaa.GV
