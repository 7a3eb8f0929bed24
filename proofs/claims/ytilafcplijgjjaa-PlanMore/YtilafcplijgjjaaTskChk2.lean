/- Which tasks may be: Check whole, and the document's own. -/
import Derived.Test.YtilafcplijgjjaaTskChk
namespace Go.Proofs.Ytilafcplijgjjaa.TK
open Go.ChangeShapes Go.WideShapes Go.ChangeAt Go.RowKit Go.Proofs.Ytilafcplijgjjaa.AR Go.Proofs.Ytilafcplijgjjaa.TB

/-- what Check answers -/
def ckI (m : Mc) (t : Tk) : Int := bif tkB m t then 0 else 3

/-! ### the document's -/

theorem tmB_t {m : Mc} {t : Tk} : tmB m t = true ↔ (1 ≤ t.p ∧ t.p ≤ m.hor) ∧ (1 ≤ t.c ∧ t.c ≤ 4096) := by simp [tmB, inB]
theorem tkB_tm {m : Mc} {t : Tk} (h : ¬ ((1 ≤ t.p ∧ t.p ≤ m.hor) ∧ (1 ≤ t.c ∧ t.c ≤ 4096))) : tkB m t = false := by
  have : tmB m t = false := by
    cases hq : tmB m t with
    | false => rfl
    | true => exact absurd (tmB_t.1 hq) h
  simp [tkB, this]
theorem tkB_sl {m : Mc} {t : Tk} (h : ¬ (t.sl : Int) ≤ m.sems) : tkB m t = false := by simp [tkB, scB, h]
theorem tkB_sec {m : Mc} {t : Tk} {k : Nat} (hk : k < t.sl) (h : ¬ (0 ≤ t.sz.getD k 0 ∧ t.sz.getD k 0 ≤ t.c)) : tkB m t = false := by
  have : anyB (fun x => !inB x 0 t.c) t.sz t.sl = true := anyB_at (f := fun x => !inB x 0 t.c) hk (by simp only [Bool.not_eq_true']; exact inB_f.2 h)
  simp [tkB, scB, this]
theorem tkB_dev {m : Mc} {t : Tk} (h : ¬ Dv m.lD t.dz t.dl) : tkB m t = false := by
  have := dvB_f.2 h
  simp [tkB, this]
theorem tkB_all {m : Mc} {t : Tk} (h1 : (1 ≤ t.p ∧ t.p ≤ m.hor) ∧ (1 ≤ t.c ∧ t.c ≤ 4096)) (h2 : (t.sl : Int) ≤ m.sems) (h3 : ∀ k, k < t.sl → 0 ≤ t.sz.getD k 0 ∧ t.sz.getD k 0 ≤ t.c) (h4 : Dv m.lD t.dz t.dl) : tkB m t = true := by
  have e1 := tmB_t.2 h1
  have e3 : anyB (fun x => !inB x 0 t.c) t.sz t.sl = false := anyB_f.2 (fun i hi => by simp only [Bool.not_eq_false']; exact inB_t.2 (h3 i hi))
  have e4 := dvB_t.2 h4
  simp [tkB, scB, e1, h2, e3, e4]

set_option maxRecDepth 100000 in
set_option maxHeartbeats 8000000 in
theorem rtask_any (m : Mc) (t : Tk) (w : World) (h : TAt w t) :
    Calls Try.prog 15 #[m.v, t.v] w fun e w' => e = .returned (.bool (tkB m t)) ∧ Kp w w' := by
  obtain ⟨W0, HW, K0, P0, X0⟩ := two_box w m t
  have hsy := h.s.by'
  have hby := h.d.by'
  obtain ⟨res, hres⟩ : ∃ res, tkB m t = res := ⟨_, rfl⟩
  rw [hres]
  have HR : Hid (tkB m t = res) := hres
  clear hres
  have HE : Hid (∀ W, tkB m t = false → Kp W0 W → Ending.returned (Value.bool false) = .returned (.bool res) ∧ Kp w W) := fun W q k => ⟨congrArg (fun b => Ending.returned (Value.bool b)) (q.symm.trans HR.out), K0.trans k⟩
  have HP : Hid (∀ W, Kp W0 W → B9 W w.heap.size m) := fun W k => P0.kp k
  have HX : Hid (∀ W, Kp W0 W → TB4 W (w.heap.size + 1) t) := fun W k => X0.kp k
  unfold Mc.v Tk.v
  obtain ⟨p0, p1, p2, p3, p4, p5, p6, p7, p8⟩ := P0.all
  obtain ⟨x0, x1, x2, x3⟩ := X0.all
  by_cases c1 : t.p < 1
  · have hx : Hid (tkB m t = false) := tkB_tm (by omega)
    go_enter Try.func15, Try.ntmps15
    try dsimp only [List.append]
    go_wp2
    rw [← HW.out]
    go_ret
    exact HE.out _ hx.out (Kp.refl _)
  · by_cases c2 : m.hor < t.p
    · have hx : Hid (tkB m t = false) := tkB_tm (by omega)
      go_enter Try.func15, Try.ntmps15
      try dsimp only [List.append]
      go_wp2
      rw [← HW.out]
      go_ret
      exact HE.out _ hx.out (Kp.refl _)
    · by_cases c3 : t.c < 1
      · have hx : Hid (tkB m t = false) := tkB_tm (by omega)
        go_enter Try.func15, Try.ntmps15
        try dsimp only [List.append]
        go_wp2
        rw [← HW.out]
        go_ret
        exact HE.out _ hx.out (Kp.refl _)
      · by_cases c4 : 4096 < t.c
        · have hx : Hid (tkB m t = false) := tkB_tm (by omega)
          go_enter Try.func15, Try.ntmps15
          try dsimp only [List.append]
          go_wp2
          rw [← HW.out]
          go_ret
          exact HE.out _ hx.out (Kp.refl _)
        · by_cases c5 : m.sems < (t.sl : Int)
          · have hx : Hid (tkB m t = false) := tkB_sl (by omega)
            go_enter Try.func15, Try.ntmps15
            try dsimp only [List.append]
            go_wp2
            rw [← HW.out]
            go_ret
            exact HE.out _ hx.out (Kp.refl _)
          · have H1 : Hid ((1 ≤ t.p ∧ t.p ≤ m.hor) ∧ (1 ≤ t.c ∧ t.c ≤ 4096)) := by refine ⟨⟨?_, ?_⟩, ?_, ?_⟩ <;> omega
            have H2 : Hid ((t.sl : Int) ≤ m.sems) := by have : (t.sl : Int) ≤ m.sems := by omega
                                                        exact this
            go_enter Try.func15, Try.ntmps15
            try dsimp only [List.append]
            go_wp2
            rw [← HW.out]
            clear c1 c2 c3 c4 c5
            go_loopw [5] (fun i wr => ∃ (k : Nat), k ≤ t.sl ∧ i = .int .i64 k ∧ Hid (∀ i, i < k → 0 ≤ t.sz.getD i 0 ∧ t.sz.getD i 0 ≤ t.c) ∧ Kp W0 wr) (fun i _ => t.sl - (intOf i).toNat)
            case atStart => exact ⟨0, Nat.zero_le _, rfl, fun i hi => by omega, Kp.refl _⟩
            case round =>
              obtain ⟨k, hk, rfl, HL, hkp⟩ := hrel
              clear p0 p1 p2 p3 p4 p5 p6 p7 p8 x0 x1 x2 x3
              obtain ⟨x0, x1, x2, x3⟩ := (HX.out _ hkp).all
              by_cases hlt : k < t.sl
              · have hlt' : (k : Int) < (t.sl : Int) := by omega
                obtain ⟨b, off, hsa, hb, hc⟩ := (h.s.kept (K0.trans hkp)).one hlt
                rw [hsa] at x2
                by_cases t1 : t.sz.getD k 0 < 0
                · have hx : Hid (tkB m t = false) := tkB_sec hlt (by omega)
                  have hd : decide (t.sz.getD k 0 < 0) = true := decide_eq_true t1
                  clear HL t1
                  generalize t.sz.getD k 0 = x at *
                  go_wp2_with fail
                  go_quiet (fail)
                  go_wp2
                  go_ret
                  exact HE.out _ hx.out (hkp.trans (tkp_drewN _ _))
                · by_cases t2 : t.c < t.sz.getD k 0
                  · have hx : Hid (tkB m t = false) := tkB_sec hlt (by omega)
                    have hd : decide (t.sz.getD k 0 < 0) = false := decide_eq_false t1
                    have hd2 : decide (t.c < t.sz.getD k 0) = true := decide_eq_true t2
                    clear HL t1 t2
                    generalize t.sz.getD k 0 = x at *
                    go_wp2_with fail
                    go_quiet (fail)
                    go_wp2
                    go_ret
                    exact HE.out _ hx.out (hkp.trans (tkp_drewN _ _))
                  · have HN : Hid (∀ i, i < k + 1 → 0 ≤ t.sz.getD i 0 ∧ t.sz.getD i 0 ≤ t.c) := fun i hi => by
                      by_cases hik : i < k
                      · exact HL.out i hik
                      · obtain rfl : i = k := by omega
                        omega
                    have hd : decide (t.sz.getD k 0 < 0) = false := decide_eq_false t1
                    have hd2 : decide (t.c < t.sz.getD k 0) = false := decide_eq_false t2
                    clear HL t1 t2
                    generalize t.sz.getD k 0 = x at *
                    go_wp2_with fail
                    go_quiet (fail)
                    go_wp2
                    go_roundw
                    case rel => exact ⟨k + 1, by omega, by go_num, HN, hkp.trans (tkp_drewN _ _)⟩
                    case measure => simp [intOf]; omega
              · have hlt' : ¬ (k : Int) < (t.sl : Int) := by omega
                obtain rfl : k = t.sl := by omega
                have H3 := HL
                clear HL
                go_wp2
                go_loopw [6] (fun i wr => ∃ (k : Nat), k ≤ t.dl ∧ i = .int .i64 k ∧ Hid (Dv m.lD t.dz k) ∧ Kp W0 wr) (fun i _ => t.dl - (intOf i).toNat)
                case atStart => exact ⟨0, Nat.zero_le _, rfl, fun i hi => by omega, hkp⟩
                case round =>
                  clear x0 x1 x2 x3
                  obtain ⟨k, hk, rfl, HL, hkp⟩ := hrel
                  obtain ⟨p0, p1, p2, p3, p4, p5, p6, p7, p8⟩ := (HP.out _ hkp).all
                  obtain ⟨x0, x1, x2, x3⟩ := (HX.out _ hkp).all
                  have HG := HL.out.ge
                  clear hlt hlt'
                  by_cases hlt : k < t.dl
                  · have hlt' : (k : Int) < (t.dl : Int) := by omega
                    obtain ⟨b, off, hda, hb, hc⟩ := (h.d.kept (K0.trans hkp)).one hlt
                    rw [hda] at x3
                    by_cases t1 : t.dz.getD k 0 < 0
                    · have hx : Hid (tkB m t = false) := tkB_dev (fun q => by have := q k hlt; omega)
                      have hd : decide (t.dz.getD k 0 < 0) = true := decide_eq_true t1
                      clear HL t1 HG
                      generalize t.dz.getD k 0 = x at *
                      go_wp2_with fail
                      go_quiet (fail)
                      go_wp2
                      go_ret
                      exact HE.out _ hx.out (hkp.trans (tkp_drewN _ _))
                    · have hd : decide (t.dz.getD k 0 < 0) = false := decide_eq_false t1
                      by_cases t2 : (m.lD : Int) ≤ t.dz.getD k 0
                      · have hx : Hid (tkB m t = false) := tkB_dev (fun q => by have := q k hlt; omega)
                        have hd2 : decide ((m.lD : Int) ≤ t.dz.getD k 0) = true := decide_eq_true t2
                        clear HL t1 t2 HG
                        generalize t.dz.getD k 0 = x at *
                        go_wp2_with fail
                        go_quiet (fail)
                        go_wp2
                        go_ret
                        exact HE.out _ hx.out (hkp.trans (tkp_drewN _ _))
                      · have hd2 : decide ((m.lD : Int) ≤ t.dz.getD k 0) = false := decide_eq_false t2
                        by_cases k0 : k = 0
                        · have HN : Hid (Dv m.lD t.dz (k + 1)) := HL.out.more (by subst k0; simp only [ahdD]; omega)
                          have hd3 : decide ((0 : Int) < (k : Int)) = false := decide_eq_false (by omega)
                          have hd4 : decide (0 < k) = false := decide_eq_false (by omega)
                          clear HL t1 t2 HG k0
                          generalize t.dz.getD k 0 = x at *
                          go_wp2_with fail
                          go_quiet (fail)
                          go_wp2
                          go_roundw
                          case rel => exact ⟨k + 1, by omega, by go_num, HN, hkp.trans (tkp_drewN _ _)⟩
                          case measure => simp [intOf]; omega
                        · obtain ⟨j, hj⟩ : ∃ j, k = j + 1 := ⟨k - 1, by omega⟩
                          have hcj : wr.cell? ⟨b, off + j, none⟩ = some (.int .i64 (t.dz.getD j 0)) := by
                            obtain ⟨b', off', hda', hb', hc'⟩ := (h.d.kept (K0.trans hkp)).one (k := j) (by omega)
                            rw [hda] at hda'
                            cases hda'
                            exact hc'
                          have hgt : decide ((0 : Int) < (k : Int)) = true := decide_eq_true (by omega)
                          have hgt' : decide (0 < k) = true := decide_eq_true (by omega)
                          have hs1 : IntKind.i64.wrap ((k : Int) - 1) = (j : Int) := by rw [show (k : Int) - 1 = (j : Int) from by omega]; rw [IntWalk.i64_left]; exact IntWalk.wrap64_in _ (by omega)
                          have hj0 : (0 : Int) ≤ (j : Int) := by omega
                          have hj1 : (j : Int) < (t.dl : Int) := by omega
                          have hj2 : (j : Int).toNat = j := by omega
                          have ha : Hid (ahdD t.dz k = t.dz.getD j 0) := by subst hj; exact rfl
                          by_cases t3 : t.dz.getD k 0 ≤ t.dz.getD j 0
                          · have hx : Hid (tkB m t = false) := tkB_dev (fun q => by have := (q k hlt).1; rw [ha.out] at this; omega)
                            have hd3 : decide (t.dz.getD k 0 ≤ t.dz.getD j 0) = true := decide_eq_true t3
                            clear HL t1 t2 t3 HG ha hj k0
                            generalize t.dz.getD k 0 = x at *
                            generalize t.dz.getD j 0 = y at *
                            go_wp2_with fail
                            go_quiet (fail)
                            go_wp2
                            go_ret
                            exact HE.out _ hx.out (hkp.trans (tkp_drewN _ _))
                          · have HN : Hid (Dv m.lD t.dz (k + 1)) := HL.out.more (by rw [ha.out]; omega)
                            have hd3 : decide (t.dz.getD k 0 ≤ t.dz.getD j 0) = false := decide_eq_false t3
                            clear HL t1 t2 t3 HG ha hj k0
                            generalize t.dz.getD k 0 = x at *
                            generalize t.dz.getD j 0 = y at *
                            go_wp2_with fail
                            go_quiet (fail)
                            go_wp2
                            go_roundw
                            case rel => exact ⟨k + 1, by omega, by go_num, HN, hkp.trans (tkp_drewN _ _)⟩
                            case measure => simp [intOf]; omega
                  · have hlt' : ¬ (k : Int) < (t.dl : Int) := by omega
                    obtain rfl : k = t.dl := by omega
                    have HN : Hid (tkB m t = true) := tkB_all H1.out H2.out H3.out HL.out
                    clear HL HG
                    go_wp2
                    go_ret
                    exact ⟨congrArg (fun b => Ending.returned (Value.bool b)) (HN.out.symm.trans HR.out), K0.trans hkp⟩

end Go.Proofs.Ytilafcplijgjjaa.TK
