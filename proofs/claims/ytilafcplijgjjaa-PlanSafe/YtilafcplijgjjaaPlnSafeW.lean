/- Ahead of that moment no task that needs the device has a job, or may have one. -/
import Derived.Test.YtilafcplijgjjaaPlnLaw
import Derived.Deep.CutRange
namespace Go.Proofs.Ytilafcplijgjjaa.PN
open Go.ChangeShapes Go.WideShapes Go.ChangeAt Go.RowKit Go.Proofs.Ytilafcplijgjjaa.AR Go.Proofs.Ytilafcplijgjjaa.TB Go.Proofs.Ytilafcplijgjjaa.TK Go.Proofs.Ytilafcplijgjjaa.JB Go.Proofs.Ytilafcplijgjjaa.FX Go.Proofs.Ytilafcplijgjjaa.AD Go.Proofs.Ytilafcplijgjjaa.SK
open Go.Proofs.Ytilafcplijgjjaa.LK (Hd atH HsAt C3)

set_option maxRecDepth 100000 in
set_option maxHeartbeats 16000000 in
theorem planSafe_walk (v : Vw) (a d : Int) (w : World) (hv : VL w v) (_ : I64 v.now) (_ : I64 a) (_ : (Lit.int .i64 d).wf = true) :
    Calls Try.prog 4 #[v.rv a, .int .i64 d] w fun e w' => e = .returned (.bool true) ∧ Below w.heap.size w w' := by
  have HE : Hid (∀ w', Kp w w' → Below w.heap.size w w') := fun w' q => q
  obtain ⟨W0, HW, K0, P0⟩ := rview_box w v a
  have HP : Hid (∀ W, Kp W0 W → B15 W w.heap.size v a) := fun W k => P0.kp k
  have HK : Hid (Kp w W0) := K0
  have HV0 : Hid (VL w v) := hv
  have hty := hv.t.by'
  have HG : Hid (Calls Try.prog 6 #[v.rv a] W0 fun e w' => e = .returned (.bool (goodV v a)) ∧ Kp W0 w') := good_any v a W0 (hv.kept K0)
  have HD : Hid (goodV v a = true → VG v) := fun g => (good_vg hv g).1
  have HA : Hid (VG v → ∀ W, Kp W0 W → Calls Try.prog 8 #[.slice v.ta v.tl v.tc, .slice v.na v.nl v.nc, .slice v.ja v.jl v.jc, .int .i64 d, .int .i64 v.now] W fun e w' => e = .returned (.int .i64 (untI v d)) ∧ Kp W w') := fun g W q => until_any v d W (ul_of (hv.kept (K0.trans q)) g)
  have HNe : Hid (∀ W (t : Tk), TAt W t → Calls Try.prog 10 #[t.v, .int .i64 d] W fun e w' => e = .returned (.bool (ndB t d)) ∧ Kp W w') := fun W t q => rneeds_any t d W q
  have HJo : Hid (∀ W x j s, (jof v.J x).getD zJ = j → (jof v.J x).isSome = s → Kp w W → Calls Try.prog 11 #[.slice v.ja v.jl v.jc, .int .i64 x] W fun e w' => e = .returned (.tuple #[.agg #[.int .i64 j.t, .int .i64 j.r, .int .i64 j.d, .int .i64 j.l, .int .i64 j.x, .bool j.s], .bool s]) ∧ Kp W w') := fun W x j s h1 h2 q => rof_any _ _ _ _ x W (hv.j.kept q) j s h1 h2
  have HNow : Hid (VG v → v.now ≤ untI v d) := fun g => untI_now g d
  have HJu : Hid (justB v d v.tl = true) := just_end v d
  obtain ⟨un, hun⟩ : ∃ un, untI v d = un := ⟨_, rfl⟩
  have HU : Hid (untI v d = un) := hun
  rw [hun] at HA HNow
  obtain ⟨p0, p1, p2, p3, p4, p5, p6, p7, p8, p9, p10, p11, p12, p13, p14⟩ := P0.all
  generalize goodV v a = gd at *
  unfold Vw.rv Tk.v at *
  clear K0 P0 hv hun
  go_enter Try.func4, Try.ntmps4
  cases gd with
  | false =>
    go_wp2_with fail
    rw [← HW.out]
    refine Calls.mono HG.out ?_
    rintro e w1 ⟨rfl, k1⟩
    go_wp2_with fail
    refine (ganswers_any _).mono ?_
    rintro e w2 ⟨rfl, k2⟩
    go_wp2
    go_ret
    exact ⟨rfl, HE.out _ ((HK.out.trans k1).trans k2)⟩
  | true =>
    have HVG : Hid (VG v) := HD.out rfl
    have HA' : Hid _ := HA.out HVG.out
    have HNow' : Hid (v.now ≤ un) := HNow.out HVG.out
    clear HA HD HNow
    go_wp2_with fail
    rw [← HW.out]
    refine Calls.mono HG.out ?_
    rintro e w1 ⟨rfl, k1⟩
    have HK1 : Hid (Kp W0 w1) := k1
    clear p0 p1 p2 p3 p4 p5 p6 p7 p8 p9 p10 p11 p12 p13 p14 k1 HG HW
    obtain ⟨p0, p1, p2, p3, p4, p5, p6, p7, p8, p9, p10, p11, p12, p13, p14⟩ := (HP.out _ HK1.out).all
    go_wp2_with fail
    refine Calls.mono (HA'.out _ HK1.out) ?_
    rintro e w2 ⟨rfl, k2⟩
    have HK2 : Hid (Kp W0 w2) := HK1.out.trans k2
    clear p0 p1 p2 p3 p4 p5 p6 p7 p8 p9 p10 p11 p12 p13 p14 k2 HA' HK1
    obtain ⟨p0, p1, p2, p3, p4, p5, p6, p7, p8, p9, p10, p11, p12, p13, p14⟩ := (HP.out _ HK2.out).all
    obtain ⟨j0, hj0⟩ : ∃ j0, ((un == 1099511627776) || (un == v.now)) = j0 := ⟨_, rfl⟩
    have HJ0 : Hid (justB v d 0 = j0) := by show _ = _; simp only [justB, HU.out]; exact hj0
    go_upto_region 4 with fail
    go_cut [6] from 25 to 32 (fun c wx => c = .bool j0 ∧ wx = w2)
    case first =>
      cases h1 : (un == 1099511627776) with
      | true =>
        rw [h1, Bool.true_or] at hj0
        subst hj0
        go_wp2
        go_meet
        exact ⟨rfl, rfl⟩
      | false =>
        rw [h1, Bool.false_or] at hj0
        cases h2 : (un == v.now) with
        | true =>
          rw [h2] at hj0
          subst hj0
          go_wp2
          go_meet
          exact ⟨rfl, rfl⟩
        | false =>
          rw [h2] at hj0
          subst hj0
          go_wp2
          go_meet
          exact ⟨rfl, rfl⟩
    case rest =>
      obtain ⟨rfl, hwc⟩ := hcut
      subst hwc
      clear hj0
      go_wp2
      clear p0 p1 p2 p3 p4 p5 p6 p7 p8 p9 p10 p11 p12 p13 p14
      go_loopw [6, 7] (fun c i wr => ∃ (k : Nat) (b : Bool), k ≤ v.tl ∧ i = .int .i64 k ∧ c = .bool b ∧ Hid (justB v d k = b) ∧ Kp W0 wr) (fun _ i _ => v.tl - (intOf i).toNat)
      case atStart => exact ⟨0, _, Nat.zero_le _, rfl, rfl, HJ0.out, HK2.out⟩
      case round =>
        clear HK2 HJ0
        obtain ⟨k, jb, hk, rfl, rfl, HL, hkp⟩ := hrel
        have HKr : Hid (Kp W0 wr) := hkp
        obtain ⟨p0, p1, p2, p3, p4, p5, p6, p7, p8, p9, p10, p11, p12, p13, p14⟩ := (HP.out _ hkp).all
        have hgb : w.heap.size < wr.heap.size := (HP.out _ hkp).lt
        by_cases hlt : k < v.tl
        · have hlt' : (k : Int) < (v.tl : Int) := by omega
          have k0 : (0 : Int) ≤ (k : Int) := by omega
          have kn : ((k : Int)).toNat = k := by omega
          have kq : (k : Int) < (v.nl : Int) := by have := HVG.out.nl; omega
          obtain ⟨b, off, t, e, hb, hg, ht, c0, c1, c2, c3⟩ := (HV0.out.t.kept (HK.out.trans hkp)).one hlt
          have hx : ndX v.T (k : Int) d = ndB t d := ndX_at hg d
          have HNk : Hid (Calls Try.prog 10 #[.agg #[.int .i64 t.p, .int .i64 t.c, .slice t.sa t.sl t.sc, .slice t.da t.dl t.dc], .int .i64 d] wr fun e w' => e = .returned (.bool (ndB t d)) ∧ Kp wr w') := HNe.out wr t ht
          have HQ1 : Hid (ndB t d = true → justB v d (k + 1) = (jb || (coI v k == un)) ∧ un ≤ coI v k ∧ ((jof v.J (k : Int)).isSome = true → un = v.now)) := fun q => ⟨by rw [just_in (hx.trans q), HL.out, HU.out], by rw [← HU.out]; exact untI_le (hx.trans q) hlt, fun z => by rw [← HU.out]; exact untI_has (hx.trans q) z⟩
          have HQ2 : Hid (ndB t d = false → justB v d (k + 1) = jb) := fun q => by rw [just_not (hx.trans q), HL.out]
          generalize ndB t d = nd at *
          rw [e] at p9
          clear e hg ht hx hkp
          cases nd with
          | false =>
            have HT : Hid (justB v d (k + 1) = jb) := HQ2.out rfl
            clear HQ1 HQ2
            go_wp2_with fail
            refine Calls.mono HNk.out ?_
            rintro e w3 ⟨rfl, k3⟩
            go_wp2
            go_roundw
            case rel => exact ⟨k + 1, jb, by omega, by go_num, rfl, HT.out, HKr.out.trans k3⟩
            case measure => simp [intOf]; omega
          | true =>
            obtain ⟨hT1, hT2, hT3⟩ := HQ1.out rfl
            obtain ⟨j, s, hj, hs⟩ : ∃ j s, (jof v.J (k : Int)).getD zJ = j ∧ (jof v.J (k : Int)).isSome = s := ⟨_, _, rfl, rfl⟩
            rw [hs] at hT3
            have HT : Hid (justB v d (k + 1) = (jb || (coI v k == un)) ∧ un ≤ coI v k ∧ (s = true → un = v.now)) := ⟨hT1, hT2, hT3⟩
            have HJk : Hid (∀ W, Kp w W → Calls Try.prog 11 #[.slice v.ja v.jl v.jc, .int .i64 (k : Int)] W fun e w' => e = .returned (.tuple #[.agg #[.int .i64 j.t, .int .i64 j.r, .int .i64 j.d, .int .i64 j.l, .int .i64 j.x, .bool j.s], .bool s]) ∧ Kp W w') := fun W q => HJo.out W _ j s hj hs q
            clear HQ1 HQ2 hT1 hT2 hT3 hj hs
            go_wp2_with fail
            refine Calls.mono HNk.out ?_
            rintro e w3 ⟨rfl, k3⟩
            have HK3 : Hid (Kp W0 w3) := HKr.out.trans k3
            clear p0 p1 p2 p3 p4 p5 p6 p7 p8 p9 p10 p11 p12 p13 p14 k3 c0 c1 c2 c3 hgb HNk
            obtain ⟨p0, p1, p2, p3, p4, p5, p6, p7, p8, p9, p10, p11, p12, p13, p14⟩ := (HP.out _ HK3.out).all
            go_wp2_with fail
            refine Calls.mono (HJk.out _ (HK.out.trans HK3.out)) ?_
            rintro e w4 ⟨rfl, k4⟩
            obtain ⟨U, HUx, KU, TU⟩ := jb_box w4 j
            have HK5 : Hid (Kp W0 U) := HK3.out.trans (k4.trans KU)
            clear p0 p1 p2 p3 p4 p5 p6 p7 p8 p9 p10 p11 p12 p13 p14 KU TU k4 HJk HK3
            go_upto_region 10 with fail
            rw [← HUx.out]
            clear HUx
            obtain ⟨p0, p1, p2, p3, p4, p5, p6, p7, p8, p9, p10, p11, p12, p13, p14⟩ := (HP.out _ HK5.out).all
            obtain ⟨nb, no, e2, hnb, cn⟩ := (HV0.out.n.kept (HK.out.trans HK5.out)).one (show k < v.nl by have := HVG.out.nl; omega)
            rw [e2] at p10
            have HMx : Hid (∀ W, Calls Try.prog 12 #[.int .i64 (v.N.getD k 0), .int .i64 v.now] W fun e w' => e = .returned (.int .i64 (coI v k)) ∧ w' = W) := fun W => (rmax_at _ _ W).mono fun _ _ ⟨h1, h2⟩ => ⟨h1, h2.symm⟩
            generalize v.N.getD k 0 = nx at *
            generalize coI v k = co at *
            clear e2 hnb
            go_wp2_with fail
            go_quiet (first | (go_at_call 12; exact Calls.quiet_of_same (HMx.out _)) | fail)
            generalize hwq : World.drewN U _ = w6
            have HK6 : Hid (Kp W0 w6) := by show Kp _ _; rw [← hwq]; exact HK5.out.trans (skp_drewN _ _)
            clear p0 p1 p2 p3 p4 p5 p6 p7 p8 p9 p10 p11 p12 p13 p14 cn hwq HMx HK5
            obtain ⟨p0, p1, p2, p3, p4, p5, p6, p7, p8, p9, p10, p11, p12, p13, p14⟩ := (HP.out _ HK6.out).all
            obtain ⟨hT1, hT2, hT3⟩ := HT.out
            have HT1 : Hid (justB v d (k + 1) = (jb || (co == un))) := hT1
            have e1 : decide (co < un) = false := decide_eq_false (by omega)
            clear HT hT1 hT2
            cases s with
            | false =>
              clear hT3
              cases jb with
              | true =>
                go_wp2
                go_roundw
                case rel => exact ⟨k + 1, true, by omega, by go_num, rfl, HT1.out, HK6.out⟩
                case measure => simp [intOf]; omega
              | false =>
                go_wp2
                go_roundw
                case rel => exact ⟨k + 1, (co == un), by omega, by go_num, rfl, HT1.out, HK6.out⟩
                case measure => simp [intOf]; omega
            | true =>
              have e2 : (un != v.now) = false := by simp [hT3 rfl]
              have e3 : (un == v.now) = true := by simp [hT3 rfl]
              clear hT3
              cases jb with
              | true =>
                go_wp2
                go_roundw
                case rel => exact ⟨k + 1, true, by omega, by go_num, rfl, HT1.out, HK6.out⟩
                case measure => simp [intOf]; omega
              | false =>
                go_wp2
                go_roundw
                case rel => exact ⟨k + 1, (co == un), by omega, by go_num, rfl, HT1.out, HK6.out⟩
                case measure => simp [intOf]; omega
        · have hlt' : ¬ (k : Int) < (v.tl : Int) := by omega
          obtain rfl : k = v.tl := by omega
          obtain rfl : jb = true := HL.out.symm.trans HJu.out
          have e1 : decide (v.now ≤ un) = true := decide_eq_true HNow'.out
          clear HL hkp
          go_wp2_with fail
          refine (ganswers_any _).mono ?_
          rintro e w3 ⟨rfl, k3⟩
          clear p0 p1 p2 p3 p4 p5 p6 p7 p8 p9 p10 p11 p12 p13 p14
          obtain ⟨p0, p1, p2, p3, p4, p5, p6, p7, p8, p9, p10, p11, p12, p13, p14⟩ := (HP.out _ (HKr.out.trans k3)).all
          go_wp2
          go_ret
          exact ⟨rfl, HE.out _ (HK.out.trans (HKr.out.trans k3))⟩

end Go.Proofs.Ytilafcplijgjjaa.PN
