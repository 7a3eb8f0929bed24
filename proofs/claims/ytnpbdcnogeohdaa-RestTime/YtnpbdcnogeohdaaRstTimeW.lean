/- As long as the CPU is not there, there is time, up to each moment at which a job may have its deadline first. -/
import Derived.Test.YtnpbdcnogeohdaaRstLaw
namespace Go.Proofs.Ytnpbdcnogeohdaa.RS
open Go.ChangeShapes Go.WideShapes Go.ChangeAt Go.RowKit Go.Proofs.Ytnpbdcnogeohdaa.AR Go.Proofs.Ytnpbdcnogeohdaa.TB Go.Proofs.Ytnpbdcnogeohdaa.TK Go.Proofs.Ytnpbdcnogeohdaa.JB Go.Proofs.Ytnpbdcnogeohdaa.FX Go.Proofs.Ytnpbdcnogeohdaa.AD Go.Proofs.Ytnpbdcnogeohdaa.SK
open Go.Proofs.Ytnpbdcnogeohdaa.LK (Hd atH HsAt C3)

set_option maxRecDepth 100000 in
set_option maxHeartbeats 32000000 in
theorem restTime_walk (v : Vw) (a : Int) (w : World) (hv0 : VL w v) (_ : I64 v.now) (_ : I64 a) :
    Calls Try.prog 4 #[v.rv a] w fun e w' => e = .returned (.bool true) ∧ Below w.heap.size w w' := by
  have HE : Hid (∀ w', Kp w w' → Below w.heap.size w w') := fun w' q => q
  obtain ⟨W0, HW, K0, P0⟩ := box_noJ w v a
  obtain ⟨u, hu⟩ : ∃ u, (v.setH none 0 0 []).setJ none 0 0 [] = u := ⟨_, rfl⟩
  have hv : VL w u := by rw [← hu]; exact hv0.noH.noJ
  have hb : Bare u := by rw [← hu]; exact bare_of v
  rw [hu] at P0
  clear hu hv0
  have HP : Hid (∀ W, Kp W0 W → B15 W w.heap.size u a) := fun W k => P0.kp k
  have HK : Hid (Kp w W0) := K0
  have HV0 : Hid (VL w u) := hv
  have hty := hv.t.by'
  have HG : Hid (Calls Try.prog 6 #[u.rv a] W0 fun e w' => e = .returned (.bool (goodV u a)) ∧ Kp W0 w') := rgood_any u a W0 (hv.kept K0) hb
  have HD : Hid (goodV u a = true → VG u) := fun q => (good_vg hv q).1
  have HA : Hid (VG u → ∀ W, Kp W0 W → Calls Try.prog 8 #[u.m.v, .slice u.ta u.tl u.tc, .slice u.na u.nl u.nc, .int .i64 u.now] W fun e w' => e = .returned (.int .i64 (u.now + awI u)) ∧ Kp W w') := fun g W q => pready_any u W (hv.kept (K0.trans q)) g hb
  have HAt : Hid (VG u → ∀ W m, (0 ≤ m ∧ m ≤ 2097152) → Kp W0 W → Calls Try.prog 11 #[u.m.v, .slice u.ta u.tl u.tc, .slice u.na u.nl u.nc, .slice none 0 0, .slice none 0 0, .int .i64 u.now, .int .i64 m] W fun e w' => e = .returned (.int .i64 (atI u m)) ∧ Kp W w') := fun g W m hm q => by
    have y := pat_any u m W (hv.kept (K0.trans q)) g (by omega)
    rw [hb.ja, hb.jl, hb.jc, hb.ha, hb.hl, hb.hc] at y
    exact y
  have HT : Hid (∀ (i : Nat) (t : Tk), u.T[i]? = some t → i < u.tl → 0 < t.p → 0 < awI u → awI u * 4294967296 ≤ atI u (coI u i + t.p)) := fun i t h1 h2 h3 h4 => by
    have e := pk_at h1
    have hn : u.now ≤ coI u i := by unfold coI; exact mx_r _ _
    have hc : ndI u i = coI u i + t.p := by unfold ndI; rw [e]
    rw [← hc]
    exact away_time h2 (by rw [e]; omega) (by rw [hc]; omega) h4
  generalize hgd : goodV u a = gd at *
  clear hv K0 hgd hb
  obtain ⟨p0, p1, p2, p3, p4, p5, p6, p7, p8, p9, p10, p11, p12, p13, p14⟩ := P0.all
  clear P0
  unfold Vw.rv Mc.v at *
  go_enter Try.func4, Try.ntmps4
  try dsimp only [List.append]
  go_upto_region 2 with fail
  rw [← HW.out]
  clear HW
  cases gd with
  | false =>
    go_wp2_with fail
    refine Calls.mono HG.out ?_
    rintro e w1 ⟨rfl, k1⟩
    go_wp2_with fail
    refine (ranswers_any _).mono ?_
    rintro e w2 ⟨rfl, k2⟩
    go_wp2
    go_ret
    exact ⟨rfl, HE.out _ ((HK.out.trans k1).trans k2)⟩
  | true =>
    have HVG : Hid (VG u) := HD.out rfl
    have HA' : Hid _ := HA.out HVG.out
    have HAt' : Hid _ := HAt.out HVG.out
    clear HD HA HAt
    obtain ⟨n0, n1⟩ := awI_bd u
    obtain ⟨q0, q1⟩ := HVG.out.now
    have s1 : IntKind.i64.wrap (u.now + awI u - u.now) = awI u := by rw [wrapI (by omega)]; omega
    have s2 : wrap64 (u.now + awI u - u.now) = awI u := by rw [IntWalk.wrap64_in _ (by omega)]; omega
    have s3 : IntKind.i64.wrap (awI u * 4294967296) = awI u * 4294967296 := wrapI (by omega)
    have s4 : wrap64 (awI u * 4294967296) = awI u * 4294967296 := IntWalk.wrap64_in _ (by omega)
    generalize awI u = n at *
    have m0 : ¬ n < 0 := by omega
    have m1 : ¬ 1024 < n := by omega
    go_wp2_with fail
    refine Calls.mono HG.out ?_
    rintro e w1 ⟨rfl, k1⟩
    have HK1 : Hid (Kp W0 w1) := k1
    clear p0 p1 p2 p3 p4 p5 p6 p7 p8 p9 p10 p11 p12 p13 p14 k1 HG
    obtain ⟨p0, p1, p2, p3, p4, p5, p6, p7, p8, p9, p10, p11, p12, p13, p14⟩ := (HP.out _ HK1.out).all
    go_wp2_with fail
    go_region_held3 (fun w' => w'.cell? ⟨w.heap.size, 0, none⟩ = some (.slice u.m.aL u.m.lL u.m.cL) ∧ w'.cell? ⟨w.heap.size, 1, none⟩ = some (.slice u.m.aS u.m.lS u.m.cS) ∧ w'.cell? ⟨w.heap.size, 2, none⟩ = some (.slice u.m.aD u.m.lD u.m.cD) ∧ w'.cell? ⟨w.heap.size, 3, none⟩ = some (.int .i64 u.m.idle) ∧ w'.cell? ⟨w.heap.size, 4, none⟩ = some (.int .i64 u.m.crit) ∧ w'.cell? ⟨w.heap.size, 5, none⟩ = some (.int .i64 u.m.sw) ∧ w'.cell? ⟨w.heap.size, 6, none⟩ = some (.int .i64 u.m.swe) ∧ w'.cell? ⟨w.heap.size, 7, none⟩ = some (.int .i64 u.m.sems) ∧ w'.cell? ⟨w.heap.size, 8, none⟩ = some (.int .i64 u.m.hor) ∧ w'.cell? ⟨w.heap.size, 9, none⟩ = some (.slice u.ta u.tl u.tc) ∧ w'.cell? ⟨w.heap.size, 10, none⟩ = some (.slice u.na u.nl u.nc) ∧ w'.cell? ⟨w.heap.size, 11, none⟩ = some (.slice u.ja u.jl u.jc) ∧ w'.cell? ⟨w.heap.size, 12, none⟩ = some (.slice u.ha u.hl u.hc) ∧ w'.cell? ⟨w.heap.size, 13, none⟩ = some (.int .i64 u.now) ∧ w'.cell? ⟨w.heap.size, 14, none⟩ = some (.int .i64 a)) (go_keep) (first
      | (go_at_call 8; refine (HA'.out _ ?_).mono ?_; first | exact HK1.out | exact HK1.out.trans (TB.kp_drew _); rintro e w3 ⟨rfl, k3⟩; have K3 : Kp W0 w3 := HK1.out.trans (by first | exact (TB.kp_drew _).trans k3 | exact k3); clear k3; obtain ⟨z0, z1, z2, z3, z4, z5, z6, z7, z8, z9, z10, z11, z12, z13, z14⟩ := (HP.out _ K3).all)
      | fail)
    all_goals
      have HK3 : Hid (Kp W0 w3) := K3
      clear p0 p1 p2 p3 p4 p5 p6 p7 p8 p9 p10 p11 p12 p13 p14 z0 z1 z2 z3 z4 z5 z6 z7 z8 z9 z10 z11 z12 z13 z14 K3 HA' s1 s2
      go_wp2_with fail
      go_loopw [4, 5] (fun i m wr => ∃ k : Nat, k ≤ u.tl ∧ i = .int .i64 k ∧ Kp w3 wr) (fun i _ _ => u.tl - (intOf i).toNat)
      case atStart => exact ⟨0, Nat.zero_le _, rfl, Kp.refl _⟩
      case round =>
        obtain ⟨k, hk, rfl, hkp⟩ := hrel
        have HKr : Hid (Kp w3 wr) := hkp
        have HKr0 : Hid (Kp W0 wr) := HK3.out.trans hkp
        obtain ⟨p0, p1, p2, p3, p4, p5, p6, p7, p8, p9, p10, p11, p12, p13, p14⟩ := (HP.out _ HKr0.out).all
        by_cases hlt : k < u.tl
        · have hlt' : (k : Int) < (u.tl : Int) := by omega
          have k0 : (0 : Int) ≤ (k : Int) := by omega
          have kn : ((k : Int)).toNat = k := by omega
          obtain ⟨b, off, t, e, hb, hg, ht, c0, c1, c2, c3⟩ := (HV0.out.t.kept (HK.out.trans HKr0.out)).one hlt
          obtain ⟨nb, no, e2, hnb, cn⟩ := (HV0.out.n.kept (HK.out.trans HKr0.out)).one (show k < u.nl by have := HVG.out.nl; omega)
          have hlt2 : (k : Int) < (u.nl : Int) := by have := HVG.out.nl; omega
          have hco := coI_bd HVG.out hlt
          have htp := (HVG.out.tk t (List.mem_of_getElem? hg)).2
          have HTp : Hid (0 ≤ t.p ∧ t.p ≤ 16384) := ⟨htp.1, htp.2.1⟩
          have HTT : Hid (0 < t.p → 0 < n → n * 4294967296 ≤ atI u (coI u k + t.p)) := HT.out k t hg hlt
          have HMx : Hid (∀ W, Calls Try.prog 10 #[.int .i64 (u.N.getD k 0), .int .i64 u.now] W fun e w' => e = .returned (.int .i64 (coI u k)) ∧ w' = W) := fun W => (rmax_at _ _ W).mono fun _ _ ⟨h1, h2⟩ => ⟨h1, h2.symm⟩
          have t1 : IntKind.i64.wrap (coI u k + t.p) = coI u k + t.p := wrapI (by omega)
          have t2 : wrap64 (coI u k + t.p) = coI u k + t.p := IntWalk.wrap64_in _ (by omega)
          have HMb : Hid (0 ≤ coI u k + t.p) := by show 0 ≤ _; omega
          have HCl : Hid (∀ W, Kp w3 W → W.cell? ⟨b, off + k * 4, none⟩ = some (.int .i64 t.p)) := fun W q => by
            obtain ⟨b', off', t', e', _, hg', _, c', _⟩ := (HV0.out.t.kept (HK.out.trans (HK3.out.trans q))).one hlt
            rw [e] at e'
            simp only [Option.some.injEq, Addr.mk.injEq, and_true] at e'
            obtain ⟨rfl, rfl⟩ := e'
            rw [hg] at hg'
            simp only [Option.some.injEq] at hg'
            subst hg'
            exact c'
          have HNa : Hid (u.na = some ⟨nb, no, none⟩) := e2
          have HTa : Hid (u.ta = some ⟨b, off, none⟩) := e
          generalize u.N.getD k 0 = nx at *
          generalize coI u k = co at *
          rw [e2] at p10
          rw [e] at p9
          clear e e2 hco htp hnb hkp ht hg
          go_wp2_with fail
          go_quiet (first | (go_at_call 10; exact Calls.quiet_of_same (HMx.out _)) | fail)
          generalize hwq : World.drewN wr _ = w6
          have K46 : Kp wr w6 := by rw [← hwq]; exact skp_drewN _ _
          have HK6 : Hid (Kp w3 w6) := HKr.out.trans K46
          have HK60 : Hid (Kp W0 w6) := HK3.out.trans HK6.out
          clear p0 p1 p2 p3 p4 p5 p6 p7 p8 p9 p10 p11 p12 p13 p14 c0 c1 c2 c3 cn hwq K46 HMx
          obtain ⟨p0, p1, p2, p3, p4, p5, p6, p7, p8, p9, p10, p11, p12, p13, p14⟩ := (HP.out _ HK60.out).all
          have c0 := HCl.out _ HK6.out
          rw [HTa.out] at p9
          have HAc : Hid (∀ W m, (0 ≤ m ∧ m ≤ 2097152) → Kp W0 W → Calls Try.prog 11 #[.agg #[.slice u.m.aL u.m.lL u.m.cL, .slice u.m.aS u.m.lS u.m.cS, .slice u.m.aD u.m.lD u.m.cD, .int .i64 u.m.idle, .int .i64 u.m.crit, .int .i64 u.m.sw, .int .i64 u.m.swe, .int .i64 u.m.sems, .int .i64 u.m.hor], .slice (some ⟨b, off, none⟩) u.tl u.tc, .slice u.na u.nl u.nc, .slice none 0 0, .slice none 0 0, .int .i64 u.now, .int .i64 m] W fun e w' => e = .returned (.int .i64 (atI u m)) ∧ Kp W w') := fun W m h q => by
            have y := HAt'.out W m h q
            rw [HTa.out] at y
            exact y
          by_cases hp : 0 < t.p
          · by_cases hn : 0 < n
            · have hat := HTT.out hp hn
              generalize hM : co + t.p = M at *
              by_cases hm : M ≤ 2097152
              · have HAx : Hid (Calls Try.prog 11 #[.agg #[.slice u.m.aL u.m.lL u.m.cL, .slice u.m.aS u.m.lS u.m.cS, .slice u.m.aD u.m.lD u.m.cD, .int .i64 u.m.idle, .int .i64 u.m.crit, .int .i64 u.m.sw, .int .i64 u.m.swe, .int .i64 u.m.sems, .int .i64 u.m.hor], .slice (some ⟨b, off, none⟩) u.tl u.tc, .slice u.na u.nl u.nc, .slice none 0 0, .slice none 0 0, .int .i64 u.now, .int .i64 M] w6 fun e w' => e = .returned (.int .i64 (atI u M)) ∧ Kp w6 w') := HAc.out _ _ ⟨HMb.out, hm⟩ HK60.out
                generalize atI u M = X at *
                have hx : ¬ X < n * 4294967296 := by omega
                clear HAc HTT hM HT
                go_wp2_with fail
                refine Calls.mono HAx.out ?_
                rintro e w7 ⟨rfl, k7⟩
                have HK7 : Hid (Kp w3 w7) := HK6.out.trans k7
                clear HAx
                go_wp2
                go_roundw
                case rel => exact ⟨k + 1, by omega, by go_num, HK7.out⟩
                case measure => simp [intOf]; omega
              · clear HAc HTT hM HT
                go_wp2_with fail
                go_roundw
                case rel => exact ⟨k + 1, by omega, by go_num, HK6.out⟩
                case measure => simp [intOf]; omega
            · clear HAc HTT HT
              generalize co + t.p = M at *
              go_wp2_with fail
              go_roundw
              case rel => exact ⟨k + 1, by omega, by go_num, HK6.out⟩
              case measure => simp [intOf]; omega
          · clear HAc HTT HT
            generalize co + t.p = M at *
            go_wp2_with fail
            go_roundw
            case rel => exact ⟨k + 1, by omega, by go_num, HK6.out⟩
            case measure => simp [intOf]; omega
        · have hlt' : ¬ (k : Int) < (u.tl : Int) := by omega
          go_wp2_with fail
          refine (ranswers_any _).mono ?_
          rintro e w7 ⟨rfl, k7⟩
          go_wp2
          go_ret
          exact ⟨rfl, HE.out _ (HK.out.trans (HKr0.out.trans k7))⟩

end Go.Proofs.Ytnpbdcnogeohdaa.RS
