/- Up to a later moment there is no less time. -/
import Derived.Test.YtaibpanceiapmaaSlkThs
namespace Go.Proofs.Ytaibpanceiapmaa.SK
open Go.ChangeShapes Go.WideShapes Go.ChangeAt Go.RowKit Go.Proofs.Ytaibpanceiapmaa.AR Go.Proofs.Ytaibpanceiapmaa.TB Go.Proofs.Ytaibpanceiapmaa.TK Go.Proofs.Ytaibpanceiapmaa.JB Go.Proofs.Ytaibpanceiapmaa.FX Go.Proofs.Ytaibpanceiapmaa.AD
open Go.Proofs.Ytaibpanceiapmaa.LK (Hd atH HsAt C3)

set_option maxRecDepth 100000 in
set_option maxHeartbeats 32000000 in
theorem slackRises_walk (v : Vw) (a n : Int) (w : World) (hv0 : VL w v) (_ : I64 v.now) (_ : I64 a) (hn : (Lit.int .u16 n).wf = true) :
    Calls Try.prog 6 #[v.rv a, .int .u16 n] w fun e w' => e = .returned (.bool true) ∧ Below w.heap.size w w' := by
  have HE : Hid (∀ w', Kp w w' → Below w.heap.size w w') := fun w' q => q
  obtain ⟨n0, n1⟩ := su16_in hn
  obtain ⟨W0, HW, K0, P0⟩ := box_noH w v a
  obtain ⟨u, hu⟩ : ∃ u, v.setH none 0 0 [] = u := ⟨_, rfl⟩
  have hv : VL w u := by rw [← hu]; exact hv0.noH
  have hz : u.hl = 0 := by rw [← hu]; rfl
  rw [hu] at P0
  clear hu hn hv0
  have HP : Hid (∀ W, Kp W0 W → B15 W w.heap.size u a) := fun W k => P0.kp k
  have HK : Hid (Kp w W0) := K0
  have HV0 : Hid (VL w u) := hv
  have hty := hv.t.by'
  have hjy := hv.j.by'
  have HG : Hid (Calls Try.prog 9 #[u.rv a] W0 fun e w' => e = .returned (.bool (goodV u a)) ∧ Kp W0 w') := good_any u a W0 (hv.kept K0)
  have HD : Hid (goodV u a = true → VG u ∧ (0 ≤ a ∧ a ≤ 2097152)) := fun q => ⟨(good_vg hv q).1, (good_vg hv q).2.1⟩
  have HAt : Hid (VG u → ∀ W m, (0 ≤ m ∧ m ≤ 2097152) → Kp W0 W → Calls Try.prog 14 #[u.rv a, .int .i64 m] W fun e w' => e = .returned (.int .i64 (atI u m)) ∧ Kp W w') := fun g W m hm q => vat_any u a m W (hv.kept (K0.trans q)) g (by omega)
  have HFi : Hid (VG u → ∀ W ao cap, Kp W0 W → LAt W ao (ths u.T u.tl).length (ths u.T u.tl) → Calls Try.prog 18 #[u.m.v, .slice ao (ths u.T u.tl).length cap] W fun e w' => e = .returned (.bool (fitB u.m (ths u.T u.tl))) ∧ Kp W w') := fun g W ao cap q z => fits_any u.m ao _ cap _ W (hv.m.kept (K0.trans q)) z (ths_gd g)
  have HRi : Hid (VG u → (0 ≤ a ∧ a ≤ 2097152) → ∀ m, a ≤ m → m ≤ 2097152 → (∀ j ∈ u.J, ¬ (a < j.d ∧ j.d ≤ m)) → fitB u.m (ths u.T u.tl) = true → atI u a ≤ atI u m) := fun g ha m h1 h2 h3 h4 => at_rises g hv.h.ln hz ha.1 h1 h2 h3 (of_decide_eq_true h4)
  have wn : IntKind.i64.wrap n = n := wrapI (by omega)
  have wn2 : wrap64 n = n := IntWalk.wrap64_in _ (by omega)
  obtain ⟨m, hm⟩ : ∃ m, wrap64 (a + n) = m := ⟨_, rfl⟩
  have hm2 : IntKind.i64.wrap (a + n) = m := by rw [IntWalk.i64_left]; exact hm
  have HM : Hid ((0 ≤ a ∧ a ≤ 2097152) → m = a + n) := fun ha => by rw [← hm]; exact IntWalk.wrap64_in _ (by omega)
  generalize hgd : goodV u a = gd at *
  clear hv K0 hz hgd
  unfold Vw.rv Mc.v at *
  go_enter Try.func6, Try.ntmps6
  try dsimp only [List.append]
  go_upto_region 2 with fail
  rw [← HW.out]
  clear HW
  obtain ⟨p0, p1, p2, p3, p4, p5, p6, p7, p8, p9, p10, p11, p12, p13, p14⟩ := P0.all
  clear P0
  cases gd with
  | false =>
    go_wp2_with fail
    refine Calls.mono HG.out ?_
    rintro e w1 ⟨rfl, k1⟩
    go_wp2_with fail
    refine (sanswers_any _).mono ?_
    rintro e w2 ⟨rfl, k2⟩
    go_wp2
    go_ret
    exact ⟨rfl, HE.out _ ((HK.out.trans k1).trans k2)⟩
  | true =>
    obtain ⟨d, ha⟩ := HD.out rfl
    have HVG : Hid (VG u) := d
    have HMe : Hid (m = a + n) := HM.out ha
    have HHa : Hid (0 ≤ a ∧ a ≤ 2097152) := ha
    clear HD d HM ha
    by_cases hgt : 2097152 < m
    · go_wp2_with fail
      refine Calls.mono HG.out ?_
      rintro e w1 ⟨rfl, k1⟩
      go_wp2_with fail
      refine (sanswers_any _).mono ?_
      rintro e w2 ⟨rfl, k2⟩
      go_wp2
      go_ret
      exact ⟨rfl, HE.out _ ((HK.out.trans k1).trans k2)⟩
    · go_wp2_with fail
      refine Calls.mono HG.out ?_
      rintro e w1 ⟨rfl, k1⟩
      have HK1 : Hid (Kp W0 w1) := k1
      clear p0 p1 p2 p3 p4 p5 p6 p7 p8 p9 p10 p11 p12 p13 p14 k1 HG
      go_wp2
      go_loopw [6, 7] (fun l i wr => ∃ k : Nat, k ≤ u.tl ∧ i = .int .i64 k ∧ Hid (Th wr w1.heap.size l (ths u.T k)) ∧ Kp w1 wr) (fun _ i _ => u.tl - (intOf i).toNat)
      case atStart => exact ⟨0, Nat.zero_le _, rfl, th_nil _ _, Kp.refl _⟩
      case round =>
        obtain ⟨k, hk, rfl, HT, hkp⟩ := hrel
        have HKr : Hid (Kp w1 wr) := hkp
        have HKr0 : Hid (Kp W0 wr) := HK1.out.trans hkp
        obtain ⟨p0, p1, p2, p3, p4, p5, p6, p7, p8, p9, p10, p11, p12, p13, p14⟩ := (HP.out _ HKr0.out).all
        have hsz := hkp.size
        by_cases hlt : k < u.tl
        · have hlt' : (k : Int) < (u.tl : Int) := by omega
          have k0 : (0 : Int) ≤ (k : Int) := by omega
          have kn : ((k : Int)).toNat = k := by omega
          have HLA : Hid (LAt wr u.ta u.tl u.T) := HV0.out.t.kept (HK.out.trans HKr0.out)
          obtain ⟨b, off, t, e, hb, hg, ht, c0, c1, c2, c3⟩ := HLA.out.one hlt
          have HTy : Hid (TAt w1 t) := (HV0.out.t.kept (HK.out.trans HK1.out)).each t (List.mem_of_getElem? hg)
          have hln := ths_len (T := u.T) k
          have h64 := HVG.out.n
          have HM1 : Hid (0 < t.p → ths u.T (k + 1) = ths u.T k ++ [t]) := fun q => ths_more hg q
          have HM2 : Hid (¬ 0 < t.p → ths u.T (k + 1) = ths u.T k) := fun q => ths_not hg q
          have HTs : Hid (∀ x ∈ ths u.T k, TAt w1 x) := ths_at (HV0.out.t.kept (HK.out.trans HK1.out)) k
          rw [e] at p9
          clear e hg ht hkp
          by_cases hp : 0 < t.p
          · have HM' : Hid (ths u.T (k + 1) = ths u.T k ++ [t]) := HM1.out hp
            clear HM1 HM2
            generalize ths u.T k = L at *
            go_wp2_with (first
              | (at_builtin; refine wpList_append_four _ rfl _ _ 27 42 rfl Try.underlying27 tk_info w1.heap.size u6 L rfl (by exact LK.row_kept ((LK.Step.refl (fun _ => False) _).alloc _) HT.out.row (fun _ _ q => q)) wr.heap.size t rfl (by exact heap_alloc_at wr _) (by omega) (by simp; omega) ?_; intro v3 w3 R3 hg3; have N3 : Hid (Th w3 w1.heap.size v3 (L ++ [t]) ∧ Kp w1 w3) := HT.out.more HKr.out ((Kp.refl _).alloc _) HTy.out HTs.out R3 hg3; clear R3 hg3)
              | fail)
            go_roundw
            case rel => exact ⟨k + 1, by omega, by go_num, by show Th _ _ _ _; rw [HM'.out]; exact N3.out.1, N3.out.2⟩
            case measure => simp [intOf]; omega
          · have HM' : Hid (ths u.T (k + 1) = ths u.T k) := HM2.out hp
            clear HM1 HM2
            go_wp2_with fail
            go_roundw
            case rel => exact ⟨k + 1, by omega, by go_num, by show Th _ _ _ _; rw [HM'.out]; exact HT.out, HKr.out⟩
            case measure => simp [intOf]; omega
        · have hlt' : ¬ (k : Int) < (u.tl : Int) := by omega
          obtain rfl : k = u.tl := by omega
          obtain ⟨ao, cap, rfl, la⟩ := HT.out.lies (Nat.le_trans (ths_len _) HVG.out.n)
          have HLA : Hid (LAt wr ao (ths u.T u.tl).length (ths u.T u.tl)) := la
          obtain ⟨N, hN⟩ : ∃ N, (ths u.T u.tl).length = N := ⟨_, rfl⟩
          have HN0 : Hid ((ths u.T u.tl).length = N) := hN
          rw [hN]
          clear HT la hkp hN
          go_wp2
          clear p0 p1 p2 p3 p4 p5 p6 p7 p8 p9 p10 p11 p12 p13 p14 hsz HKr
          go_loopw [8] (fun i wi => ∃ k : Nat, k ≤ u.jl ∧ i = .int .i64 k ∧ Hid (∀ i y, i < k → u.J[i]? = some y → ¬ (a < y.d ∧ y.d ≤ m)) ∧ Kp wr wi) (fun i _ => u.jl - (intOf i).toNat)
          case atStart => exact ⟨0, Nat.zero_le _, rfl, fun i y hi => by omega, Kp.refl _⟩
          case round =>
            obtain ⟨k, hk, rfl, HL, hki⟩ := hrel
            have HKi : Hid (Kp W0 wr) := HKr0.out.trans hki
            obtain ⟨p0, p1, p2, p3, p4, p5, p6, p7, p8, p9, p10, p11, p12, p13, p14⟩ := (HP.out _ HKi.out).all
            have HLAi : Hid (LAt wr ao (ths u.T u.tl).length (ths u.T u.tl)) := HLA.out.kept hki
            by_cases hlt : k < u.jl
            · have hlt' : (k : Int) < (u.jl : Int) := by omega
              have k0 : (0 : Int) ≤ (k : Int) := by omega
              have kn : ((k : Int)).toNat = k := by omega
              obtain ⟨b, off, j, e, hb, hg, _, c0, c1, c2, c3, c4, c5⟩ := (HV0.out.j.kept (HK.out.trans HKi.out)).one hlt
              rw [e] at p11
              clear e
              have hnext : Hid (¬ (a < j.d ∧ j.d ≤ m) → ∀ i y, i < k + 1 → u.J[i]? = some y → ¬ (a < y.d ∧ y.d ≤ m)) := fun q i y hi hy => by
                by_cases hik : i < k
                · exact HL.out i y hik hy
                · obtain rfl : i = k := by omega
                  rw [hg] at hy; cases hy; exact q
              clear hg HL
              by_cases h1 : a < j.d
              · have d1 : decide (a < j.d) = true := decide_eq_true h1
                by_cases h2 : j.d ≤ m
                · have d2 : decide (j.d ≤ m) = true := decide_eq_true h2
                  clear hnext
                  go_wp2_with fail
                  go_quiet (fail)
                  go_wp2_with fail
                  refine (sanswers_any _).mono ?_
                  rintro e w4 ⟨rfl, k4⟩
                  go_wp2
                  go_ret
                  exact ⟨rfl, HE.out _ (HK.out.trans (HKi.out.trans ((skp_drewN _ _).trans k4)))⟩
                · have d2 : decide (j.d ≤ m) = false := decide_eq_false h2
                  have HN : Hid (∀ i y, i < k + 1 → u.J[i]? = some y → ¬ (a < y.d ∧ y.d ≤ m)) := hnext.out (fun q => h2 q.2)
                  clear hnext
                  go_wp2_with fail
                  go_quiet (fail)
                  go_wp2
                  go_roundw
                  case rel => exact ⟨k + 1, by omega, by go_num, HN, hki.trans (skp_drewN _ _)⟩
                  case measure => simp [intOf]; omega
              · have d1 : decide (a < j.d) = false := decide_eq_false h1
                have HN : Hid (∀ i y, i < k + 1 → u.J[i]? = some y → ¬ (a < y.d ∧ y.d ≤ m)) := hnext.out (fun q => h1 q.1)
                clear hnext
                go_wp2_with fail
                go_quiet (fail)
                go_wp2
                go_roundw
                case rel => exact ⟨k + 1, by omega, by go_num, HN, hki.trans (skp_drewN _ _)⟩
                case measure => simp [intOf]; omega
            · have hlt' : ¬ (k : Int) < (u.jl : Int) := by omega
              obtain rfl : k = u.jl := by omega
              have HNo : Hid (∀ j ∈ u.J, ¬ (a < j.d ∧ j.d ≤ m)) := fun j hj => by
                obtain ⟨i, hi, e⟩ := List.mem_iff_getElem.1 hj
                exact HL.out i j (by have := HV0.out.j.ln; omega) (by rw [List.getElem?_eq_getElem hi, e])
              have HFc := HFi.out HVG.out wr ao cap HKi.out HLAi.out
              have HRs : Hid (fitB u.m (ths u.T u.tl) = true → atI u a ≤ atI u m) := fun q => HRi.out HVG.out HHa.out m (by have := HMe.out; omega) (by omega) HNo.out q
              have HA1 : Hid (∀ W, Kp W0 W → Calls Try.prog 14 #[.agg #[.slice u.m.aL u.m.lL u.m.cL, .slice u.m.aS u.m.lS u.m.cS, .slice u.m.aD u.m.lD u.m.cD, .int .i64 u.m.idle, .int .i64 u.m.crit, .int .i64 u.m.sw, .int .i64 u.m.swe, .int .i64 u.m.sems, .int .i64 u.m.hor, .slice u.ta u.tl u.tc, .slice u.na u.nl u.nc, .slice u.ja u.jl u.jc, .slice u.ha u.hl u.hc, .int .i64 u.now, .int .i64 a], .int .i64 m] W fun e w' => e = .returned (.int .i64 (atI u m)) ∧ Kp W w') := fun W q => HAt.out HVG.out W m (by have := HMe.out; have := HHa.out; omega) q
              have HA2 : Hid (∀ W, Kp W0 W → Calls Try.prog 14 #[.agg #[.slice u.m.aL u.m.lL u.m.cL, .slice u.m.aS u.m.lS u.m.cS, .slice u.m.aD u.m.lD u.m.cD, .int .i64 u.m.idle, .int .i64 u.m.crit, .int .i64 u.m.sw, .int .i64 u.m.swe, .int .i64 u.m.sems, .int .i64 u.m.hor, .slice u.ta u.tl u.tc, .slice u.na u.nl u.nc, .slice u.ja u.jl u.jc, .slice u.ha u.hl u.hc, .int .i64 u.now, .int .i64 a], .int .i64 a] W fun e w' => e = .returned (.int .i64 (atI u a)) ∧ Kp W w') := fun W q => HAt.out HVG.out W a HHa.out q
              rw [HN0.out] at HFc
              have HFc' : Hid _ := HFc
              clear HFc HL HNo HAt HRi HFi
              generalize fitB u.m (ths u.T u.tl) = ft at *
              generalize atI u m = x at *
              generalize atI u a = y at *
              cases ft with
              | false =>
                go_wp2_with fail
                refine Calls.mono HFc'.out ?_
                rintro e w4 ⟨rfl, k4⟩
                go_wp2_with fail
                refine (sanswers_any _).mono ?_
                rintro e w5 ⟨rfl, k5⟩
                go_wp2
                go_ret
                exact ⟨rfl, HE.out _ (HK.out.trans (HKi.out.trans (k4.trans k5)))⟩
              | true =>
                have hle : y ≤ x := HRs.out rfl
                clear HRs
                go_wp2_with fail
                refine Calls.mono HFc'.out ?_
                rintro e w4 ⟨rfl, k4⟩
                have HK4 : Hid (Kp W0 w4) := HKi.out.trans k4
                clear p0 p1 p2 p3 p4 p5 p6 p7 p8 p9 p10 p11 p12 p13 p14 k4 HFc' hki
                obtain ⟨p0, p1, p2, p3, p4, p5, p6, p7, p8, p9, p10, p11, p12, p13, p14⟩ := (HP.out _ HK4.out).all
                go_wp2_with fail
                go_region_held3 (fun w' => w'.cell? ⟨w.heap.size, 0, none⟩ = some (.slice u.m.aL u.m.lL u.m.cL) ∧ w'.cell? ⟨w.heap.size, 1, none⟩ = some (.slice u.m.aS u.m.lS u.m.cS) ∧ w'.cell? ⟨w.heap.size, 2, none⟩ = some (.slice u.m.aD u.m.lD u.m.cD) ∧ w'.cell? ⟨w.heap.size, 3, none⟩ = some (.int .i64 u.m.idle) ∧ w'.cell? ⟨w.heap.size, 4, none⟩ = some (.int .i64 u.m.crit) ∧ w'.cell? ⟨w.heap.size, 5, none⟩ = some (.int .i64 u.m.sw) ∧ w'.cell? ⟨w.heap.size, 6, none⟩ = some (.int .i64 u.m.swe) ∧ w'.cell? ⟨w.heap.size, 7, none⟩ = some (.int .i64 u.m.sems) ∧ w'.cell? ⟨w.heap.size, 8, none⟩ = some (.int .i64 u.m.hor) ∧ w'.cell? ⟨w.heap.size, 9, none⟩ = some (.slice u.ta u.tl u.tc) ∧ w'.cell? ⟨w.heap.size, 10, none⟩ = some (.slice u.na u.nl u.nc) ∧ w'.cell? ⟨w.heap.size, 11, none⟩ = some (.slice u.ja u.jl u.jc) ∧ w'.cell? ⟨w.heap.size, 12, none⟩ = some (.slice u.ha u.hl u.hc) ∧ w'.cell? ⟨w.heap.size, 13, none⟩ = some (.int .i64 u.now) ∧ w'.cell? ⟨w.heap.size, 14, none⟩ = some (.int .i64 a)) (go_keep) (first
                  | (go_at_call 10; refine (sanswers_any _).mono ?_; rintro e w5 ⟨rfl, k5⟩; have K5 : Kp W0 w5 := HK4.out.trans (by first | exact (TB.kp_drew _).trans k5 | exact k5); clear k5; obtain ⟨z0, z1, z2, z3, z4, z5, z6, z7, z8, z9, z10, z11, z12, z13, z14⟩ := (HP.out _ K5).all)
                  | (go_at_call 14; refine (HA1.out _ K5).mono ?_; rintro e w6 ⟨rfl, k6⟩; have K6 := K5.trans k6; clear k6 HA1; obtain ⟨z0, z1, z2, z3, z4, z5, z6, z7, z8, z9, z10, z11, z12, z13, z14⟩ := (HP.out _ K6).all)
                  | (go_at_call 14; refine (HA2.out _ K6).mono ?_; rintro e w7 ⟨rfl, k7⟩; have K7 := K6.trans k7; clear k7; obtain ⟨z0, z1, z2, z3, z4, z5, z6, z7, z8, z9, z10, z11, z12, z13, z14⟩ := (HP.out _ K7).all)
                  | fail)
                all_goals
                  go_wp2
                  go_ret
                  exact ⟨by simp, HE.out _ (HK.out.trans K7)⟩

end Go.Proofs.Ytaibpanceiapmaa.SK
