/- Without a job there is time for the longest hold-up. -/
import Derived.Test.YtaibpanceiapmaaSlkThs
namespace Go.Proofs.Ytaibpanceiapmaa.SK
open Go.ChangeShapes Go.WideShapes Go.ChangeAt Go.RowKit Go.Proofs.Ytaibpanceiapmaa.AR Go.Proofs.Ytaibpanceiapmaa.TB Go.Proofs.Ytaibpanceiapmaa.TK Go.Proofs.Ytaibpanceiapmaa.JB Go.Proofs.Ytaibpanceiapmaa.FX Go.Proofs.Ytaibpanceiapmaa.AD
open Go.Proofs.Ytaibpanceiapmaa.LK (Hd atH HsAt C3)

set_option maxRecDepth 100000 in
set_option maxHeartbeats 32000000 in
theorem slackIdle_walk (v : Vw) (a n : Int) (w : World) (hv0 : VL w v) (_ : I64 v.now) (_ : I64 a) (hn : (Lit.int .u8 n).wf = true) :
    Calls Try.prog 7 #[v.rv a, .int .u8 n] w fun e w' => e = .returned (.bool true) ∧ Below w.heap.size w w' := by
  have HE : Hid (∀ w', Kp w w' → Below w.heap.size w w') := fun w' q => q
  obtain ⟨n0, n1⟩ := su8_in hn
  obtain ⟨W0, HW, K0, P0⟩ := box_noJ w v a
  obtain ⟨u, hu⟩ : ∃ u, (v.setH none 0 0 []).setJ none 0 0 [] = u := ⟨_, rfl⟩
  have hv : VL w u := by rw [← hu]; exact hv0.noH.noJ
  have hz : u.hl = 0 := by rw [← hu]; rfl
  have hzj : u.jl = 0 := by rw [← hu]; rfl
  rw [hu] at P0
  clear hu hn hv0
  have HP : Hid (∀ W, Kp W0 W → B15 W w.heap.size u a) := fun W k => P0.kp k
  have HK : Hid (Kp w W0) := K0
  have HV0 : Hid (VL w u) := hv
  have hty := hv.t.by'
  have HG : Hid (Calls Try.prog 9 #[u.rv a] W0 fun e w' => e = .returned (.bool (goodV u a)) ∧ Kp W0 w') := good_any u a W0 (hv.kept K0)
  have HD : Hid (goodV u a = true → VG u) := fun q => (good_vg hv q).1
  have HAt : Hid (VG u → ∀ W m, (0 ≤ m ∧ m ≤ 2097152) → Kp W0 W → Calls Try.prog 14 #[u.rv a, .int .i64 m] W fun e w' => e = .returned (.int .i64 (atI u m)) ∧ Kp W w') := fun g W m hm q => vat_any u a m W (hv.kept (K0.trans q)) g (by omega)
  have HFi : Hid (VG u → ∀ W ao cap, Kp W0 W → LAt W ao (ths u.T u.tl).length (ths u.T u.tl) → Calls Try.prog 18 #[u.m.v, .slice ao (ths u.T u.tl).length cap] W fun e w' => e = .returned (.bool (fitB u.m (ths u.T u.tl))) ∧ Kp W w') := fun g W ao cap q z => fits_any u.m ao _ cap _ W (hv.m.kept (K0.trans q)) z (ths_gd g)
  have HBl : Hid (VG u → ∀ W ao cap p, Kp W0 W → LAt W ao (ths u.T u.tl).length (ths u.T u.tl) → Calls Try.prog 20 #[u.m.v, .slice ao (ths u.T u.tl).length cap, .int .i64 p] W fun e w' => e = .returned (.int .i64 (blk u.m (ths u.T u.tl) p)) ∧ Kp W w') := fun g W ao cap p q z => block_any u.m ao _ cap _ p W (hv.m.kept (K0.trans q)) z g.b (ths_gd g).t
  have HId : Hid (VG u → ∀ (i : Nat) (t : Tk), u.T[i]? = some t → i < u.tl → 0 < t.p → coI u i + t.p ≤ 2097152 → fitB u.m (ths u.T u.tl) = true → blk u.m (ths u.T u.tl) t.p * 4294967296 ≤ atI u (coI u i + t.p) ∧ (0 ≤ blk u.m (ths u.T u.tl) t.p ∧ blk u.m (ths u.T u.tl) t.p ≤ 1048832)) := fun g i t h1 h2 h3 h4 h5 => ⟨at_idle g hv.h.ln hz hzj h1 h2 h3 h4 (of_decide_eq_true h5), blk_bd g.b (ths_gd g).t⟩
  have wn : IntKind.i64.wrap n = n := wrapI (by omega)
  have wn2 : wrap64 n = n := IntWalk.wrap64_in _ (by omega)
  generalize hgd : goodV u a = gd at *
  clear hv K0 hz hzj hgd
  unfold Vw.rv Mc.v at *
  go_enter Try.func7, Try.ntmps7
  try dsimp only [List.append]
  go_upto_region 2 with fail
  rw [← HW.out]
  clear HW
  obtain ⟨p0, p1, p2, p3, p4, p5, p6, p7, p8, p9, p10, p11, p12, p13, p14⟩ := P0.all
  clear P0
  cases gd with
  | false =>
    go_wp2_with fail
    refine Calls.mono HG.out ?_
    rintro e w1 ⟨rfl, k1⟩
    go_wp2_with fail
    refine (sanswers_any _).mono ?_
    rintro e w2 ⟨rfl, k2⟩
    go_wp2
    go_ret
    exact ⟨rfl, HE.out _ ((HK.out.trans k1).trans k2)⟩
  | true =>
    have HVG : Hid (VG u) := HD.out rfl
    clear HD
    by_cases hl0 : u.tl = 0
    · have hl0' : ((u.tl : Int) == 0) = true := by simp [hl0]
      have hl0h : Hid (u.tl = 0) := hl0
      clear hl0
      go_wp2_with fail
      refine Calls.mono HG.out ?_
      rintro e w1 ⟨rfl, k1⟩
      have HK1 : Hid (Kp W0 w1) := k1
      clear p0 p1 p2 p3 p4 p5 p6 p7 p8 p9 p10 p11 p12 p13 p14 k1 HG
      obtain ⟨p0, p1, p2, p3, p4, p5, p6, p7, p8, p9, p10, p11, p12, p13, p14⟩ := (HP.out _ HK1.out).all
      go_wp2_with fail
      refine (sanswers_any _).mono ?_
      rintro e w2 ⟨rfl, k2⟩
      go_wp2
      go_ret
      exact ⟨rfl, HE.out _ ((HK.out.trans HK1.out).trans k2)⟩
    · have hl0' : ((u.tl : Int) == 0) = false := by simpa using hl0
      obtain ⟨x, hx, ex, wx⟩ := smod_of ⟨n0, n1⟩ (show 1 ≤ u.tl by omega)
      clear wx hl0
      go_wp2_with fail
      refine Calls.mono HG.out ?_
      rintro e w1 ⟨rfl, k1⟩
      have HK1 : Hid (Kp W0 w1) := k1
      clear p0 p1 p2 p3 p4 p5 p6 p7 p8 p9 p10 p11 p12 p13 p14 k1 HG
      obtain ⟨p0, p1, p2, p3, p4, p5, p6, p7, p8, p9, p10, p11, p12, p13, p14⟩ := (HP.out _ HK1.out).all
      go_wp2
      clear p0 p1 p2 p3 p4 p5 p6 p7 p8 p9 p10 p11 p12 p13 p14
      go_loopw [5, 6] (fun l i wr => ∃ k : Nat, k ≤ u.tl ∧ i = .int .i64 k ∧ Hid (Th wr w1.heap.size l (ths u.T k)) ∧ Kp w1 wr) (fun _ i _ => u.tl - (intOf i).toNat)
      case atStart => exact ⟨0, Nat.zero_le _, rfl, th_nil _ _, Kp.refl _⟩
      case round =>
        obtain ⟨k, hk, rfl, HT, hkp⟩ := hrel
        have HKr : Hid (Kp w1 wr) := hkp
        have HKr0 : Hid (Kp W0 wr) := HK1.out.trans hkp
        obtain ⟨p0, p1, p2, p3, p4, p5, p6, p7, p8, p9, p10, p11, p12, p13, p14⟩ := (HP.out _ HKr0.out).all
        have hsz := hkp.size
        have hgb : w.heap.size < wr.heap.size := (HP.out _ HKr0.out).lt
        have HLA0 : Hid (LAt wr u.ta u.tl u.T) := HV0.out.t.kept (HK.out.trans HKr0.out)
        by_cases hlt : k < u.tl
        · have hlt' : (k : Int) < (u.tl : Int) := by omega
          have k0 : (0 : Int) ≤ (k : Int) := by omega
          have kn : ((k : Int)).toNat = k := by omega
          obtain ⟨b, off, t, e, hb, hg, ht, c0, c1, c2, c3⟩ := HLA0.out.one hlt
          have HTy : Hid (TAt w1 t) := (HV0.out.t.kept (HK.out.trans HK1.out)).each t (List.mem_of_getElem? hg)
          have hln := ths_len (T := u.T) k
          have h64 := HVG.out.n
          have HM1 : Hid (0 < t.p → ths u.T (k + 1) = ths u.T k ++ [t]) := fun q => ths_more hg q
          have HM2 : Hid (¬ 0 < t.p → ths u.T (k + 1) = ths u.T k) := fun q => ths_not hg q
          have HTs : Hid (∀ x ∈ ths u.T k, TAt w1 x) := ths_at (HV0.out.t.kept (HK.out.trans HK1.out)) k
          rw [e] at p9
          clear e hg ht hkp ex
          by_cases hp : 0 < t.p
          · have HM' : Hid (ths u.T (k + 1) = ths u.T k ++ [t]) := HM1.out hp
            clear HM1 HM2
            generalize ths u.T k = L at *
            go_wp2_with (first
              | (at_builtin; refine wpList_append_four _ rfl _ _ 27 42 rfl Try.underlying27 tk_info w1.heap.size u5 L rfl (by exact LK.row_kept ((LK.Step.refl (fun _ => False) _).alloc _) HT.out.row (fun _ _ q => q)) wr.heap.size t rfl (by exact heap_alloc_at wr _) (by omega) (by simp; omega) ?_; intro v3 w3 R3 hg3; have N3 : Hid (Th w3 w1.heap.size v3 (L ++ [t]) ∧ Kp w1 w3) := HT.out.more HKr.out ((Kp.refl _).alloc _) HTy.out HTs.out R3 hg3; clear R3 hg3)
              | fail)
            go_roundw
            case rel => exact ⟨k + 1, by omega, by go_num, by show Th _ _ _ _; rw [HM'.out]; exact N3.out.1, N3.out.2⟩
            case measure => simp [intOf]; omega
          · have HM' : Hid (ths u.T (k + 1) = ths u.T k) := HM2.out hp
            clear HM1 HM2
            go_wp2_with fail
            go_roundw
            case rel => exact ⟨k + 1, by omega, by go_num, by show Th _ _ _ _; rw [HM'.out]; exact HT.out, HKr.out⟩
            case measure => simp [intOf]; omega
        · have hlt' : ¬ (k : Int) < (u.tl : Int) := by omega
          obtain rfl : k = u.tl := by omega
          obtain ⟨ao, cap, rfl, la⟩ := HT.out.lies (Nat.le_trans (ths_len _) HVG.out.n)
          have HLA : Hid (LAt wr ao (ths u.T u.tl).length (ths u.T u.tl)) := la
          obtain ⟨N, hN⟩ : ∃ N, (ths u.T u.tl).length = N := ⟨_, rfl⟩
          have HN0 : Hid ((ths u.T u.tl).length = N) := hN
          rw [hN]
          have x0 : (0 : Int) ≤ (x : Int) := by omega
          have xl : (x : Int) < (u.tl : Int) := by omega
          have xn : ((x : Int)).toNat = x := by omega
          obtain ⟨b, off, t, e, hb, hg, ht, c0, c1, c2, c3⟩ := HLA0.out.one hx
          obtain ⟨V, HV, KV, TV⟩ := tk_box wr t
          have HTV : Hid (∀ W, Kp V W → W.cell? ⟨wr.heap.size, 0, none⟩ = some (.int .i64 t.p) ∧ W.cell? ⟨wr.heap.size, 1, none⟩ = some (.int .i64 t.c) ∧ W.cell? ⟨wr.heap.size, 2, none⟩ = some (.slice t.sa t.sl t.sc) ∧ W.cell? ⟨wr.heap.size, 3, none⟩ = some (.slice t.da t.dl t.dc)) := TV
          have HKV : Hid (Kp W0 V) := HKr0.out.trans KV
          have HLV : Hid (LAt V ao (ths u.T u.tl).length (ths u.T u.tl)) := HLA.out.kept KV
          have HTg : Hid (u.T[x]? = some t) := hg
          have htp := (HVG.out.tk t (List.mem_of_getElem? hg)).2
          have HTp : Hid (0 ≤ t.p ∧ t.p ≤ 16384) := ⟨htp.1, htp.2.1⟩
          have HFc := HFi.out HVG.out V ao cap HKV.out HLV.out
          rw [HN0.out] at HFc
          have HFc' : Hid _ := HFc
          rw [e] at p9
          clear HFc HT la hkp hN e hg ht KV TV htp
          cases hp : t.p == 0 with
          | true =>
            go_wp2_with fail
            rw [← HV.out]
            refine (sanswers_any _).mono ?_
            rintro e w5 ⟨rfl, k5⟩
            go_wp2
            go_ret
            exact ⟨rfl, HE.out _ (HK.out.trans (HKV.out.trans k5))⟩
          | false =>
            have HPos : Hid (0 < t.p) := by
              have h1 : t.p ≠ 0 := by simpa using hp
              have h2 := HTp.out.1
              show 0 < t.p
              omega
            have HIdx := fun q1 q2 => HId.out HVG.out x t HTg.out hx HPos.out q1 q2
            have HId' : Hid _ := HIdx
            clear HIdx HId HFi
            generalize fitB u.m (ths u.T u.tl) = ft at *
            cases ft with
            | false =>
              go_wp2_with fail
              rw [← HV.out]
              refine Calls.mono HFc'.out ?_
              rintro e w4 ⟨rfl, k4⟩
              go_wp2_with fail
              refine (sanswers_any _).mono ?_
              rintro e w5 ⟨rfl, k5⟩
              go_wp2
              go_ret
              exact ⟨rfl, HE.out _ (HK.out.trans (HKV.out.trans (k4.trans k5)))⟩
            | true =>
              go_wp2_with fail
              rw [← HV.out]
              refine Calls.mono HFc'.out ?_
              rintro e w4 ⟨rfl, k4⟩
              have HK4 : Hid (Kp V w4) := k4
              have HK40 : Hid (Kp W0 w4) := HKV.out.trans k4
              clear p0 p1 p2 p3 p4 p5 p6 p7 p8 p9 p10 p11 p12 p13 p14 c0 c1 c2 c3 HV HFc' k4 hsz
              obtain ⟨p0, p1, p2, p3, p4, p5, p6, p7, p8, p9, p10, p11, p12, p13, p14⟩ := (HP.out _ HK40.out).all
              obtain ⟨y0, y1, y2, y3⟩ := HTV.out _ HK4.out
              obtain ⟨nb, no, e2, hnb, cn⟩ := (HV0.out.n.kept (HK.out.trans HK40.out)).one (show x < u.nl by have := HVG.out.nl; omega)
              have xl2 : (x : Int) < (u.nl : Int) := by have := HVG.out.nl; omega
              have hco := coI_bd HVG.out hx
              have htp := HTp.out
              have HMx : Hid (∀ W, Calls Try.prog 19 #[.int .i64 (u.N.getD x 0), .int .i64 u.now] W fun e w' => e = .returned (.int .i64 (coI u x)) ∧ w' = W) := fun W => (rmax_at _ _ W).mono fun _ _ ⟨h1, h2⟩ => ⟨h1, h2.symm⟩
              have s1 : IntKind.i64.wrap (coI u x + t.p) = coI u x + t.p := wrapI (by omega)
              have s2 : wrap64 (coI u x + t.p) = coI u x + t.p := IntWalk.wrap64_in _ (by omega)
              have HMb : Hid (0 ≤ coI u x + t.p) := by show 0 ≤ _; omega
              rw [e2] at p10
              generalize u.N.getD x 0 = nx at *
              generalize coI u x = co at *
              clear e2 hco htp hnb
              go_wp2_with fail
              go_quiet (first | (go_at_call 19; exact Calls.quiet_of_same (HMx.out _)) | fail)
              generalize hwq : World.drewN w4 _ = w6
              have K46 : Kp w4 w6 := by rw [← hwq]; exact skp_drewN _ _
              have HK6 : Hid (Kp V w6) := HK4.out.trans K46
              have HK60 : Hid (Kp W0 w6) := HKV.out.trans HK6.out
              clear p0 p1 p2 p3 p4 p5 p6 p7 p8 p9 p10 p11 p12 p13 p14 y0 y1 y2 y3 cn hwq K46 HMx
              by_cases hgt : 2097152 < co + t.p
              · obtain ⟨p0, p1, p2, p3, p4, p5, p6, p7, p8, p9, p10, p11, p12, p13, p14⟩ := (HP.out _ HK60.out).all
                go_wp2_with fail
                refine (sanswers_any _).mono ?_
                rintro e w7 ⟨rfl, k7⟩
                go_wp2
                go_ret
                exact ⟨rfl, HE.out _ (HK.out.trans (HK60.out.trans k7))⟩
              · obtain ⟨hle, hbb⟩ := HId'.out (by omega) (by first | rfl | trivial)
                have HA1 : Hid (∀ W, Kp W0 W → Calls Try.prog 14 #[.agg #[.slice u.m.aL u.m.lL u.m.cL, .slice u.m.aS u.m.lS u.m.cS, .slice u.m.aD u.m.lD u.m.cD, .int .i64 u.m.idle, .int .i64 u.m.crit, .int .i64 u.m.sw, .int .i64 u.m.swe, .int .i64 u.m.sems, .int .i64 u.m.hor, .slice u.ta u.tl u.tc, .slice u.na u.nl u.nc, .slice u.ja u.jl u.jc, .slice u.ha u.hl u.hc, .int .i64 u.now, .int .i64 a], .int .i64 (co + t.p)] W fun e w' => e = .returned (.int .i64 (atI u (co + t.p))) ∧ Kp W w') := fun W q => HAt.out HVG.out W (co + t.p) (by have := HMb.out; omega) q
                have HB1 : Hid (∀ W, Kp V W → Calls Try.prog 20 #[.agg #[.slice u.m.aL u.m.lL u.m.cL, .slice u.m.aS u.m.lS u.m.cS, .slice u.m.aD u.m.lD u.m.cD, .int .i64 u.m.idle, .int .i64 u.m.crit, .int .i64 u.m.sw, .int .i64 u.m.swe, .int .i64 u.m.sems, .int .i64 u.m.hor], .slice ao N cap, .int .i64 t.p] W fun e w' => e = .returned (.int .i64 (blk u.m (ths u.T u.tl) t.p)) ∧ Kp W w') := fun W q => by
                  have y := HBl.out HVG.out W ao cap t.p (HKV.out.trans q) (HLV.out.kept q)
                  rw [HN0.out] at y
                  exact y
                obtain ⟨p0, p1, p2, p3, p4, p5, p6, p7, p8, p9, p10, p11, p12, p13, p14⟩ := (HP.out _ HK60.out).all
                obtain ⟨y0, y1, y2, y3⟩ := HTV.out _ HK6.out
                clear HAt HBl HId'
                generalize blk u.m (ths u.T u.tl) t.p = B at *
                generalize atI u (co + t.p) = X at *
                have s3 : IntKind.i64.wrap (B * 4294967296) = B * 4294967296 := wrapI (by omega)
                generalize hM : co + t.p = M at *
                clear hM s1 s2
                go_wp2_with fail
                go_region_held3 (fun w' => w'.cell? ⟨w.heap.size, 0, none⟩ = some (.slice u.m.aL u.m.lL u.m.cL) ∧ w'.cell? ⟨w.heap.size, 1, none⟩ = some (.slice u.m.aS u.m.lS u.m.cS) ∧ w'.cell? ⟨w.heap.size, 2, none⟩ = some (.slice u.m.aD u.m.lD u.m.cD) ∧ w'.cell? ⟨w.heap.size, 3, none⟩ = some (.int .i64 u.m.idle) ∧ w'.cell? ⟨w.heap.size, 4, none⟩ = some (.int .i64 u.m.crit) ∧ w'.cell? ⟨w.heap.size, 5, none⟩ = some (.int .i64 u.m.sw) ∧ w'.cell? ⟨w.heap.size, 6, none⟩ = some (.int .i64 u.m.swe) ∧ w'.cell? ⟨w.heap.size, 7, none⟩ = some (.int .i64 u.m.sems) ∧ w'.cell? ⟨w.heap.size, 8, none⟩ = some (.int .i64 u.m.hor) ∧ w'.cell? ⟨w.heap.size, 9, none⟩ = some (.slice u.ta u.tl u.tc) ∧ w'.cell? ⟨w.heap.size, 10, none⟩ = some (.slice u.na u.nl u.nc) ∧ w'.cell? ⟨w.heap.size, 11, none⟩ = some (.slice u.ja u.jl u.jc) ∧ w'.cell? ⟨w.heap.size, 12, none⟩ = some (.slice u.ha u.hl u.hc) ∧ w'.cell? ⟨w.heap.size, 13, none⟩ = some (.int .i64 u.now) ∧ w'.cell? ⟨w.heap.size, 14, none⟩ = some (.int .i64 a) ∧ w'.cell? ⟨wr.heap.size, 0, none⟩ = some (.int .i64 t.p) ∧ w'.cell? ⟨wr.heap.size, 1, none⟩ = some (.int .i64 t.c) ∧ w'.cell? ⟨wr.heap.size, 2, none⟩ = some (.slice t.sa t.sl t.sc) ∧ w'.cell? ⟨wr.heap.size, 3, none⟩ = some (.slice t.da t.dl t.dc)) (go_keep) (first
                  | (go_at_call 10; refine (sanswers_any _).mono ?_; rintro e w7 ⟨rfl, k7⟩; have K7 : Kp V w7 := HK6.out.trans (by first | exact (TB.kp_drew _).trans k7 | exact k7); clear k7; obtain ⟨z0, z1, z2, z3, z4, z5, z6, z7, z8, z9, z10, z11, z12, z13, z14⟩ := (HP.out _ (HKV.out.trans K7)).all; obtain ⟨x10, x11, x12, x13⟩ := HTV.out _ K7)
                  | (go_at_call 14; refine (HA1.out _ (HKV.out.trans K7)).mono ?_; rintro e w8 ⟨rfl, k8⟩; have K8 := K7.trans k8; clear k8; obtain ⟨z0, z1, z2, z3, z4, z5, z6, z7, z8, z9, z10, z11, z12, z13, z14⟩ := (HP.out _ (HKV.out.trans K8)).all; obtain ⟨x10, x11, x12, x13⟩ := HTV.out _ K8)
                  | (go_at_call 20; refine (HB1.out _ K8).mono ?_; rintro e w9 ⟨rfl, k9⟩; have K9 := K8.trans k9; clear k9; obtain ⟨z0, z1, z2, z3, z4, z5, z6, z7, z8, z9, z10, z11, z12, z13, z14⟩ := (HP.out _ (HKV.out.trans K9)).all; obtain ⟨x10, x11, x12, x13⟩ := HTV.out _ K9)
                  | fail)
                all_goals
                  go_wp2
                  go_ret
                  exact ⟨by simp, HE.out _ (HK.out.trans (HKV.out.trans K9))⟩

end Go.Proofs.Ytaibpanceiapmaa.SK
