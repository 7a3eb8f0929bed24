/- When a job comes, no less is left over. -/
import Derived.Test.YtaibpanceiapmaaSlkCame
import Derived.Deep.CutRange
namespace Go.Proofs.Ytaibpanceiapmaa.SK
open Go.ChangeShapes Go.WideShapes Go.ChangeAt Go.RowKit Go.Proofs.Ytaibpanceiapmaa.AR Go.Proofs.Ytaibpanceiapmaa.TB Go.Proofs.Ytaibpanceiapmaa.TK Go.Proofs.Ytaibpanceiapmaa.JB Go.Proofs.Ytaibpanceiapmaa.FX Go.Proofs.Ytaibpanceiapmaa.AD Go.Proofs.Ytaibpanceiapmaa.RW
open Go.Proofs.Ytaibpanceiapmaa.LK (Hd atH HsAt C3)

/-- the view's copy has the jobs, and one more -/
def CameR (w5 X : World) (u : Vw) (j : Jb) (wx : World) : Prop :=
  ∃ V4 g4 cap4, Kp X V4 ∧ V4.ownsRow X.heap.size 44 6 (.slice (some ⟨g4, 0, none⟩) (u.jl + 1) cap4) (u.jl + 1) (jobC (u.J ++ [j])) ∧ wx = V4.setCell ⟨w5.heap.size, 11, none⟩ (.slice (some ⟨g4, 0, none⟩) (u.jl + 1) cap4)

set_option maxRecDepth 100000 in
set_option maxHeartbeats 64000000 in
theorem slackReleased_walk (v : Vw) (a n lat : Int) (w : World) (hv0 : VL w v) (_ : I64 v.now) (_ : I64 a) (hn : (Lit.int .u8 n).wf = true) (hlat : (Lit.int .u8 lat).wf = true) :
    Calls Try.prog 8 #[v.rv a, .int .u8 n, .int .u8 lat] w fun e w' => e = .returned (.bool true) ∧ Below w.heap.size w w' := by
  have HE : Hid (∀ w', Kp w w' → Below w.heap.size w w') := fun w' q => q
  obtain ⟨n0, n1⟩ := su8_in hn
  obtain ⟨m0, m1⟩ := su8_in hlat
  obtain ⟨W0, HW, K0, P0⟩ := box_noH w v a
  obtain ⟨u, hu⟩ : ∃ u, v.setH none 0 0 [] = u := ⟨_, rfl⟩
  have hv : VL w u := by rw [← hu]; exact hv0.noH
  have hz : u.hl = 0 := by rw [← hu]; rfl
  have hza : u.ha = none ∧ u.hc = 0 ∧ u.H = [] := by rw [← hu]; exact ⟨rfl, rfl, rfl⟩
  rw [hu] at P0
  clear hu hn hlat hv0
  have HP : Hid (∀ W, Kp W0 W → B15 W w.heap.size u a) := fun W k => P0.kp k
  have HK : Hid (Kp w W0) := K0
  have HV0 : Hid (VL w u) := hv
  have HZ : Hid (u.hl = 0) := hz
  have hty := hv.t.by'
  have HG : Hid (Calls Try.prog 9 #[u.rv a] W0 fun e w' => e = .returned (.bool (goodV u a)) ∧ Kp W0 w') := good_any u a W0 (hv.kept K0)
  have HD : Hid (goodV u a = true → VG u ∧ (0 ≤ a ∧ a ≤ 2097152)) := fun q => ⟨(good_vg hv q).1, (good_vg hv q).2.1⟩
  have HJo : Hid (∀ W x j s, (jof u.J x).getD zJ = j → (jof u.J x).isSome = s → Kp w W → Calls Try.prog 21 #[.slice u.ja u.jl u.jc, .int .i64 x] W fun e w' => e = .returned (.tuple #[.agg #[.int .i64 j.t, .int .i64 j.r, .int .i64 j.d, .int .i64 j.l, .int .i64 j.x, .bool j.s], .bool s]) ∧ Kp W w') := fun W x j s h1 h2 q => rof_any _ _ _ _ x W (hv.j.kept q) j s h1 h2
  have HPt : Hid (VG u → ∀ W (t : Tk), t ∈ u.T → Kp w W → Calls Try.prog 22 #[u.m.v, t.v, .int .i64 0] W fun e w' => e = .returned (.int .i64 (ut (qn u.m t.c 0) t.p)) ∧ Kp W w') := fun g W t ht q => rpart_any u.m t 0 W (hv.m.kept q) g.b (g.tk t ht).1.c
  have HG2 : Hid (∀ (u2 : Vw) W, VL W u2 → Calls Try.prog 9 #[u2.rv a] W fun e w' => e = .returned (.bool (goodV u2 a)) ∧ Kp W w') := fun u2 W h => good_any u2 a W h
  have HA2 : Hid (∀ (u2 : Vw) W, VL W u2 → VG u2 → (0 ≤ a ∧ a ≤ 2097152) → Calls Try.prog 14 #[u2.rv a, .int .i64 a] W fun e w' => e = .returned (.int .i64 (atI u2 a)) ∧ Kp W w') := fun u2 W h g ha => vat_any u2 a a W h g (by omega)
  have HD2 : Hid (∀ (u2 : Vw) W, VL W u2 → goodV u2 a = true → VG u2) := fun u2 W h q => (good_vg h q).1
  have wn : IntKind.i64.wrap n = n := wrapI (by omega)
  have wn2 : wrap64 n = n := IntWalk.wrap64_in _ (by omega)
  have wl : IntKind.i64.wrap lat = lat := wrapI (by omega)
  have wl2 : wrap64 lat = lat := IntWalk.wrap64_in _ (by omega)
  generalize hgd : goodV u a = gd at *
  clear hv K0 hz hza hgd
  unfold Vw.rv Mc.v Tk.v at *
  go_enter Try.func8, Try.ntmps8
  try dsimp only [List.append]
  go_upto_region 2 with fail
  rw [← HW.out]
  clear HW
  obtain ⟨p0, p1, p2, p3, p4, p5, p6, p7, p8, p9, p10, p11, p12, p13, p14⟩ := P0.all
  clear P0
  cases gd with
  | false =>
    go_wp2_with fail
    refine Calls.mono HG.out ?_
    rintro e w1 ⟨rfl, k1⟩
    go_wp2_with fail
    refine (sanswers_any _).mono ?_
    rintro e w2 ⟨rfl, k2⟩
    go_wp2
    go_ret
    exact ⟨rfl, HE.out _ ((HK.out.trans k1).trans k2)⟩
  | true =>
    obtain ⟨d, ha⟩ := HD.out rfl
    have HVG : Hid (VG u) := d
    have HHa : Hid (0 ≤ a ∧ a ≤ 2097152) := ha
    clear HD d ha
    by_cases hl0 : u.tl = 0
    · have hl0' : ((u.tl : Int) == 0) = true := by simp [hl0]
      have hl0h : Hid (u.tl = 0) := hl0
      clear hl0
      go_wp2_with fail
      refine Calls.mono HG.out ?_
      rintro e w1 ⟨rfl, k1⟩
      have HK1 : Hid (Kp W0 w1) := k1
      clear p0 p1 p2 p3 p4 p5 p6 p7 p8 p9 p10 p11 p12 p13 p14 k1 HG
      obtain ⟨p0, p1, p2, p3, p4, p5, p6, p7, p8, p9, p10, p11, p12, p13, p14⟩ := (HP.out _ HK1.out).all
      go_wp2_with fail
      refine (sanswers_any _).mono ?_
      rintro e w2 ⟨rfl, k2⟩
      go_wp2
      go_ret
      exact ⟨rfl, HE.out _ ((HK.out.trans HK1.out).trans k2)⟩
    · have hl0' : ((u.tl : Int) == 0) = false := by simpa using hl0
      obtain ⟨x, hx, ex, wx⟩ := smod_of ⟨n0, n1⟩ (show 1 ≤ u.tl by omega)
      clear wx hl0
      go_wp2_with fail
      refine Calls.mono HG.out ?_
      rintro e w1 ⟨rfl, k1⟩
      have HK1 : Hid (Kp W0 w1) := k1
      have hgb : w.heap.size < w1.heap.size := (HP.out _ k1).lt
      clear p0 p1 p2 p3 p4 p5 p6 p7 p8 p9 p10 p11 p12 p13 p14 k1 HG
      obtain ⟨p0, p1, p2, p3, p4, p5, p6, p7, p8, p9, p10, p11, p12, p13, p14⟩ := (HP.out _ HK1.out).all
      have x0 : (0 : Int) ≤ (x : Int) := by omega
      have xl : (x : Int) < (u.tl : Int) := by omega
      have xn : ((x : Int)).toNat = x := by omega
      have xl2 : (x : Int) < (u.nl : Int) := by have := HVG.out.nl; omega
      obtain ⟨b, off, t, e, hb, hg, ht, c0, c1, c2, c3⟩ := (HV0.out.t.kept (HK.out.trans HK1.out)).one hx
      obtain ⟨V, HV, KV, TV⟩ := tk_box w1 t
      have HTV : Hid (∀ W, Kp V W → W.cell? ⟨w1.heap.size, 0, none⟩ = some (.int .i64 t.p) ∧ W.cell? ⟨w1.heap.size, 1, none⟩ = some (.int .i64 t.c) ∧ W.cell? ⟨w1.heap.size, 2, none⟩ = some (.slice t.sa t.sl t.sc) ∧ W.cell? ⟨w1.heap.size, 3, none⟩ = some (.slice t.da t.dl t.dc)) := TV
      have HKV : Hid (Kp W0 V) := HK1.out.trans KV
      have HTg : Hid (u.T[x]? = some t) := hg
      have htp := HVG.out.tk t (List.mem_of_getElem? hg)
      have HTp : Hid ((0 ≤ t.p ∧ t.p ≤ 16384) ∧ (0 ≤ t.c ∧ t.c ≤ 4096)) := ⟨⟨htp.2.1, htp.2.2.1⟩, htp.1.c⟩
      obtain ⟨j0, s0, hj0, hs0⟩ : ∃ j s, (jof u.J (x : Int)).getD zJ = j ∧ (jof u.J (x : Int)).isSome = s := ⟨_, _, rfl, rfl⟩
      have HJ1 : Hid (∀ W, Kp V W → Calls Try.prog 21 #[.slice u.ja u.jl u.jc, .int .i64 (x : Int)] W fun e w' => e = .returned (.tuple #[.agg #[.int .i64 j0.t, .int .i64 j0.r, .int .i64 j0.d, .int .i64 j0.l, .int .i64 j0.x, .bool j0.s], .bool s0]) ∧ Kp W w') := fun W q => HJo.out W _ j0 s0 hj0 hs0 (HK.out.trans (HKV.out.trans q))
      have HPt1 : Hid (∀ W, Kp V W → Calls Try.prog 22 #[.agg #[.slice u.m.aL u.m.lL u.m.cL, .slice u.m.aS u.m.lS u.m.cS, .slice u.m.aD u.m.lD u.m.cD, .int .i64 u.m.idle, .int .i64 u.m.crit, .int .i64 u.m.sw, .int .i64 u.m.swe, .int .i64 u.m.sems, .int .i64 u.m.hor], .agg #[.int .i64 t.p, .int .i64 t.c, .slice t.sa t.sl t.sc, .slice t.da t.dl t.dc], .int .i64 0] W fun e w' => e = .returned (.int .i64 (ut (qn u.m t.c 0) t.p)) ∧ Kp W w') := fun W q => HPt.out HVG.out W t (List.mem_of_getElem? hg) (HK.out.trans (HKV.out.trans q))
      obtain ⟨nb, no, e2, hnb, cn⟩ := (HV0.out.n.kept (HK.out.trans HKV.out)).one (show x < u.nl by have := HVG.out.nl; omega)
      have HNx : Hid (∀ W, Kp V W → W.cell? ⟨nb, no + x, none⟩ = some (.int .i64 (u.N.getD x 0))) := fun W q => (q.cell (p := ⟨nb, no + x, none⟩) (by exact hnb)).trans cn
      have HNa : Hid (u.na = some ⟨nb, no, none⟩) := e2
      rw [e] at p9
      clear e hg ht KV TV htp e2 hnb cn hj0 hs0 HJo HPt
      go_wp2_with fail
      rw [← HV.out]
      refine Calls.mono (HJ1.out _ (Kp.refl _)) ?_
      rintro e w3 ⟨rfl, k3⟩
      obtain ⟨U, HU, KU, TU⟩ := jb_box w3 j0
      have HKU : Hid (Kp V U) := k3.trans KU
      have HKU0 : Hid (Kp W0 U) := HKV.out.trans HKU.out
      clear p0 p1 p2 p3 p4 p5 p6 p7 p8 p9 p10 p11 p12 p13 p14 c0 c1 c2 c3 KU TU k3 HJ1 HV
      go_upto_region 7 with fail
      rw [← HU.out]
      clear HU
      obtain ⟨p0, p1, p2, p3, p4, p5, p6, p7, p8, p9, p10, p11, p12, p13, p14⟩ := (HP.out _ HKU0.out).all
      obtain ⟨y0, y1, y2, y3⟩ := HTV.out _ HKU.out
      have cn := HNx.out _ HKU.out
      rw [HNa.out] at p10
      cases s0 with
      | true =>
        go_wp2_with fail
        go_quiet (fail)
        go_wp2_with fail
        refine (sanswers_any _).mono ?_
        rintro e w4 ⟨rfl, k4⟩
        go_wp2
        go_ret
        exact ⟨rfl, HE.out _ (HK.out.trans (HKU0.out.trans ((skp_drewN _ _).trans k4)))⟩
      | false =>
        cases hp : t.p == 0 with
        | true =>
          go_wp2_with fail
          go_quiet (fail)
          go_wp2_with fail
          refine (sanswers_any _).mono ?_
          rintro e w4 ⟨rfl, k4⟩
          go_wp2
          go_ret
          exact ⟨rfl, HE.out _ (HK.out.trans (HKU0.out.trans ((skp_drewN _ _).trans k4)))⟩
        | false =>
          by_cases hnx : u.now < u.N.getD x 0
          · have d1 : decide (u.now < u.N.getD x 0) = true := decide_eq_true hnx
            generalize u.N.getD x 0 = nx at *
            go_wp2_with fail
            go_quiet (fail)
            go_wp2_with fail
            refine (sanswers_any _).mono ?_
            rintro e w4 ⟨rfl, k4⟩
            go_wp2
            go_ret
            exact ⟨rfl, HE.out _ (HK.out.trans (HKU0.out.trans ((skp_drewN _ _).trans k4)))⟩
          · have d1 : decide (u.now < u.N.getD x 0) = false := decide_eq_false hnx
            have HNn : Hid (u.N.getD x 0 ≤ u.now) := by show _ ≤ _; omega
            obtain ⟨nx, hnxe⟩ : ∃ nx, u.N.getD x 0 = nx := ⟨_, rfl⟩
            obtain ⟨pt, hpte⟩ : ∃ pt, ut (qn u.m t.c 0) t.p = pt := ⟨_, rfl⟩
            have HPe : Hid (ut (qn u.m t.c 0) t.p = pt) := hpte
            rw [hnxe] at cn d1
            rw [hpte] at HPt1
            have HNx' : Hid (∀ W, Kp V W → W.cell? ⟨nb, no + x, none⟩ = some (.int .i64 nx)) := fun W q => by rw [← hnxe]; exact HNx.out W q
            clear hnxe hpte hnx p0 p1 p2 p3 p4 p5 p6 p7 p8 p9 p10 p11 p12 p13 p14
            obtain ⟨p0, p1, p2, p3, p4, p5, p6, p7, p8, p9, p10, p11, p12, p13, p14⟩ := (HP.out _ HKU0.out).all
            have hna := HNa.out
            go_wp2_with fail
            go_region_held3 (fun w' => w'.cell? ⟨w.heap.size, 0, none⟩ = some (.slice u.m.aL u.m.lL u.m.cL) ∧ w'.cell? ⟨w.heap.size, 1, none⟩ = some (.slice u.m.aS u.m.lS u.m.cS) ∧ w'.cell? ⟨w.heap.size, 2, none⟩ = some (.slice u.m.aD u.m.lD u.m.cD) ∧ w'.cell? ⟨w.heap.size, 3, none⟩ = some (.int .i64 u.m.idle) ∧ w'.cell? ⟨w.heap.size, 4, none⟩ = some (.int .i64 u.m.crit) ∧ w'.cell? ⟨w.heap.size, 5, none⟩ = some (.int .i64 u.m.sw) ∧ w'.cell? ⟨w.heap.size, 6, none⟩ = some (.int .i64 u.m.swe) ∧ w'.cell? ⟨w.heap.size, 7, none⟩ = some (.int .i64 u.m.sems) ∧ w'.cell? ⟨w.heap.size, 8, none⟩ = some (.int .i64 u.m.hor) ∧ w'.cell? ⟨w.heap.size, 9, none⟩ = some (.slice u.ta u.tl u.tc) ∧ w'.cell? ⟨w.heap.size, 10, none⟩ = some (.slice u.na u.nl u.nc) ∧ w'.cell? ⟨w.heap.size, 11, none⟩ = some (.slice u.ja u.jl u.jc) ∧ w'.cell? ⟨w.heap.size, 12, none⟩ = some (.slice u.ha u.hl u.hc) ∧ w'.cell? ⟨w.heap.size, 13, none⟩ = some (.int .i64 u.now) ∧ w'.cell? ⟨w.heap.size, 14, none⟩ = some (.int .i64 a) ∧ w'.cell? ⟨w1.heap.size, 0, none⟩ = some (.int .i64 t.p) ∧ w'.cell? ⟨w1.heap.size, 1, none⟩ = some (.int .i64 t.c) ∧ w'.cell? ⟨w1.heap.size, 2, none⟩ = some (.slice t.sa t.sl t.sc) ∧ w'.cell? ⟨w1.heap.size, 3, none⟩ = some (.slice t.da t.dl t.dc) ∧ w'.cell? ⟨nb, no + x, none⟩ = some (.int .i64 nx)) (go_keep) (first
              | (go_at_call 22; refine (HPt1.out _ ?_).mono ?_; first | exact HKU.out | exact HKU.out.trans (TB.kp_drew _); rintro e w5 ⟨rfl, k5⟩; have K5 : Kp V w5 := (by first | exact (HKU.out.trans (TB.kp_drew _)).trans k5 | exact HKU.out.trans k5); clear k5; obtain ⟨z0, z1, z2, z3, z4, z5, z6, z7, z8, z9, z10, z11, z12, z13, z14⟩ := (HP.out _ (HKV.out.trans K5)).all; obtain ⟨x10, x11, x12, x13⟩ := HTV.out _ K5; have x14 := HNx'.out _ K5)
              | fail)
            clear hna
            have HK5 : Hid (Kp V w5) := K5
            have HK50 : Hid (Kp W0 w5) := HKV.out.trans K5
            clear z0 z1 z2 z3 z4 z5 z6 z7 z8 z9 z10 z11 z12 z13 z14 x10 x11 x12 x13 x14 p0 p1 p2 p3 p4 p5 p6 p7 p8 p9 p10 p11 p12 p13 p14 y0 y1 y2 y3 cn K5 HPt1
            obtain ⟨p0, p1, p2, p3, p4, p5, p6, p7, p8, p9, p10, p11, p12, p13, p14⟩ := (HP.out _ HK50.out).all
            obtain ⟨y0, y1, y2, y3⟩ := HTV.out _ HK5.out
            by_cases hpt : 4294967296 < pt
            · have d2 : decide (4294967296 < pt) = true := decide_eq_true hpt
              go_wp2_with fail
              refine (sanswers_any _).mono ?_
              rintro e w6 ⟨rfl, k6⟩
              go_wp2
              go_ret
              exact ⟨rfl, HE.out _ (HK.out.trans (HK50.out.trans k6))⟩
            · have d2 : decide (4294967296 < pt) = false := decide_eq_false hpt
              have HPl : Hid (ut (qn u.m t.c 0) t.p ≤ 4294967296) := by show _ ≤ _; rw [HPe.out]; omega
              have hgb5 : w.heap.size < w5.heap.size := (HP.out _ HK50.out).lt
              obtain ⟨X, HX, KX, PX0⟩ := rview_box w5 u a
              have PX : Hid (B15 X w5.heap.size u a) := PX0
              have HKX : Hid (Kp w5 X) := KX
              obtain ⟨tb, htb⟩ : ∃ tb, w1.heap.size = tb := ⟨_, rfl⟩
              rw [htb] at HTV y0 y1 y2 y3 ⊢
              have HSx : Hid (∀ W, Kp w5 W → W.cell? ⟨w.heap.size, 0, none⟩ = some (.slice u.m.aL u.m.lL u.m.cL) ∧ W.cell? ⟨w.heap.size, 1, none⟩ = some (.slice u.m.aS u.m.lS u.m.cS) ∧ W.cell? ⟨w.heap.size, 2, none⟩ = some (.slice u.m.aD u.m.lD u.m.cD) ∧ W.cell? ⟨w.heap.size, 3, none⟩ = some (.int .i64 u.m.idle) ∧ W.cell? ⟨w.heap.size, 4, none⟩ = some (.int .i64 u.m.crit) ∧ W.cell? ⟨w.heap.size, 5, none⟩ = some (.int .i64 u.m.sw) ∧ W.cell? ⟨w.heap.size, 6, none⟩ = some (.int .i64 u.m.swe) ∧ W.cell? ⟨w.heap.size, 7, none⟩ = some (.int .i64 u.m.sems) ∧ W.cell? ⟨w.heap.size, 8, none⟩ = some (.int .i64 u.m.hor) ∧ W.cell? ⟨w.heap.size, 9, none⟩ = some (.slice u.ta u.tl u.tc) ∧ W.cell? ⟨w.heap.size, 10, none⟩ = some (.slice u.na u.nl u.nc) ∧ W.cell? ⟨w.heap.size, 11, none⟩ = some (.slice u.ja u.jl u.jc) ∧ W.cell? ⟨w.heap.size, 12, none⟩ = some (.slice u.ha u.hl u.hc) ∧ W.cell? ⟨w.heap.size, 13, none⟩ = some (.int .i64 u.now) ∧ W.cell? ⟨w.heap.size, 14, none⟩ = some (.int .i64 a) ∧ W.cell? ⟨tb, 0, none⟩ = some (.int .i64 t.p) ∧ W.cell? ⟨tb, 1, none⟩ = some (.int .i64 t.c) ∧ W.cell? ⟨tb, 2, none⟩ = some (.slice t.sa t.sl t.sc) ∧ W.cell? ⟨tb, 3, none⟩ = some (.slice t.da t.dl t.dc)) := fun W q => by
                obtain ⟨z0, z1, z2, z3, z4, z5, z6, z7, z8, z9, z10, z11, z12, z13, z14⟩ := (HP.out _ (HK50.out.trans q)).all
                obtain ⟨x10, x11, x12, x13⟩ := HTV.out _ (HK5.out.trans q)
                exact ⟨z0, z1, z2, z3, z4, z5, z6, z7, z8, z9, z10, z11, z12, z13, z14, x10, x11, x12, x13⟩
              have HJX : Hid (∀ W, Kp X W → JsAt W u.ja u.jl u.J) := fun W q => HV0.out.j.kept (HK.out.trans (HK50.out.trans (KX.trans q)))
              have hnow := HVG.out.now
              have htpp := HTp.out
              obtain ⟨z, hze⟩ : ∃ z, u.now + t.p = z := ⟨_, rfl⟩
              have s1 : IntKind.i64.wrap (u.now + t.p) = z := by rw [hze]; exact wrapI (by omega)
              have s1' : wrap64 (u.now + t.p) = z := by rw [hze]; exact IntWalk.wrap64_in _ (by omega)
              have HZe : Hid (z = u.now + t.p) := hze.symm
              obtain ⟨lx, hlx⟩ : ∃ lx, 1 + lat = lx := ⟨_, rfl⟩
              have s2 : IntKind.i64.wrap (1 + lat) = lx := by rw [hlx]; exact wrapI (by omega)
              have HLx : Hid (1 ≤ lx ∧ lx ≤ 256) := by show 1 ≤ lx ∧ lx ≤ 256; omega
              have hjn := HVG.out.jn
              have htbl : tb < w5.heap.size := by
                have h1 := HK5.out.size
                have h2 : tb < V.heap.size := by
                  obtain ⟨q0, _⟩ := HTV.out V (Kp.refl _)
                  exact World.block_lt_of_cell? V _ q0
                omega
              clear hze hlx KX PX0 htb hnow htpp
              go_upto_region 11 with fail
              rw [← HX.out, d2]
              clear HX
              go_cut [12] from 69 to 87 (fun g wx => g = .pointer (some ⟨w5.heap.size, 0, none⟩) ∧ CameR w5 X u ⟨(x : Int), u.now, z, t.c, lx, false⟩ wx)
              case first =>
                clear p0 p1 p2 p3 p4 p5 p6 p7 p8 p9 p10 p11 p12 p13 p14 y0 y1 y2 y3 s1'
                refine wp_region_noPanic ?_
                refine wp_region_held_drew (S := fun w' => w'.cell? ⟨w.heap.size, 0, none⟩ = some (.slice u.m.aL u.m.lL u.m.cL) ∧ w'.cell? ⟨w.heap.size, 1, none⟩ = some (.slice u.m.aS u.m.lS u.m.cS) ∧ w'.cell? ⟨w.heap.size, 2, none⟩ = some (.slice u.m.aD u.m.lD u.m.cD) ∧ w'.cell? ⟨w.heap.size, 3, none⟩ = some (.int .i64 u.m.idle) ∧ w'.cell? ⟨w.heap.size, 4, none⟩ = some (.int .i64 u.m.crit) ∧ w'.cell? ⟨w.heap.size, 5, none⟩ = some (.int .i64 u.m.sw) ∧ w'.cell? ⟨w.heap.size, 6, none⟩ = some (.int .i64 u.m.swe) ∧ w'.cell? ⟨w.heap.size, 7, none⟩ = some (.int .i64 u.m.sems) ∧ w'.cell? ⟨w.heap.size, 8, none⟩ = some (.int .i64 u.m.hor) ∧ w'.cell? ⟨w.heap.size, 9, none⟩ = some (.slice u.ta u.tl u.tc) ∧ w'.cell? ⟨w.heap.size, 10, none⟩ = some (.slice u.na u.nl u.nc) ∧ w'.cell? ⟨w.heap.size, 11, none⟩ = some (.slice u.ja u.jl u.jc) ∧ w'.cell? ⟨w.heap.size, 12, none⟩ = some (.slice u.ha u.hl u.hc) ∧ w'.cell? ⟨w.heap.size, 13, none⟩ = some (.int .i64 u.now) ∧ w'.cell? ⟨w.heap.size, 14, none⟩ = some (.int .i64 a) ∧ w'.cell? ⟨tb, 0, none⟩ = some (.int .i64 t.p) ∧ w'.cell? ⟨tb, 1, none⟩ = some (.int .i64 t.c) ∧ w'.cell? ⟨tb, 2, none⟩ = some (.slice t.sa t.sl t.sc) ∧ w'.cell? ⟨tb, 3, none⟩ = some (.slice t.da t.dl t.dc)) (by kernel_rfl) ?_ (fun hHeld => ?_)
                · exact HSx.out _ (HKX.out.trans (TB.kp_drew _))
                obtain ⟨V0, HV0⟩ : ∃ V0, Hid (V0 = X.drew) := ⟨_, rfl⟩
                have KV0 : Kp X V0 := by rw [HV0.out]; exact TB.kp_drew _
                rw [← HV0.out]
                clear HV0
                have hzw0 := KV0.size
                have hHeld0 := HSx.out _ (HKX.out.trans KV0)
                refine wpAnyH_take (i := 1) (oi := Oper.mk (some 70) _ _ _ _ _) (v := ?v1A) rfl (by kernel_rfl) (by kernel_rfl) (by kernel_rfl) (fun _ _ _ h => h) (Or.inl ⟨by rfl, ?hy1A⟩) (by assumption) ?rest1A
                case hy1A => (intro w0 hSw; (try dsimp only at hSw); go_simp; try with_reducible rfl)
                try simp only [Act.put, List.setIfInBounds_toArray, List.set_cons_zero, List.set_cons_succ]
                refine wpAnyH_take (i := 2) (oi := Oper.mk (some 71) _ _ _ _ _) (v := ?v2A) rfl (by kernel_rfl) (by kernel_rfl) (by kernel_rfl) (fun _ _ _ h => h) (Or.inl ⟨by rfl, ?hy2A⟩) (by assumption) ?rest2A
                case hy2A => (intro w0 hSw; (try dsimp only at hSw); go_simp; try with_reducible rfl)
                try simp only [Act.put, List.setIfInBounds_toArray, List.set_cons_zero, List.set_cons_succ]
                refine wpAnyH_take (i := 4) (oi := Oper.mk (some 73) _ _ _ _ _) (v := ?v4A) rfl (by kernel_rfl) (by kernel_rfl) (by kernel_rfl) (fun _ _ _ h => h) (Or.inl ⟨by rfl, ?hy4A⟩) (by assumption) ?rest4A
                case hy4A => (intro w0 hSw; (try dsimp only at hSw); go_simp; try with_reducible rfl)
                try simp only [Act.put, List.setIfInBounds_toArray, List.set_cons_zero, List.set_cons_succ]
                refine wpAnyH_take (i := 5) (oi := Oper.mk (some 74) _ _ _ _ _) (v := ?v5A) rfl (by kernel_rfl) (by kernel_rfl) (by kernel_rfl) (fun _ _ _ h => h) (Or.inl ⟨by rfl, ?hy5A⟩) (by assumption) ?rest5A
                case hy5A => (intro w0 hSw; (try dsimp only at hSw); go_simp; try with_reducible rfl)
                try simp only [Act.put, List.setIfInBounds_toArray, List.set_cons_zero, List.set_cons_succ]
                refine wpAnyH_take (i := 6) (oi := Oper.mk (some 75) _ _ _ _ _) (v := ?v6A) rfl (by kernel_rfl) (by kernel_rfl) (by kernel_rfl) (fun _ _ _ h => h) (Or.inl ⟨by rfl, ?hy6A⟩) (by assumption) ?rest6A
                case hy6A => (intro w0 hSw; (try dsimp only at hSw); go_simp; try with_reducible rfl)
                try simp only [Act.put, List.setIfInBounds_toArray, List.set_cons_zero, List.set_cons_succ]
                refine wpAnyH_take (i := 7) (oi := Oper.mk (some 76) _ _ _ _ _) (v := ?v7A) rfl (by kernel_rfl) (by kernel_rfl) (by kernel_rfl) (fun _ _ _ h => h) (Or.inl ⟨by rfl, ?hy7A⟩) (by assumption) ?rest7A
                case hy7A => (intro w0 hSw; (try dsimp only at hSw); go_simp; try with_reducible rfl)
                try simp only [Act.put, List.setIfInBounds_toArray, List.set_cons_zero, List.set_cons_succ]
                refine wpAnyH_take (i := 8) (oi := Oper.mk (some 77) _ _ _ _ _) (v := ?v8A) rfl (by kernel_rfl) (by kernel_rfl) (by kernel_rfl) (fun _ _ _ h => h) (Or.inl ⟨by rfl, ?hy8A⟩) (by assumption) ?rest8A
                case hy8A => (intro w0 hSw; (try dsimp only at hSw); go_simp; try with_reducible rfl)
                try simp only [Act.put, List.setIfInBounds_toArray, List.set_cons_zero, List.set_cons_succ]
                refine wpAnyH_take (i := 9) (oi := Oper.mk (some 78) _ _ _ _ _) (v := ?v9A) rfl (by kernel_rfl) (by kernel_rfl) (by kernel_rfl) (fun _ _ _ h => h) (Or.inl ⟨by rfl, ?hy9A⟩) (by assumption) ?rest9A
                case hy9A => (intro w0 hSw; (try dsimp only at hSw); go_simp; try with_reducible rfl)
                try simp only [Act.put, List.setIfInBounds_toArray, List.set_cons_zero, List.set_cons_succ]
                refine wpAnyH_take (i := 10) (oi := Oper.mk (some 79) _ _ _ _ _) (v := ?v10A) rfl (by kernel_rfl) (by kernel_rfl) (by kernel_rfl) (fun _ _ _ h => h) (Or.inl ⟨by rfl, ?hy10A⟩) (by assumption) ?rest10A
                case hy10A => (intro w0 hSw; (try dsimp only at hSw); go_simp; try with_reducible rfl)
                try simp only [Act.put, List.setIfInBounds_toArray, List.set_cons_zero, List.set_cons_succ]
                refine wpAnyH_take (i := 11) (oi := Oper.mk (some 80) _ _ _ _ _) (v := ?v11A) rfl (by kernel_rfl) (by kernel_rfl) (by kernel_rfl) (fun _ _ _ h => h) (Or.inl ⟨by rfl, ?hy11A⟩) (by assumption) ?rest11A
                case hy11A => (intro w0 hSw; (try dsimp only at hSw); go_simp; try with_reducible rfl)
                try simp only [Act.put, List.setIfInBounds_toArray, List.set_cons_zero, List.set_cons_succ]
                refine wpAnyH_take (i := 12) (oi := Oper.mk (some 81) _ _ _ _ _) (v := ?v12A) rfl (by kernel_rfl) (by kernel_rfl) (by kernel_rfl) (fun _ _ _ h => h) (Or.inl ⟨by rfl, ?hy12A⟩) (by assumption) ?rest12A
                case hy12A => (intro w0 hSw; (try dsimp only at hSw); go_simp; try with_reducible rfl)
                try simp only [Act.put, List.setIfInBounds_toArray, List.set_cons_zero, List.set_cons_succ]
                refine wpAnyH_take (i := 13) (oi := Oper.mk (some 82) _ _ _ _ _) (v := ?v13A) rfl (by kernel_rfl) (by kernel_rfl) (by kernel_rfl) (fun _ _ _ h => h) (Or.inl ⟨by rfl, ?hy13A⟩) (by assumption) ?rest13A
                case hy13A => (intro w0 hSw; (try dsimp only at hSw); go_simp; try with_reducible rfl)
                try simp only [Act.put, List.setIfInBounds_toArray, List.set_cons_zero, List.set_cons_succ]
                refine wpAnyH_take (i := 14) (oi := Oper.mk (some 83) _ _ _ _ _) (v := ?v14A) rfl (by kernel_rfl) (by kernel_rfl) (by kernel_rfl) (fun _ _ _ h => h) (Or.inl ⟨by rfl, ?hy14A⟩) (by assumption) ?rest14A
                case hy14A => (intro w0 hSw; (try dsimp only at hSw); go_simp; try with_reducible rfl)
                try simp only [Act.put, List.setIfInBounds_toArray, List.set_cons_zero, List.set_cons_succ]
                refine wpAnyH_take (i := 15) (oi := Oper.mk (some 84) _ _ _ _ _) (v := ?v15A) rfl (by kernel_rfl) (by kernel_rfl) (by kernel_rfl) (fun _ _ _ h => h) (Or.inl ⟨by rfl, ?hy15A⟩) (by assumption) ?rest15A
                case hy15A => (intro w0 hSw; (try dsimp only at hSw); go_simp; try with_reducible rfl)
                try simp only [Act.put, List.setIfInBounds_toArray, List.set_cons_zero, List.set_cons_succ]
                refine wpAnyH_ready (rs := [0, 16]) (by kernel_rfl) (by simp) ?_
                refine AllReadyH.cons (o := Oper.mk (some 69) _ _ _ _ _) rfl (fun K hK => ?_) (AllReadyH.cons (o := Oper.mk (some 85) _ _ _ _ _) rfl (fun K hK => ?_) AllReadyH.nil)
                · go_simp
                  go_wp2_with fail
                  obtain ⟨V1, HV1⟩ : ∃ V1, Hid (V1 = V0.alloc (.cells #[] 44)) := ⟨_, rfl⟩
                  have KS1 : Kp V0 V1 := by rw [HV1.out]; exact (Kp.refl _).alloc _
                  have KV1 : Kp X V1 := KV0.trans KS1
                  have E1 : V1.heap[V0.heap.size]? = some (.cells #[] 44 (0, 0)) := by rw [HV1.out]; exact heap_alloc_at _ _
                  have hz1 := KS1.size
                  have hq1 := lt_blk E1
                  have hzw1 := KV1.size
                  rw [← HV1.out]
                  clear HV1
                  refine hK.out _ _ ?_ (fun hHeld => ?_)
                  · exact HSx.out _ (HKX.out.trans KV1)
                  clear hK K
                  try simp only [Act.put, List.setIfInBounds_toArray, List.set_cons_zero, List.set_cons_succ]
                  refine wpAnyH_ready (rs := [3, 16]) (by kernel_rfl) (by simp) ?_
                  refine AllReadyH.cons (o := Oper.mk (some 72) _ _ _ _ _) rfl (fun K hK => ?_) (AllReadyH.cons (o := Oper.mk (some 85) _ _ _ _ _) rfl (fun K hK => ?_) AllReadyH.nil)
                  · refine step_append_jobs V1 rfl _ _ 29 44 rfl Try.underlying29 sjb_info X.heap.size V0.heap.size rfl E1 (by omega) u.ja u.jl u.jc u.J rfl (HJX.out _ KV1) ?_
                    intro g1 cap1 V2 R2 hg2
                    have KV2 : Kp X V2 := kp_grown KV1 hg2 (by omega)
                    have hb1 := row_base R2
                    have hzw2 := KV2.size
                    have hz2 := hg2.size
                    refine hK.out _ _ ?_ (fun hHeld => ?_)
                    · exact HSx.out _ (HKX.out.trans KV2)
                    clear hK K
                    try simp only [Act.put, List.setIfInBounds_toArray, List.set_cons_zero, List.set_cons_succ]
                    refine wpAnyH_ready (rs := [16]) (by kernel_rfl) (by simp) ?_
                    refine AllReadyH.cons (o := Oper.mk (some 85) _ _ _ _ _) rfl (fun K hK => ?_) AllReadyH.nil
                    go_simp
                    go_wp2_with fail
                    obtain ⟨V3, HV3⟩ : ∃ V3, Hid (V3 = V2.alloc (.cells #[.int .i64 (x : Int), .int .i64 u.now, .int .i64 z, .int .i64 t.c, .int .i64 lx, .bool false] 44)) := ⟨_, rfl⟩
                    have KS3 : Kp V2 V3 := by rw [HV3.out]; exact (Kp.refl _).alloc _
                    have KV3 : Kp X V3 := KV2.trans KS3
                    have H3 : V3.heap[V2.heap.size]? = some (.cells #[.int .i64 (x : Int), .int .i64 u.now, .int .i64 z, .int .i64 t.c, .int .i64 lx, .bool false] 44 (0, 0)) := by rw [HV3.out]; exact heap_alloc_at _ _
                    have hz3 := KS3.size
                    have hq3 := lt_blk H3
                    have hzw3 := KV3.size
                    rw [← HV3.out]
                    clear HV3
                    have R3 := ownsRow_kp R2 KS3
                    refine hK.out _ _ ?_ (fun hHeld => ?_)
                    · exact HSx.out _ (HKX.out.trans KV3)
                    clear hK K
                    try simp only [Act.put, List.setIfInBounds_toArray, List.set_cons_zero, List.set_cons_succ]
                    refine wpAnyH_ready (rs := [17]) (by kernel_rfl) (by simp) ?_
                    refine AllReadyH.cons (o := Oper.mk (some 86) _ _ _ _ _) rfl (fun K hK => ?_) AllReadyH.nil
                    refine step_append_job V3 rfl _ _ 29 44 rfl Try.underlying29 sjb_info X.heap.size g1 u.jl cap1 u.J rfl R3 V2.heap.size ⟨(x : Int), u.now, z, t.c, lx, false⟩ rfl H3 hjn KV3.size ?_
                    intro g4 cap4 V4 R4 hg4
                    have KV4 : Kp X V4 := kp_grown KV3 hg4 hb1
                    have HR4 : Hid (V4.ownsRow X.heap.size 44 6 (.slice (some ⟨g4, 0, none⟩) (u.jl + 1) cap4) (u.jl + 1) (jobC (u.J ++ [⟨(x : Int), u.now, z, t.c, lx, false⟩]))) := R4
                    refine hK.out _ _ ?_ (fun hHeld => ?_)
                    · exact HSx.out _ (HKX.out.trans KV4)
                    clear hK K
                    try simp only [Act.put, List.setIfInBounds_toArray, List.set_cons_zero, List.set_cons_succ]
                    have HK4 : Hid (Kp X V4) := KV4
                    have B4 := PX.out.kp KV4
                    have q4 := B4.fr 11
                    have l4 := B4.lt
                    obtain ⟨u0, u1, u2, u3, u4, u5, u6, u7, u8, u9, u10, u11, u12, u13, u14⟩ := B4.all
                    refine wpAnyH_take (i := 18) (oi := Oper.mk (some 87) _ _ _ _ _) (v := ?v18Z031617) rfl (by kernel_rfl) (by kernel_rfl) (by kernel_rfl) (fun _ _ _ h => h) (Or.inl ⟨by rfl, ?hy18Z031617⟩) (by assumption) ?rest18Z031617
                    case hy18Z031617 => (intro w0 hSw; (try dsimp only at hSw); go_simp; try with_reducible rfl)
                    try simp only [Act.put, List.setIfInBounds_toArray, List.set_cons_zero, List.set_cons_succ]
                    refine wpAnyH_ready (rs := [19]) (by kernel_rfl) (by simp) ?_
                    refine AllReadyH.cons (o := Oper.mk none _ _ _ _ _) rfl (fun K hK => ?_) AllReadyH.nil
                    go_simp
                    go_wp2_with fail
                    obtain ⟨V5, HV5⟩ : ∃ V5, Hid (V5 = V4.setCell ⟨w5.heap.size, 11, none⟩ (.slice (some ⟨g4, 0, none⟩) (u.jl + 1) cap4)) := ⟨_, rfl⟩
                    have K55 : Hid (Kp w5 V5) := by show Kp _ _; rw [HV5.out]; exact (HKX.out.trans KV4).setCell (p := ⟨w5.heap.size, 11, none⟩) (Nat.le_refl _) _
                    have HB5 : Hid (B15 V5 w5.heap.size (u.setJ (some ⟨g4, 0, none⟩) (u.jl + 1) cap4 (u.J ++ [⟨(x : Int), u.now, z, t.c, lx, false⟩])) a) := by show B15 _ _ _ _; rw [HV5.out]; exact B4.setJ _ _ _ _
                    rw [← HV5.out]
                    refine hK.out _ _ ?_ (fun hHeld => ?_)
                    · exact HSx.out _ K55.out
                    clear hK K
                    try simp only [Act.put, List.setIfInBounds_toArray, List.set_cons_zero, List.set_cons_succ]
                    refine wpAnyH_done (by kernel_rfl) ?_ _
                    refine NoPanic.normal ?_
                    go_wp2
                    go_meet
                    exact ⟨rfl, V4, g4, cap4, HK4.out, HR4.out, HV5.out⟩
                  · go_simp
                    go_wp2_with fail
                    obtain ⟨V2, HV2⟩ : ∃ V2, Hid (V2 = V1.alloc (.cells #[.int .i64 (x : Int), .int .i64 u.now, .int .i64 z, .int .i64 t.c, .int .i64 lx, .bool false] 44)) := ⟨_, rfl⟩
                    have KS2 : Kp V1 V2 := by rw [HV2.out]; exact (Kp.refl _).alloc _
                    have KV2 : Kp X V2 := KV1.trans KS2
                    have H2 : V2.heap[V1.heap.size]? = some (.cells #[.int .i64 (x : Int), .int .i64 u.now, .int .i64 z, .int .i64 t.c, .int .i64 lx, .bool false] 44 (0, 0)) := by rw [HV2.out]; exact heap_alloc_at _ _
                    have hz2 := KS2.size
                    have hq2 := lt_blk H2
                    have hzw2 := KV2.size
                    rw [← HV2.out]
                    clear HV2
                    have E2 := kp_block E1 KS2
                    refine hK.out _ _ ?_ (fun hHeld => ?_)
                    · exact HSx.out _ (HKX.out.trans KV2)
                    clear hK K
                    try simp only [Act.put, List.setIfInBounds_toArray, List.set_cons_zero, List.set_cons_succ]
                    refine wpAnyH_ready (rs := [3]) (by kernel_rfl) (by simp) ?_
                    refine AllReadyH.cons (o := Oper.mk (some 72) _ _ _ _ _) rfl (fun K hK => ?_) AllReadyH.nil
                    refine step_append_jobs V2 rfl _ _ 29 44 rfl Try.underlying29 sjb_info X.heap.size V0.heap.size rfl E2 (by omega) u.ja u.jl u.jc u.J rfl (HJX.out _ KV2) ?_
                    intro g1 cap1 V3 R3 hg3
                    have KV3 : Kp X V3 := kp_grown KV2 hg3 (by omega)
                    have hb1 := row_base R3
                    have hzw3 := KV3.size
                    have hz3 := hg3.size
                    have H3 := grown_block hg3 H2 (by omega)
                    refine hK.out _ _ ?_ (fun hHeld => ?_)
                    · exact HSx.out _ (HKX.out.trans KV3)
                    clear hK K
                    try simp only [Act.put, List.setIfInBounds_toArray, List.set_cons_zero, List.set_cons_succ]
                    refine wpAnyH_ready (rs := [17]) (by kernel_rfl) (by simp) ?_
                    refine AllReadyH.cons (o := Oper.mk (some 86) _ _ _ _ _) rfl (fun K hK => ?_) AllReadyH.nil
                    refine step_append_job V3 rfl _ _ 29 44 rfl Try.underlying29 sjb_info X.heap.size g1 u.jl cap1 u.J rfl R3 V1.heap.size ⟨(x : Int), u.now, z, t.c, lx, false⟩ rfl H3 hjn KV3.size ?_
                    intro g4 cap4 V4 R4 hg4
                    have KV4 : Kp X V4 := kp_grown KV3 hg4 hb1
                    have HR4 : Hid (V4.ownsRow X.heap.size 44 6 (.slice (some ⟨g4, 0, none⟩) (u.jl + 1) cap4) (u.jl + 1) (jobC (u.J ++ [⟨(x : Int), u.now, z, t.c, lx, false⟩]))) := R4
                    refine hK.out _ _ ?_ (fun hHeld => ?_)
                    · exact HSx.out _ (HKX.out.trans KV4)
                    clear hK K
                    try simp only [Act.put, List.setIfInBounds_toArray, List.set_cons_zero, List.set_cons_succ]
                    have HK4 : Hid (Kp X V4) := KV4
                    have B4 := PX.out.kp KV4
                    have q4 := B4.fr 11
                    have l4 := B4.lt
                    obtain ⟨u0, u1, u2, u3, u4, u5, u6, u7, u8, u9, u10, u11, u12, u13, u14⟩ := B4.all
                    refine wpAnyH_take (i := 18) (oi := Oper.mk (some 87) _ _ _ _ _) (v := ?v18Z016317) rfl (by kernel_rfl) (by kernel_rfl) (by kernel_rfl) (fun _ _ _ h => h) (Or.inl ⟨by rfl, ?hy18Z016317⟩) (by assumption) ?rest18Z016317
                    case hy18Z016317 => (intro w0 hSw; (try dsimp only at hSw); go_simp; try with_reducible rfl)
                    try simp only [Act.put, List.setIfInBounds_toArray, List.set_cons_zero, List.set_cons_succ]
                    refine wpAnyH_ready (rs := [19]) (by kernel_rfl) (by simp) ?_
                    refine AllReadyH.cons (o := Oper.mk none _ _ _ _ _) rfl (fun K hK => ?_) AllReadyH.nil
                    go_simp
                    go_wp2_with fail
                    obtain ⟨V5, HV5⟩ : ∃ V5, Hid (V5 = V4.setCell ⟨w5.heap.size, 11, none⟩ (.slice (some ⟨g4, 0, none⟩) (u.jl + 1) cap4)) := ⟨_, rfl⟩
                    have K55 : Hid (Kp w5 V5) := by show Kp _ _; rw [HV5.out]; exact (HKX.out.trans KV4).setCell (p := ⟨w5.heap.size, 11, none⟩) (Nat.le_refl _) _
                    have HB5 : Hid (B15 V5 w5.heap.size (u.setJ (some ⟨g4, 0, none⟩) (u.jl + 1) cap4 (u.J ++ [⟨(x : Int), u.now, z, t.c, lx, false⟩])) a) := by show B15 _ _ _ _; rw [HV5.out]; exact B4.setJ _ _ _ _
                    rw [← HV5.out]
                    refine hK.out _ _ ?_ (fun hHeld => ?_)
                    · exact HSx.out _ K55.out
                    clear hK K
                    try simp only [Act.put, List.setIfInBounds_toArray, List.set_cons_zero, List.set_cons_succ]
                    refine wpAnyH_done (by kernel_rfl) ?_ _
                    refine NoPanic.normal ?_
                    go_wp2
                    go_meet
                    exact ⟨rfl, V4, g4, cap4, HK4.out, HR4.out, HV5.out⟩
                · go_simp
                  go_wp2_with fail
                  obtain ⟨V1, HV1⟩ : ∃ V1, Hid (V1 = V0.alloc (.cells #[.int .i64 (x : Int), .int .i64 u.now, .int .i64 z, .int .i64 t.c, .int .i64 lx, .bool false] 44)) := ⟨_, rfl⟩
                  have KS1 : Kp V0 V1 := by rw [HV1.out]; exact (Kp.refl _).alloc _
                  have KV1 : Kp X V1 := KV0.trans KS1
                  have H1 : V1.heap[V0.heap.size]? = some (.cells #[.int .i64 (x : Int), .int .i64 u.now, .int .i64 z, .int .i64 t.c, .int .i64 lx, .bool false] 44 (0, 0)) := by rw [HV1.out]; exact heap_alloc_at _ _
                  have hz1 := KS1.size
                  have hq1 := lt_blk H1
                  have hzw1 := KV1.size
                  rw [← HV1.out]
                  clear HV1
                  refine hK.out _ _ ?_ (fun hHeld => ?_)
                  · exact HSx.out _ (HKX.out.trans KV1)
                  clear hK K
                  try simp only [Act.put, List.setIfInBounds_toArray, List.set_cons_zero, List.set_cons_succ]
                  refine wpAnyH_ready (rs := [0]) (by kernel_rfl) (by simp) ?_
                  refine AllReadyH.cons (o := Oper.mk (some 69) _ _ _ _ _) rfl (fun K hK => ?_) AllReadyH.nil
                  go_simp
                  go_wp2_with fail
                  obtain ⟨V2, HV2⟩ : ∃ V2, Hid (V2 = V1.alloc (.cells #[] 44)) := ⟨_, rfl⟩
                  have KS2 : Kp V1 V2 := by rw [HV2.out]; exact (Kp.refl _).alloc _
                  have KV2 : Kp X V2 := KV1.trans KS2
                  have E2 : V2.heap[V1.heap.size]? = some (.cells #[] 44 (0, 0)) := by rw [HV2.out]; exact heap_alloc_at _ _
                  have hz2 := KS2.size
                  have hq2 := lt_blk E2
                  have hzw2 := KV2.size
                  rw [← HV2.out]
                  clear HV2
                  have H2 := kp_block H1 KS2
                  refine hK.out _ _ ?_ (fun hHeld => ?_)
                  · exact HSx.out _ (HKX.out.trans KV2)
                  clear hK K
                  try simp only [Act.put, List.setIfInBounds_toArray, List.set_cons_zero, List.set_cons_succ]
                  refine wpAnyH_ready (rs := [3]) (by kernel_rfl) (by simp) ?_
                  refine AllReadyH.cons (o := Oper.mk (some 72) _ _ _ _ _) rfl (fun K hK => ?_) AllReadyH.nil
                  refine step_append_jobs V2 rfl _ _ 29 44 rfl Try.underlying29 sjb_info X.heap.size V1.heap.size rfl E2 (by omega) u.ja u.jl u.jc u.J rfl (HJX.out _ KV2) ?_
                  intro g1 cap1 V3 R3 hg3
                  have KV3 : Kp X V3 := kp_grown KV2 hg3 (by omega)
                  have hb1 := row_base R3
                  have hzw3 := KV3.size
                  have hz3 := hg3.size
                  have H3 := grown_block hg3 H2 (by omega)
                  refine hK.out _ _ ?_ (fun hHeld => ?_)
                  · exact HSx.out _ (HKX.out.trans KV3)
                  clear hK K
                  try simp only [Act.put, List.setIfInBounds_toArray, List.set_cons_zero, List.set_cons_succ]
                  refine wpAnyH_ready (rs := [17]) (by kernel_rfl) (by simp) ?_
                  refine AllReadyH.cons (o := Oper.mk (some 86) _ _ _ _ _) rfl (fun K hK => ?_) AllReadyH.nil
                  refine step_append_job V3 rfl _ _ 29 44 rfl Try.underlying29 sjb_info X.heap.size g1 u.jl cap1 u.J rfl R3 V0.heap.size ⟨(x : Int), u.now, z, t.c, lx, false⟩ rfl H3 hjn KV3.size ?_
                  intro g4 cap4 V4 R4 hg4
                  have KV4 : Kp X V4 := kp_grown KV3 hg4 hb1
                  have HR4 : Hid (V4.ownsRow X.heap.size 44 6 (.slice (some ⟨g4, 0, none⟩) (u.jl + 1) cap4) (u.jl + 1) (jobC (u.J ++ [⟨(x : Int), u.now, z, t.c, lx, false⟩]))) := R4
                  refine hK.out _ _ ?_ (fun hHeld => ?_)
                  · exact HSx.out _ (HKX.out.trans KV4)
                  clear hK K
                  try simp only [Act.put, List.setIfInBounds_toArray, List.set_cons_zero, List.set_cons_succ]
                  have HK4 : Hid (Kp X V4) := KV4
                  have B4 := PX.out.kp KV4
                  have q4 := B4.fr 11
                  have l4 := B4.lt
                  obtain ⟨u0, u1, u2, u3, u4, u5, u6, u7, u8, u9, u10, u11, u12, u13, u14⟩ := B4.all
                  refine wpAnyH_take (i := 18) (oi := Oper.mk (some 87) _ _ _ _ _) (v := ?v18Z160317) rfl (by kernel_rfl) (by kernel_rfl) (by kernel_rfl) (fun _ _ _ h => h) (Or.inl ⟨by rfl, ?hy18Z160317⟩) (by assumption) ?rest18Z160317
                  case hy18Z160317 => (intro w0 hSw; (try dsimp only at hSw); go_simp; try with_reducible rfl)
                  try simp only [Act.put, List.setIfInBounds_toArray, List.set_cons_zero, List.set_cons_succ]
                  refine wpAnyH_ready (rs := [19]) (by kernel_rfl) (by simp) ?_
                  refine AllReadyH.cons (o := Oper.mk none _ _ _ _ _) rfl (fun K hK => ?_) AllReadyH.nil
                  go_simp
                  go_wp2_with fail
                  obtain ⟨V5, HV5⟩ : ∃ V5, Hid (V5 = V4.setCell ⟨w5.heap.size, 11, none⟩ (.slice (some ⟨g4, 0, none⟩) (u.jl + 1) cap4)) := ⟨_, rfl⟩
                  have K55 : Hid (Kp w5 V5) := by show Kp _ _; rw [HV5.out]; exact (HKX.out.trans KV4).setCell (p := ⟨w5.heap.size, 11, none⟩) (Nat.le_refl _) _
                  have HB5 : Hid (B15 V5 w5.heap.size (u.setJ (some ⟨g4, 0, none⟩) (u.jl + 1) cap4 (u.J ++ [⟨(x : Int), u.now, z, t.c, lx, false⟩])) a) := by show B15 _ _ _ _; rw [HV5.out]; exact B4.setJ _ _ _ _
                  rw [← HV5.out]
                  refine hK.out _ _ ?_ (fun hHeld => ?_)
                  · exact HSx.out _ K55.out
                  clear hK K
                  try simp only [Act.put, List.setIfInBounds_toArray, List.set_cons_zero, List.set_cons_succ]
                  refine wpAnyH_done (by kernel_rfl) ?_ _
                  refine NoPanic.normal ?_
                  go_wp2
                  go_meet
                  exact ⟨rfl, V4, g4, cap4, HK4.out, HR4.out, HV5.out⟩
              case rest =>
                obtain ⟨rfl, V4, g4, cap4, k4, r4, e5⟩ := hcut
                obtain ⟨j, hje⟩ : ∃ j : Jb, (⟨(x : Int), u.now, z, t.c, lx, false⟩ : Jb) = j := ⟨_, rfl⟩
                rw [hje] at r4
                have HJd : Hid (j.d = z ∧ j.l = t.c ∧ j.s = false) := by rw [← hje]; exact ⟨rfl, rfl, rfl⟩
                have HJi : Hid (JI j) := by
                  have h1 := HTp.out
                  have h2 := HVG.out.now
                  have h3 := HZe.out
                  have h4 := HLx.out
                  have h5 := HVG.out.n
                  show JI j
                  rw [← hje]
                  exact ⟨(show I64 (x : Int) from ⟨by omega, by omega⟩), (show I64 u.now from ⟨by omega, by omega⟩), (show I64 z from ⟨by omega, by omega⟩), (show I64 t.c from ⟨by omega, by omega⟩), (show I64 lx from ⟨by omega, by omega⟩)⟩
                have HK4 : Hid (Kp X V4) := k4
                have HR4 : Hid (V4.ownsRow X.heap.size 44 6 (.slice (some ⟨g4, 0, none⟩) (u.jl + 1) cap4) (u.jl + 1) (jobC (u.J ++ [j]))) := r4
                have HC5 : Hid (wc = V4.setCell ⟨w5.heap.size, 11, none⟩ (.slice (some ⟨g4, 0, none⟩) (u.jl + 1) cap4)) := e5
                have HB5 : Hid (B15 wc w5.heap.size (u.setJ (some ⟨g4, 0, none⟩) (u.jl + 1) cap4 (u.J ++ [j])) a) := by show B15 _ _ _ _; rw [e5]; exact (PX.out.kp k4).setJ _ _ _ _
                have HK5c : Hid (Kp w5 wc) := by show Kp _ _; rw [e5]; exact (HKX.out.trans k4).setCell (p := ⟨w5.heap.size, 11, none⟩) (Nat.le_refl _) _
                have HS5 : Hid (LK.Step (fun k => k = w5.heap.size) V4 wc) := by show LK.Step _ _ _; rw [e5]; exact LK.Step.setCell (A := fun k => k = w5.heap.size) (LK.Step.refl _ _) (p := ⟨w5.heap.size, 11, none⟩) rfl _
                have HNc : Hid (NAt wc u.na u.nl u.N) := HV0.out.n.kept (HK.out.trans (HK50.out.trans HK5c.out))
                have hl5 : w5.heap.size < wc.heap.size := HB5.out.lt
                have hwl : w.heap.size < wc.heap.size := (HP.out _ (HK50.out.trans HK5c.out)).lt
                clear p0 p1 p2 p3 p4 p5 p6 p7 p8 p9 p10 p11 p12 p13 p14 y0 y1 y2 y3 hje k4 r4 e5
                obtain ⟨p0, p1, p2, p3, p4, p5, p6, p7, p8, p9, p10, p11, p12, p13, p14⟩ := (HP.out _ (HK50.out.trans HK5c.out)).all
                obtain ⟨u0, u1, u2, u3, u4, u5, u6, u7, u8, u9, u10, u11, u12, u13, u14⟩ := HB5.out.all
                obtain ⟨y0, y1, y2, y3⟩ := HTV.out _ (HK5.out.trans HK5c.out)
                go_upto_region 13 with (first
                  | (at_builtin; refine wpList_append_ints _ rfl _ _ 28 3 rfl Try.underlying28 num_info wc.heap.size wc.heap.size rfl (heap_alloc_at _ _) (Nat.le_refl _) u.na u.nl u.nc u.N rfl (HNc.out.kept ((Kp.refl _).alloc _)) ?_; intro gn capn w12 R12 hg12; have HR12 : Hid (w12.ownsRow wc.heap.size 3 1 (.slice (some ⟨gn, 0, none⟩) u.nl capn) u.nl (u.N.map (Value.int .i64))) := R12; have HKc12 : Hid (Kp wc w12) := kp_grown ((Kp.refl _).alloc _) hg12 (Nat.le_refl _); have B12 := HB5.out.kp HKc12.out; have hl12 := B12.lt; have q12 := B12.fr 10; obtain ⟨z0, z1, z2, z3, z4, z5, z6, z7, z8, z9, z10, z11, z12, z13, z14⟩ := B12.all; clear R12 hg12)
                  | fail)
                obtain ⟨W13, HW13⟩ : ∃ W13, Hid (W13 = w12.setCell ⟨w5.heap.size, 10, none⟩ (.slice (some ⟨gn, 0, none⟩) u.nl capn)) := ⟨_, rfl⟩
                rw [← HW13.out]
                have hgn : wc.heap.size ≤ gn := row_base HR12.out
                have HB13 : Hid (B15 W13 w5.heap.size ((u.setJ (some ⟨g4, 0, none⟩) (u.jl + 1) cap4 (u.J ++ [j])).setN (some ⟨gn, 0, none⟩) u.nl capn u.N) a) := by show B15 _ _ _ _; rw [HW13.out]; exact B12.setN _ _ _ _
                have HS13 : Hid (LK.Step (fun k => k = w5.heap.size) w12 W13) := by show LK.Step _ _ _; rw [HW13.out]; exact LK.Step.setCell (A := fun k => k = w5.heap.size) (LK.Step.refl _ _) (p := ⟨w5.heap.size, 10, none⟩) rfl _
                have HR13 : Hid (W13.ownsRow wc.heap.size 3 1 (.slice (some ⟨gn, 0, none⟩) u.nl capn) u.nl (u.N.map (Value.int .i64))) := LK.row_kept HS13.out HR12.out (fun k hk e => by simp only [Value.ownBlock, Option.some.injEq] at hk; omega)
                have HK13 : Hid (Kp w5 W13) := by show Kp _ _; rw [HW13.out]; exact (HK5c.out.trans HKc12.out).setCell (p := ⟨w5.heap.size, 10, none⟩) (Nat.le_refl _) _
                clear p0 p1 p2 p3 p4 p5 p6 p7 p8 p9 p10 p11 p12 p13 p14 u0 u1 u2 u3 u4 u5 u6 u7 u8 u9 u10 u11 u12 u13 u14 z0 z1 z2 z3 z4 z5 z6 z7 z8 z9 z10 z11 z12 z13 z14 y0 y1 y2 y3 B12 hl12 q12 HW13
                obtain ⟨u0, u1, u2, u3, u4, u5, u6, u7, u8, u9, u10, u11, u12, u13, u14⟩ := HB13.out.all
                obtain ⟨y0, y1, y2, y3⟩ := HTV.out _ (HK5.out.trans HK13.out)
                obtain ⟨hgl, hgf, hgc⟩ := num_cell HR13.out (show x < u.nl by omega)
                have hgfx := hgf x
                have hl13 : w5.heap.size < W13.heap.size := HB13.out.lt
                have s1' : wrap64 (u.now + t.p) = z := (IntWalk.i64_left _).symm.trans s1
                have u10' : W13.cell? ⟨w5.heap.size, 10, none⟩ = some (.slice (some ⟨gn, 0, none⟩) u.nl capn) := u10
                clear u0 u1 u2 u3 u4 u5 u6 u7 u8 u9 u10 u11 u12 u13 u14 hgf
                go_upto_region 14 with fail
                obtain ⟨W14, HW14⟩ : ∃ W14, Hid (W14 = W13.setCell ⟨gn, x, none⟩ (.int .i64 z)) := ⟨_, rfl⟩
                rw [← HW14.out]
                obtain ⟨u2, hu2⟩ : ∃ u2, u.came (some ⟨g4, 0, none⟩) cap4 (some ⟨gn, 0, none⟩) capn x j z = u2 := ⟨_, rfl⟩
                have HB14 : Hid (B15 W14 w5.heap.size u2 a) := by
                  show B15 _ _ _ _
                  rw [← hu2, HW14.out]
                  exact ⟨(HB13.out.other (p := ⟨gn, x, none⟩) (by show w5.heap.size ≠ gn; omega) (.int .i64 z)).blk⟩
                have HK14 : Hid (Kp w5 W14) := by show Kp _ _; rw [HW14.out]; exact HK13.out.setCell (p := ⟨gn, x, none⟩) (by show w5.heap.size ≤ gn; omega) _
                have HK140 : Hid (Kp W0 W14) := HK50.out.trans HK14.out
                have HKw14 : Hid (Kp w W14) := HK.out.trans HK140.out
                have HVL2 : Hid (VL W14 u2) := by
                  have hv := HV0.out
                  have h4 : g4 < V4.heap.size := (HR4.out.lt g4 rfl).2
                  have h5 := HS5.out.size
                  have hs5 : wc.heap.size = V4.heap.size := by rw [HC5.out]; exact World.size_setCell _ _ _
                  have h6 : X.heap.size ≤ g4 := row_base HR4.out
                  have h7 : w5.heap.size < X.heap.size := PX.out.lt
                  have st : LK.Step (fun k => k = w5.heap.size ∨ k = gn) V4 W14 := by
                    have a1 : LK.Step (fun k => k = w5.heap.size ∨ k = gn) V4 wc := HS5.out.mono (fun _ _ q => .inl q)
                    have a2 : LK.Step (fun k => k = w5.heap.size ∨ k = gn) wc w12 := (LK.kp_of_tb HKc12.out).any
                    have a3 : LK.Step (fun k => k = w5.heap.size ∨ k = gn) w12 W13 := HS13.out.mono (fun _ _ q => .inl q)
                    rw [HW14.out]
                    exact (a1.trans (a2.trans a3)).setCell (p := ⟨gn, x, none⟩) (.inr rfl) _
                  have rj : W14.ownsRow X.heap.size 44 6 (.slice (some ⟨g4, 0, none⟩) (u.jl + 1) cap4) (u.jl + 1) (jobC (u.J ++ [j])) := LK.row_kept st HR4.out (fun k hk e => by simp only [Value.ownBlock, Option.some.injEq] at hk; omega)
                  have rn : W14.ownsRow wc.heap.size 3 1 (.slice (some ⟨gn, 0, none⟩) u.nl capn) u.nl ((u.N.set x z).map (Value.int .i64)) := by rw [HW14.out]; exact num_set HR13.out z
                  have hz1 := HZe.out
                  have hz2 := HVG.out.now
                  have hz3 := HTp.out.1
                  rw [← hu2]
                  refine ⟨hv.m.kept HKw14.out, hv.t.kept HKw14.out, nat_of_row rn (fun q hq => ?_) (by have := hv.n.by'; exact this), jat_of_row rj (fun q hq => ?_) (by have := HVG.out.jn; show (u.jl + 1) * 48 ≤ _; omega), hv.h.kp (LK.kp_of_tb HKw14.out), hv.hy⟩
                  · rcases List.mem_or_eq_of_mem_set hq with q1 | q1
                    · exact hv.n.at'.2.1 _ q1
                    · subst q1; exact ⟨by omega, by omega⟩
                  · rcases List.mem_append.1 hq with q1 | q1
                    · exact hv.j.wf _ q1
                    · rw [List.mem_singleton] at q1; subst q1; exact HJi.out
                have HLe : Hid (VG u2 → atI u a ≤ atI u2 a) := fun g2 => by
                  have hv := HV0.out
                  rw [← hu2] at g2 ⊢
                  exact at_came HVG.out g2 hv.h.ln HZ.out hv.j.ln hv.n.at'.1 HTg.out hx (by simpa using hp) HNn.out HPl.out HZe.out HJd.out HHa.out.1 HHa.out.2
                have HSy : Hid (∀ W, Kp W14 W → W.cell? ⟨w.heap.size, 0, none⟩ = some (.slice u.m.aL u.m.lL u.m.cL) ∧ W.cell? ⟨w.heap.size, 1, none⟩ = some (.slice u.m.aS u.m.lS u.m.cS) ∧ W.cell? ⟨w.heap.size, 2, none⟩ = some (.slice u.m.aD u.m.lD u.m.cD) ∧ W.cell? ⟨w.heap.size, 3, none⟩ = some (.int .i64 u.m.idle) ∧ W.cell? ⟨w.heap.size, 4, none⟩ = some (.int .i64 u.m.crit) ∧ W.cell? ⟨w.heap.size, 5, none⟩ = some (.int .i64 u.m.sw) ∧ W.cell? ⟨w.heap.size, 6, none⟩ = some (.int .i64 u.m.swe) ∧ W.cell? ⟨w.heap.size, 7, none⟩ = some (.int .i64 u.m.sems) ∧ W.cell? ⟨w.heap.size, 8, none⟩ = some (.int .i64 u.m.hor) ∧ W.cell? ⟨w.heap.size, 9, none⟩ = some (.slice u.ta u.tl u.tc) ∧ W.cell? ⟨w.heap.size, 10, none⟩ = some (.slice u.na u.nl u.nc) ∧ W.cell? ⟨w.heap.size, 11, none⟩ = some (.slice u.ja u.jl u.jc) ∧ W.cell? ⟨w.heap.size, 12, none⟩ = some (.slice u.ha u.hl u.hc) ∧ W.cell? ⟨w.heap.size, 13, none⟩ = some (.int .i64 u.now) ∧ W.cell? ⟨w.heap.size, 14, none⟩ = some (.int .i64 a) ∧ W.cell? ⟨w5.heap.size, 0, none⟩ = some (.slice u2.m.aL u2.m.lL u2.m.cL) ∧ W.cell? ⟨w5.heap.size, 1, none⟩ = some (.slice u2.m.aS u2.m.lS u2.m.cS) ∧ W.cell? ⟨w5.heap.size, 2, none⟩ = some (.slice u2.m.aD u2.m.lD u2.m.cD) ∧ W.cell? ⟨w5.heap.size, 3, none⟩ = some (.int .i64 u2.m.idle) ∧ W.cell? ⟨w5.heap.size, 4, none⟩ = some (.int .i64 u2.m.crit) ∧ W.cell? ⟨w5.heap.size, 5, none⟩ = some (.int .i64 u2.m.sw) ∧ W.cell? ⟨w5.heap.size, 6, none⟩ = some (.int .i64 u2.m.swe) ∧ W.cell? ⟨w5.heap.size, 7, none⟩ = some (.int .i64 u2.m.sems) ∧ W.cell? ⟨w5.heap.size, 8, none⟩ = some (.int .i64 u2.m.hor) ∧ W.cell? ⟨w5.heap.size, 9, none⟩ = some (.slice u2.ta u2.tl u2.tc) ∧ W.cell? ⟨w5.heap.size, 10, none⟩ = some (.slice u2.na u2.nl u2.nc) ∧ W.cell? ⟨w5.heap.size, 11, none⟩ = some (.slice u2.ja u2.jl u2.jc) ∧ W.cell? ⟨w5.heap.size, 12, none⟩ = some (.slice u2.ha u2.hl u2.hc) ∧ W.cell? ⟨w5.heap.size, 13, none⟩ = some (.int .i64 u2.now) ∧ W.cell? ⟨w5.heap.size, 14, none⟩ = some (.int .i64 a)) := fun W q => by
                  obtain ⟨z0, z1, z2, z3, z4, z5, z6, z7, z8, z9, z10, z11, z12, z13, z14⟩ := (HP.out _ (HK140.out.trans q)).all
                  exact ⟨z0, z1, z2, z3, z4, z5, z6, z7, z8, z9, z10, z11, z12, z13, z14, (HB14.out.kp q).all⟩
                have HGd := HG2.out u2 W14 HVL2.out
                have HGt : Hid (goodV u2 a = true → VG u2) := fun q => HD2.out u2 W14 HVL2.out q
                have HAt2 : Hid (VG u2 → ∀ W, Kp W14 W → Calls Try.prog 14 #[.agg #[.slice u2.m.aL u2.m.lL u2.m.cL, .slice u2.m.aS u2.m.lS u2.m.cS, .slice u2.m.aD u2.m.lD u2.m.cD, .int .i64 u2.m.idle, .int .i64 u2.m.crit, .int .i64 u2.m.sw, .int .i64 u2.m.swe, .int .i64 u2.m.sems, .int .i64 u2.m.hor, .slice u2.ta u2.tl u2.tc, .slice u2.na u2.nl u2.nc, .slice u2.ja u2.jl u2.jc, .slice u2.ha u2.hl u2.hc, .int .i64 u2.now, .int .i64 a], .int .i64 a] W fun e w' => e = .returned (.int .i64 (atI u2 a)) ∧ Kp W w') := fun g2 W q => HA2.out u2 W (HVL2.out.kept q) g2 HHa.out
                have HAt1 : Hid (∀ W, Kp W14 W → Calls Try.prog 14 #[.agg #[.slice u.m.aL u.m.lL u.m.cL, .slice u.m.aS u.m.lS u.m.cS, .slice u.m.aD u.m.lD u.m.cD, .int .i64 u.m.idle, .int .i64 u.m.crit, .int .i64 u.m.sw, .int .i64 u.m.swe, .int .i64 u.m.sems, .int .i64 u.m.hor, .slice u.ta u.tl u.tc, .slice u.na u.nl u.nc, .slice u.ja u.jl u.jc, .slice u.ha u.hl u.hc, .int .i64 u.now, .int .i64 a], .int .i64 a] W fun e w' => e = .returned (.int .i64 (atI u a)) ∧ Kp W w') := fun W q => HA2.out u W (HV0.out.kept (HKw14.out.trans q)) HVG.out HHa.out
                have HGd' : Hid _ := HGd
                clear y0 y1 y2 y3 hgl hgc hgfx u10' hu2 HGd HG2 HA2 HD2 HW14
                obtain ⟨p0, p1, p2, p3, p4, p5, p6, p7, p8, p9, p10, p11, p12, p13, p14⟩ := HB14.out.all
                generalize hgd2 : goodV u2 a = g2 at *
                clear hgd2
                cases g2 with
                | false =>
                  go_wp2_with fail
                  refine Calls.mono HGd'.out ?_
                  rintro e w15 ⟨rfl, k15⟩
                  go_wp2_with fail
                  refine (sanswers_any _).mono ?_
                  rintro e w16 ⟨rfl, k16⟩
                  go_wp2
                  go_ret
                  exact ⟨rfl, HE.out _ (HKw14.out.trans (k15.trans k16))⟩
                | true =>
                  have g3 : VG u2 := HGt.out rfl
                  have hle := HLe.out g3
                  have HAt2' : Hid _ := HAt2.out g3
                  clear HGt HLe HAt2 g3
                  generalize atI u2 a = Y at *
                  generalize atI u a = Z at *
                  go_wp2_with fail
                  refine Calls.mono HGd'.out ?_
                  rintro e w15 ⟨rfl, k15⟩
                  have HK15 : Hid (Kp W14 w15) := k15
                  clear p0 p1 p2 p3 p4 p5 p6 p7 p8 p9 p10 p11 p12 p13 p14 k15 HGd'
                  obtain ⟨p0, p1, p2, p3, p4, p5, p6, p7, p8, p9, p10, p11, p12, p13, p14, y0, y1, y2, y3, y4, y5, y6, y7, y8, y9, y10, y11, y12, y13, y14⟩ := HSy.out _ HK15.out
                  go_wp2_with fail
                  go_region_held3 (fun w' => w'.cell? ⟨w.heap.size, 0, none⟩ = some (.slice u.m.aL u.m.lL u.m.cL) ∧ w'.cell? ⟨w.heap.size, 1, none⟩ = some (.slice u.m.aS u.m.lS u.m.cS) ∧ w'.cell? ⟨w.heap.size, 2, none⟩ = some (.slice u.m.aD u.m.lD u.m.cD) ∧ w'.cell? ⟨w.heap.size, 3, none⟩ = some (.int .i64 u.m.idle) ∧ w'.cell? ⟨w.heap.size, 4, none⟩ = some (.int .i64 u.m.crit) ∧ w'.cell? ⟨w.heap.size, 5, none⟩ = some (.int .i64 u.m.sw) ∧ w'.cell? ⟨w.heap.size, 6, none⟩ = some (.int .i64 u.m.swe) ∧ w'.cell? ⟨w.heap.size, 7, none⟩ = some (.int .i64 u.m.sems) ∧ w'.cell? ⟨w.heap.size, 8, none⟩ = some (.int .i64 u.m.hor) ∧ w'.cell? ⟨w.heap.size, 9, none⟩ = some (.slice u.ta u.tl u.tc) ∧ w'.cell? ⟨w.heap.size, 10, none⟩ = some (.slice u.na u.nl u.nc) ∧ w'.cell? ⟨w.heap.size, 11, none⟩ = some (.slice u.ja u.jl u.jc) ∧ w'.cell? ⟨w.heap.size, 12, none⟩ = some (.slice u.ha u.hl u.hc) ∧ w'.cell? ⟨w.heap.size, 13, none⟩ = some (.int .i64 u.now) ∧ w'.cell? ⟨w.heap.size, 14, none⟩ = some (.int .i64 a) ∧ w'.cell? ⟨w5.heap.size, 0, none⟩ = some (.slice u2.m.aL u2.m.lL u2.m.cL) ∧ w'.cell? ⟨w5.heap.size, 1, none⟩ = some (.slice u2.m.aS u2.m.lS u2.m.cS) ∧ w'.cell? ⟨w5.heap.size, 2, none⟩ = some (.slice u2.m.aD u2.m.lD u2.m.cD) ∧ w'.cell? ⟨w5.heap.size, 3, none⟩ = some (.int .i64 u2.m.idle) ∧ w'.cell? ⟨w5.heap.size, 4, none⟩ = some (.int .i64 u2.m.crit) ∧ w'.cell? ⟨w5.heap.size, 5, none⟩ = some (.int .i64 u2.m.sw) ∧ w'.cell? ⟨w5.heap.size, 6, none⟩ = some (.int .i64 u2.m.swe) ∧ w'.cell? ⟨w5.heap.size, 7, none⟩ = some (.int .i64 u2.m.sems) ∧ w'.cell? ⟨w5.heap.size, 8, none⟩ = some (.int .i64 u2.m.hor) ∧ w'.cell? ⟨w5.heap.size, 9, none⟩ = some (.slice u2.ta u2.tl u2.tc) ∧ w'.cell? ⟨w5.heap.size, 10, none⟩ = some (.slice u2.na u2.nl u2.nc) ∧ w'.cell? ⟨w5.heap.size, 11, none⟩ = some (.slice u2.ja u2.jl u2.jc) ∧ w'.cell? ⟨w5.heap.size, 12, none⟩ = some (.slice u2.ha u2.hl u2.hc) ∧ w'.cell? ⟨w5.heap.size, 13, none⟩ = some (.int .i64 u2.now) ∧ w'.cell? ⟨w5.heap.size, 14, none⟩ = some (.int .i64 a)) (go_keep) (first
                    | (go_at_call 10; refine (sanswers_any _).mono ?_; rintro e w16 ⟨rfl, k16⟩; have K16 : Kp W14 w16 := HK15.out.trans (by first | exact (TB.kp_drew _).trans k16 | exact k16); clear k16; obtain ⟨z0, z1, z2, z3, z4, z5, z6, z7, z8, z9, z10, z11, z12, z13, z14, x0, x1, x2, x3, x4, x5, x6, x7, x8, x9, x10, x11, x12, x13, x14⟩ := HSy.out _ K16)
                    | (go_at_call 14; refine (HAt2'.out _ K16).mono ?_; rintro e w17 ⟨rfl, k17⟩; have K17 := K16.trans k17; clear k17 HAt2'; obtain ⟨z0, z1, z2, z3, z4, z5, z6, z7, z8, z9, z10, z11, z12, z13, z14, x0, x1, x2, x3, x4, x5, x6, x7, x8, x9, x10, x11, x12, x13, x14⟩ := HSy.out _ K17)
                    | (go_at_call 14; refine (HAt1.out _ K17).mono ?_; rintro e w18 ⟨rfl, k18⟩; have K18 := K17.trans k18; clear k18; obtain ⟨z0, z1, z2, z3, z4, z5, z6, z7, z8, z9, z10, z11, z12, z13, z14, x0, x1, x2, x3, x4, x5, x6, x7, x8, x9, x10, x11, x12, x13, x14⟩ := HSy.out _ K18)
                    | fail)
                  all_goals
                    go_wp2
                    go_ret
                    exact ⟨by simp, HE.out _ (HKw14.out.trans K18)⟩

end Go.Proofs.Ytaibpanceiapmaa.SK
