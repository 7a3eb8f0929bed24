/- What a job of any task takes at most, at any level, and which part that is. -/
import Derived.Test.YtgecandbbmljbaaAdmAns
import Derived.Test.YtgecandbbmljbaaAdmGood
namespace Go.Proofs.Ytgecandbbmljbaa.AD
open Go.ChangeShapes Go.WideShapes Go.ChangeAt Go.RowKit Go.Proofs.Ytgecandbbmljbaa.AR Go.Proofs.Ytgecandbbmljbaa.TB Go.Proofs.Ytgecandbbmljbaa.TK Go.Proofs.Ytgecandbbmljbaa.FX

/-- a machine's box, a task's, and a list of that task alone -/
theorem three_box (w : World) (m : Mc) (t : Tk) : ∃ W0, Hid (W0 = ((w.alloc (.cells #[.slice m.aL m.lL m.cL, .slice m.aS m.lS m.cS, .slice m.aD m.lD m.cD, .int .i64 m.idle, .int .i64 m.crit, .int .i64 m.sw, .int .i64 m.swe, .int .i64 m.sems, .int .i64 m.hor] 26)).alloc (.cells #[.int .i64 t.p, .int .i64 t.c, .slice t.sa t.sl t.sc, .slice t.da t.dl t.dc] 29)).alloc (.cells #[.int .i64 t.p, .int .i64 t.c, .slice t.sa t.sl t.sc, .slice t.da t.dl t.dc] 29)) ∧
    Kp w W0 ∧ B9 W0 w.heap.size m ∧ TB4 W0 (w.heap.size + 1) t ∧ TB4 W0 (w.heap.size + 1 + 1) t := by
  obtain ⟨W, HW, K, P, X⟩ := two_box w m t
  have hs : W.heap.size = w.heap.size + 1 + 1 := by rw [HW.out, World.size_alloc, World.size_alloc]
  refine ⟨W.alloc (.cells #[.int .i64 t.p, .int .i64 t.c, .slice t.sa t.sl t.sc, .slice t.da t.dl t.dc] 29), by rw [HW.out]; rfl, K.alloc _, P.kp ((Kp.refl _).alloc _), X.kp ((Kp.refl _).alloc _), ?_⟩
  have := b4_new (w := W) (a := .int .i64 t.p) (b := .int .i64 t.c) (c := .slice t.sa t.sl t.sc) (d := .slice t.da t.dl t.dc) (Kp.refl _)
  rw [hs] at this
  exact this

theorem lat_one {w : World} {g : Nat} {t : Tk} (h : TB4 w g t) (ht : TAt w t) : LAt w (some ⟨g, 0, none⟩) 1 [t] := by
  refine ⟨rfl, fun u hu => by simp only [List.mem_cons, List.not_mem_nil, or_false] at hu; subst hu; exact ht, .inr ⟨g, 0, rfl, h.lt, fun i j u hi hj => ?_⟩, by omega⟩
  obtain ⟨c0, c1, c2, c3⟩ := h.all
  match i, hi with
  | 0, hi =>
    simp only [List.getElem?_cons_zero, Option.some.injEq] at hi
    subst hi
    match j, hj with
    | 0, _ => exact c0
    | 1, _ => exact c1
    | 2, _ => exact c2
    | 3, _ => exact c3
  | i + 1, hi => simp at hi

set_option maxRecDepth 100000 in
set_option maxHeartbeats 8000000 in
theorem admitParts_go (m : Mc) (t : Tk) (lev : Int) (w : World) (hm : m.At w) (h : TAt w t) :
    Calls Try.prog 3 #[m.v, t.v, .int .i64 lev] w fun e w' => e = .returned (.bool true) ∧ Below w.heap.size w w' := by
  have HE : Hid (∀ w', Kp w w' → Below w.heap.size w w') := fun w' q => q
  obtain ⟨W0, HW, K0, P0, X0, Y0⟩ := three_box w m t
  have HG : Hid (Calls Try.prog 9 #[m.v, .slice (some ⟨w.heap.size + 1 + 1, 0, none⟩) 1 1] W0 fun e w' => e = .returned (.bool (goodB m [t])) ∧ Kp W0 w') := good_any m _ _ _ [t] W0 (hm.kept K0) (lat_one Y0 (h.kept K0))
  have HD : Hid (goodB m [t] = true → Bd m ∧ (0 ≤ t.c ∧ t.c ≤ 4096)) := fun q => ⟨(good_t q).1.b, ((good_t q).1.t t (by simp)).c⟩
  have H1 : Hid (Bd m ∧ (0 ≤ t.c ∧ t.c ≤ 4096) → ∀ W, Kp w W → Calls Try.prog 11 #[m.v, t.v, .int .i64 lev] W fun e w' => e = .returned (.int .i64 (qn m t.c lev)) ∧ Kp W w') := fun d W k => tquanta_any m t lev W (hm.kept k) d.1 d.2
  have H2 : Hid (Bd m ∧ (0 ≤ t.c ∧ t.c ≤ 4096) → ∀ W, Kp w W → Calls Try.prog 12 #[m.v, t.v, .int .i64 lev] W fun e w' => e = .returned (.int .i64 (ut (qn m t.c lev) t.p)) ∧ Kp W w') := fun d W k => part_any m t lev W (hm.kept k) d.1 d.2
  have H3 : Hid (Bd m ∧ (0 ≤ t.c ∧ t.c ≤ 4096) → ∀ W, Kp w W → Calls Try.prog 13 #[m.v, t.v, .int .i64 lev] W fun e w' => e = .returned (.int .i64 (ut (qn m t.c lev) t.p)) ∧ Kp W w') := fun d W k => rpart_any m t lev W (hm.kept k) d.1 d.2
  have HLv : Hid (∀ W (k : Nat), Kp w W → k < m.lL → ∃ b off, m.aL = some ⟨b, off, none⟩ ∧ b < W.heap.size ∧ W.cell? ⟨b, off + k * 2, none⟩ = some (.int .i64 (fd m.rL k 0))) := fun W k q hk => lev_at hm hk q
  have HP : Hid (∀ W, Kp W0 W → B9 W w.heap.size m) := fun W k => P0.kp k
  have HX : Hid (∀ W, Kp W0 W → TB4 W (w.heap.size + 1) t) := fun W k => X0.kp k
  have HK : Hid (Kp w W0) := K0
  generalize goodB m [t] = gd at *
  obtain ⟨p0, p1, p2, p3, p4, p5, p6, p7, p8⟩ := P0.all
  obtain ⟨x0, x1, x2, x3⟩ := X0.all
  unfold Mc.v Tk.v at *
  clear P0 K0 X0 Y0 hm h
  cases gd with
  | false =>
    go_enter Try.func3, Try.ntmps3
    go_wp2_with fail
    rw [← HW.out]
    refine HG.out.mono ?_
    rintro e w1 ⟨rfl, k1⟩
    go_wp2_with fail
    refine (aanswers_any _).mono ?_
    rintro e w2 ⟨rfl, k2⟩
    go_wp2
    go_ret
    exact ⟨rfl, HE.out _ ((HK.out.trans k1).trans k2)⟩
  | true =>
    have d := HD.out rfl
    have H1' := H1.out d
    have H2' := H2.out d
    have H3' := H3.out d
    clear H1 H2 H3 HD
    by_cases g : 0 ≤ lev ∧ lev < m.lL
    · obtain ⟨k, rfl⟩ : ∃ k : Nat, lev = (k : Int) := ⟨lev.toNat, by omega⟩
      have hk : k < m.lL := by omega
      have hk' : (k : Int) < (m.lL : Int) := by omega
      have hk0 : (0 : Int) ≤ (k : Int) := by omega
      have hkn : (k : Int).toNat = k := by omega
      have l := d.1.lev k hk
      have q := mul_bound (a := t.c) (b := fd m.rL k 0) (A := 4096) (B := 256) d.2.1 d.2.2 (by omega) l.2
      have s := d.1.sw
      rw [qn_in g, hkn] at H1' H2' H3'
      have s1 : IntKind.i64.wrap (t.c * fd m.rL k 0) = t.c * fd m.rL k 0 := wrapI (by omega)
      have s2 : IntKind.i64.wrap (2 * m.sw) = 2 * m.sw := wrapI (by omega)
      have s3 : IntKind.i64.wrap (t.c * fd m.rL k 0 + 2 * m.sw) = t.c * fd m.rL k 0 + 2 * m.sw := wrapI (by omega)
      have HLk : Hid (∀ W, Kp w W → ∃ b off, m.aL = some ⟨b, off, none⟩ ∧ b < W.heap.size ∧ W.cell? ⟨b, off + k * 2, none⟩ = some (.int .i64 (fd m.rL k 0))) := fun W q => HLv.out W k q hk
      generalize fd m.rL k 0 = x at *
      have H1 : Hid _ := H1'
      have H2 : Hid _ := H2'
      have H3 : Hid _ := H3'
      clear H1' H2' H3' HLv g d q l s
      go_enter Try.func3, Try.ntmps3
      try dsimp only [List.append]
      go_wp2_with fail
      rw [← HW.out]
      clear HW
      refine HG.out.mono ?_
      rintro e w1 ⟨rfl, k1⟩
      have HK1 : Hid (Kp W0 w1) := k1
      clear k1 p0 p1 p2 p3 p4 p5 p6 p7 p8 x0 x1 x2 x3 HG
      obtain ⟨p0, p1, p2, p3, p4, p5, p6, p7, p8⟩ := (HP.out _ HK1.out).all
      obtain ⟨x0, x1, x2, x3⟩ := (HX.out _ HK1.out).all
      go_wp2_with fail
      obtain ⟨b, off, ha, hlt, hz⟩ := HLk.out _ (HK.out.trans HK1.out)
      rw [ha] at p0
      clear ha HLk
      go_region_held3 (fun w' => w'.cell? ⟨b, off + k * 2, none⟩ = some (.int .i64 x) ∧ w'.cell? ⟨w.heap.size + 1, 0, none⟩ = some (.int .i64 t.p) ∧ w'.cell? ⟨w.heap.size + 1, 1, none⟩ = some (.int .i64 t.c) ∧ w'.cell? ⟨w.heap.size + 1, 2, none⟩ = some (.slice t.sa t.sl t.sc) ∧ w'.cell? ⟨w.heap.size + 1, 3, none⟩ = some (.slice t.da t.dl t.dc) ∧ w'.cell? ⟨w.heap.size, 0, none⟩ = some (.slice (some ⟨b, off, none⟩) m.lL m.cL) ∧ w'.cell? ⟨w.heap.size, 5, none⟩ = some (.int .i64 m.sw)) (go_keep) (fail)
      all_goals
        clear p0 p1 p2 p3 p4 p5 p6 p7 p8 x0 x1 x2 x3 hz
        obtain ⟨V, HV⟩ : ∃ V, Hid (V = w1.drew) := ⟨_, rfl⟩
        have HKd : Hid (Kp W0 V) := by show Kp _ _; rw [HV.out]; exact HK1.out.trans (tkp_drew _)
        rw [← HV.out]
        clear HV
        obtain ⟨p0, p1, p2, p3, p4, p5, p6, p7, p8⟩ := (HP.out _ HKd.out).all
        obtain ⟨x0, x1, x2, x3⟩ := (HX.out _ HKd.out).all
        generalize t.c * x + 2 * m.sw = n at *
        go_wp2_with fail
        go_region_held3 (fun w' => w'.cell? ⟨w.heap.size, 0, none⟩ = some (.slice m.aL m.lL m.cL) ∧ w'.cell? ⟨w.heap.size, 1, none⟩ = some (.slice m.aS m.lS m.cS) ∧ w'.cell? ⟨w.heap.size, 2, none⟩ = some (.slice m.aD m.lD m.cD) ∧ w'.cell? ⟨w.heap.size, 3, none⟩ = some (.int .i64 m.idle) ∧ w'.cell? ⟨w.heap.size, 4, none⟩ = some (.int .i64 m.crit) ∧ w'.cell? ⟨w.heap.size, 5, none⟩ = some (.int .i64 m.sw) ∧ w'.cell? ⟨w.heap.size, 6, none⟩ = some (.int .i64 m.swe) ∧ w'.cell? ⟨w.heap.size, 7, none⟩ = some (.int .i64 m.sems) ∧ w'.cell? ⟨w.heap.size, 8, none⟩ = some (.int .i64 m.hor) ∧ w'.cell? ⟨w.heap.size + 1, 0, none⟩ = some (.int .i64 t.p) ∧ w'.cell? ⟨w.heap.size + 1, 1, none⟩ = some (.int .i64 t.c) ∧ w'.cell? ⟨w.heap.size + 1, 2, none⟩ = some (.slice t.sa t.sl t.sc) ∧ w'.cell? ⟨w.heap.size + 1, 3, none⟩ = some (.slice t.da t.dl t.dc)) (go_keep) (first
          | (go_at_call 10; refine (aanswers_any _).mono ?_; rintro e w2 ⟨rfl, k2⟩; have K2 : Kp W0 w2 := (by first | exact (HKd.out.trans (tkp_drew _)).trans k2 | exact HKd.out.trans k2 | exact (HK1.out.trans (tkp_drew _)).trans k2 | exact (HK1.out.trans (tkp_drewN _ _)).trans k2); clear k2; obtain ⟨z0, z1, z2, z3, z4, z5, z6, z7, z8⟩ := (HP.out _ K2).all; obtain ⟨y0, y1, y2, y3⟩ := (HX.out _ K2).all)
          | (go_at_call 11; refine (H1.out _ (HK.out.trans K2)).mono ?_; rintro e w3 ⟨rfl, k3⟩; have K3 := K2.trans k3; clear k3; obtain ⟨z0, z1, z2, z3, z4, z5, z6, z7, z8⟩ := (HP.out _ K3).all; obtain ⟨y0, y1, y2, y3⟩ := (HX.out _ K3).all)
          | (go_at_call 12; refine (H2.out _ (HK.out.trans K3)).mono ?_; rintro e w4 ⟨rfl, k4⟩; have K4 := K3.trans k4; clear k4; obtain ⟨z0, z1, z2, z3, z4, z5, z6, z7, z8⟩ := (HP.out _ K4).all; obtain ⟨y0, y1, y2, y3⟩ := (HX.out _ K4).all)
          | (go_at_call 13; refine (H3.out _ (HK.out.trans K4)).mono ?_; rintro e w5 ⟨rfl, k5⟩; have K5 := K4.trans k5; clear k5; obtain ⟨z0, z1, z2, z3, z4, z5, z6, z7, z8⟩ := (HP.out _ K5).all; obtain ⟨y0, y1, y2, y3⟩ := (HX.out _ K5).all)
          | fail)
        all_goals
          go_wp2
          go_ret
          exact ⟨by simp, HE.out _ (HK.out.trans K5)⟩
    · rw [qn_out g] at H1' H2' H3'
      have H1 : Hid _ := H1'
      have H2 : Hid _ := H2'
      have H3 : Hid _ := H3'
      clear H1' H2' H3' HLv d
      by_cases c1 : lev < 0
      · clear g
        go_enter Try.func3, Try.ntmps3
        try dsimp only [List.append]
        go_wp2_with fail
        rw [← HW.out]
        clear HW
        refine HG.out.mono ?_
        rintro e w1 ⟨rfl, k1⟩
        have HK1 : Hid (Kp W0 w1) := k1
        clear k1 p0 p1 p2 p3 p4 p5 p6 p7 p8 x0 x1 x2 x3 HG
        obtain ⟨p0, p1, p2, p3, p4, p5, p6, p7, p8⟩ := (HP.out _ HK1.out).all
        obtain ⟨x0, x1, x2, x3⟩ := (HX.out _ HK1.out).all
        go_wp2_with fail
        go_region_held3 (fun w' => w'.cell? ⟨w.heap.size, 0, none⟩ = some (.slice m.aL m.lL m.cL) ∧ w'.cell? ⟨w.heap.size, 1, none⟩ = some (.slice m.aS m.lS m.cS) ∧ w'.cell? ⟨w.heap.size, 2, none⟩ = some (.slice m.aD m.lD m.cD) ∧ w'.cell? ⟨w.heap.size, 3, none⟩ = some (.int .i64 m.idle) ∧ w'.cell? ⟨w.heap.size, 4, none⟩ = some (.int .i64 m.crit) ∧ w'.cell? ⟨w.heap.size, 5, none⟩ = some (.int .i64 m.sw) ∧ w'.cell? ⟨w.heap.size, 6, none⟩ = some (.int .i64 m.swe) ∧ w'.cell? ⟨w.heap.size, 7, none⟩ = some (.int .i64 m.sems) ∧ w'.cell? ⟨w.heap.size, 8, none⟩ = some (.int .i64 m.hor) ∧ w'.cell? ⟨w.heap.size + 1, 0, none⟩ = some (.int .i64 t.p) ∧ w'.cell? ⟨w.heap.size + 1, 1, none⟩ = some (.int .i64 t.c) ∧ w'.cell? ⟨w.heap.size + 1, 2, none⟩ = some (.slice t.sa t.sl t.sc) ∧ w'.cell? ⟨w.heap.size + 1, 3, none⟩ = some (.slice t.da t.dl t.dc)) (go_keep) (first
          | (go_at_call 10; refine (aanswers_any _).mono ?_; rintro e w2 ⟨rfl, k2⟩; have K2 : Kp W0 w2 := HK1.out.trans (by first | exact (tkp_drew _).trans k2 | exact k2); clear k2; obtain ⟨z0, z1, z2, z3, z4, z5, z6, z7, z8⟩ := (HP.out _ K2).all; obtain ⟨y0, y1, y2, y3⟩ := (HX.out _ K2).all)
          | (go_at_call 11; refine (H1.out _ (HK.out.trans K2)).mono ?_; rintro e w3 ⟨rfl, k3⟩; have K3 := K2.trans k3; clear k3; obtain ⟨z0, z1, z2, z3, z4, z5, z6, z7, z8⟩ := (HP.out _ K3).all; obtain ⟨y0, y1, y2, y3⟩ := (HX.out _ K3).all)
          | (go_at_call 12; refine (H2.out _ (HK.out.trans K3)).mono ?_; rintro e w4 ⟨rfl, k4⟩; have K4 := K3.trans k4; clear k4; obtain ⟨z0, z1, z2, z3, z4, z5, z6, z7, z8⟩ := (HP.out _ K4).all; obtain ⟨y0, y1, y2, y3⟩ := (HX.out _ K4).all)
          | (go_at_call 13; refine (H3.out _ (HK.out.trans K4)).mono ?_; rintro e w5 ⟨rfl, k5⟩; have K5 := K4.trans k5; clear k5; obtain ⟨z0, z1, z2, z3, z4, z5, z6, z7, z8⟩ := (HP.out _ K5).all; obtain ⟨y0, y1, y2, y3⟩ := (HX.out _ K5).all)
          | fail)
        all_goals
          go_wp2
          go_ret
          exact ⟨by simp, HE.out _ (HK.out.trans K5)⟩
      · have c2 : (m.lL : Int) ≤ lev := by omega
        have c3 : (0 : Int) ≤ lev := by omega
        clear g c1
        go_enter Try.func3, Try.ntmps3
        try dsimp only [List.append]
        go_wp2_with fail
        rw [← HW.out]
        clear HW
        refine HG.out.mono ?_
        rintro e w1 ⟨rfl, k1⟩
        have HK1 : Hid (Kp W0 w1) := k1
        clear k1 p0 p1 p2 p3 p4 p5 p6 p7 p8 x0 x1 x2 x3 HG
        obtain ⟨p0, p1, p2, p3, p4, p5, p6, p7, p8⟩ := (HP.out _ HK1.out).all
        obtain ⟨x0, x1, x2, x3⟩ := (HX.out _ HK1.out).all
        go_wp2_with fail
        go_region_held3 (fun w' => w'.cell? ⟨w.heap.size, 0, none⟩ = some (.slice m.aL m.lL m.cL) ∧ w'.cell? ⟨w.heap.size, 1, none⟩ = some (.slice m.aS m.lS m.cS) ∧ w'.cell? ⟨w.heap.size, 2, none⟩ = some (.slice m.aD m.lD m.cD) ∧ w'.cell? ⟨w.heap.size, 3, none⟩ = some (.int .i64 m.idle) ∧ w'.cell? ⟨w.heap.size, 4, none⟩ = some (.int .i64 m.crit) ∧ w'.cell? ⟨w.heap.size, 5, none⟩ = some (.int .i64 m.sw) ∧ w'.cell? ⟨w.heap.size, 6, none⟩ = some (.int .i64 m.swe) ∧ w'.cell? ⟨w.heap.size, 7, none⟩ = some (.int .i64 m.sems) ∧ w'.cell? ⟨w.heap.size, 8, none⟩ = some (.int .i64 m.hor) ∧ w'.cell? ⟨w.heap.size + 1, 0, none⟩ = some (.int .i64 t.p) ∧ w'.cell? ⟨w.heap.size + 1, 1, none⟩ = some (.int .i64 t.c) ∧ w'.cell? ⟨w.heap.size + 1, 2, none⟩ = some (.slice t.sa t.sl t.sc) ∧ w'.cell? ⟨w.heap.size + 1, 3, none⟩ = some (.slice t.da t.dl t.dc)) (go_keep) (first
          | (go_at_call 10; refine (aanswers_any _).mono ?_; rintro e w2 ⟨rfl, k2⟩; have K2 : Kp W0 w2 := HK1.out.trans (by first | exact (tkp_drew _).trans k2 | exact k2); clear k2; obtain ⟨z0, z1, z2, z3, z4, z5, z6, z7, z8⟩ := (HP.out _ K2).all; obtain ⟨y0, y1, y2, y3⟩ := (HX.out _ K2).all)
          | (go_at_call 11; refine (H1.out _ (HK.out.trans K2)).mono ?_; rintro e w3 ⟨rfl, k3⟩; have K3 := K2.trans k3; clear k3; obtain ⟨z0, z1, z2, z3, z4, z5, z6, z7, z8⟩ := (HP.out _ K3).all; obtain ⟨y0, y1, y2, y3⟩ := (HX.out _ K3).all)
          | (go_at_call 12; refine (H2.out _ (HK.out.trans K3)).mono ?_; rintro e w4 ⟨rfl, k4⟩; have K4 := K3.trans k4; clear k4; obtain ⟨z0, z1, z2, z3, z4, z5, z6, z7, z8⟩ := (HP.out _ K4).all; obtain ⟨y0, y1, y2, y3⟩ := (HX.out _ K4).all)
          | (go_at_call 13; refine (H3.out _ (HK.out.trans K4)).mono ?_; rintro e w5 ⟨rfl, k5⟩; have K5 := K4.trans k5; clear k5; obtain ⟨z0, z1, z2, z3, z4, z5, z6, z7, z8⟩ := (HP.out _ K5).all; obtain ⟨y0, y1, y2, y3⟩ := (HX.out _ K5).all)
          | fail)
        all_goals
          go_wp2
          go_ret
          exact ⟨by simp, HE.out _ (HK.out.trans K5)⟩

theorem admitParts_walk (aL : Option Addr) (lL cL : Nat) (rL : List (List Int)) (aS : Option Addr) (lS cS : Nat) (rS : List (List Int)) (aD : Option Addr) (lD cD : Nat) (rD : List (List Int)) (idle crit sw swe sems hor : Int) (t : Tk) (lev : Int) (w : World)
    (hm : Mach w aL lL rL aS lS rS aD lD rD) (h : TAt w t) (_ : (Lit.int .i64 lev).wf = true) :
    Calls Try.prog 3 #[pv aL lL cL aS lS cS aD lD cD idle crit sw swe sems hor, t.v, .int .i64 lev] w fun e w' => e = .returned (.bool true) ∧ Below w.heap.size w w' :=
  admitParts_go ⟨aL, lL, cL, rL, aS, lS, cS, rS, aD, lD, cD, rD, idle, crit, sw, swe, sems, hor⟩ t lev w hm h

end Go.Proofs.Ytgecandbbmljbaa.AD
