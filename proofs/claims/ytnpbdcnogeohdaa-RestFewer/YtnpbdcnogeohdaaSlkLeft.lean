/- What jobs that may come take, and how much time is left over: walked. -/
import Derived.Test.YtnpbdcnogeohdaaSlkHin
namespace Go.Proofs.Ytnpbdcnogeohdaa.SK
open Go.ChangeShapes Go.WideShapes Go.ChangeAt Go.RowKit Go.Proofs.Ytnpbdcnogeohdaa.AR Go.Proofs.Ytnpbdcnogeohdaa.TB Go.Proofs.Ytnpbdcnogeohdaa.TK Go.Proofs.Ytnpbdcnogeohdaa.JB Go.Proofs.Ytnpbdcnogeohdaa.FX Go.Proofs.Ytnpbdcnogeohdaa.AD
open Go.Proofs.Ytnpbdcnogeohdaa.LK (Hd atH HsAt C3)

theorem times_at (u n : Int) (hn : n ≤ 4194304) (w : World) :
    Calls Try.prog 44 #[.int .i64 u, .int .i64 n] w fun e w' => e = .returned (.int .i64 (tm u n)) ∧ w = w' :=
  (FX.times_any u n w).mono fun _ _ ⟨h, k⟩ => ⟨h.trans (ret_int (IntWalk.wrap64_in _ (by have := tm_bd (u := u) hn; unfold tm at this; omega))), k.symm⟩
theorem rtimes_at (u n : Int) (hn : n ≤ 4194304) (w : World) :
    Calls Try.prog 39 #[.int .i64 u, .int .i64 n] w fun e w' => e = .returned (.int .i64 (tm u n)) ∧ w = w' :=
  (FX.ref_times_any u n w).mono fun _ _ ⟨h, k⟩ => ⟨h.trans (ret_int (IntWalk.wrap64_in _ (by have := tm_bd (u := u) hn; unfold tm at this; omega))), k.symm⟩
theorem whole_at (n : Int) (w : World) :
    Calls Try.prog 23 #[.int .i64 n] w fun e w' => e = .returned (.int .i64 (wh n)) ∧ w = w' :=
  (FX.whole_any n w).mono fun _ _ ⟨h, k⟩ => ⟨h, k.symm⟩
theorem rwhole_at (n : Int) (w : World) :
    Calls Try.prog 25 #[.int .i64 n] w fun e w' => e = .returned (.int .i64 (wh n)) ∧ w = w' :=
  (FX.ref_whole_any n w).mono fun _ _ ⟨h, k⟩ => ⟨h, k.symm⟩

theorem ptI_at {v : Vw} {k : Nat} {t : Tk} (h : v.T[k]? = some t) : ptI v k = ut (qn v.m t.c 0) t.p := by simp [ptI, h]

/-- a task's box, in every world to come -/
theorem tk_box (w : World) (t : Tk) : ∃ V, Hid (V = w.alloc (.cells #[.int .i64 t.p, .int .i64 t.c, .slice t.sa t.sl t.sc, .slice t.da t.dl t.dc] 38)) ∧ Kp w V ∧ ∀ W, Kp V W → W.cell? ⟨w.heap.size, 0, none⟩ = some (.int .i64 t.p) ∧ W.cell? ⟨w.heap.size, 1, none⟩ = some (.int .i64 t.c) ∧ W.cell? ⟨w.heap.size, 2, none⟩ = some (.slice t.sa t.sl t.sc) ∧ W.cell? ⟨w.heap.size, 3, none⟩ = some (.slice t.da t.dl t.dc) := by
  refine ⟨_, rfl, (Kp.refl _).alloc _, fun W q => ?_⟩
  have h := kp_block (heap_alloc_at w _) q
  exact ⟨cell_of h rfl, cell_of h rfl, cell_of h rfl, cell_of h rfl⟩
/-- a job's -/
theorem jb_box (w : World) (j : Jb) : ∃ V, Hid (V = w.alloc (.cells #[.int .i64 j.t, .int .i64 j.r, .int .i64 j.d, .int .i64 j.l, .int .i64 j.x, .bool j.s] 52)) ∧ Kp w V ∧ ∀ W, Kp V W → W.cell? ⟨w.heap.size, 0, none⟩ = some (.int .i64 j.t) ∧ W.cell? ⟨w.heap.size, 1, none⟩ = some (.int .i64 j.r) ∧ W.cell? ⟨w.heap.size, 2, none⟩ = some (.int .i64 j.d) ∧ W.cell? ⟨w.heap.size, 3, none⟩ = some (.int .i64 j.l) ∧ W.cell? ⟨w.heap.size, 4, none⟩ = some (.int .i64 j.x) ∧ W.cell? ⟨w.heap.size, 5, none⟩ = some (.bool j.s) := by
  refine ⟨_, rfl, (Kp.refl _).alloc _, fun W q => ?_⟩
  have h := kp_block (heap_alloc_at w _) q
  exact ⟨cell_of h rfl, cell_of h rfl, cell_of h rfl, cell_of h rfl, cell_of h rfl, cell_of h rfl⟩

set_option maxRecDepth 100000 in
set_option maxHeartbeats 16000000 in
theorem tocome_any (v : Vw) (a : Int) (w : World) (hv : VL w v) (g : VG v) (ha : 0 ≤ a ∧ a ≤ 4194304) :
    Calls Try.prog 30 #[v.v, .int .i64 a] w fun e w' => e = .returned (.int .i64 (toc v a v.tl)) ∧ Kp w w' := by
  obtain ⟨W0, HW, K0, P0⟩ := view_box w v
  have HP : Hid (∀ W, Kp W0 W → B14 W w.heap.size v) := fun W k => P0.kp k
  have HK : Hid (Kp w W0) := K0
  have HV0 : Hid (VL w v) := hv
  have HG : Hid (VG v) := g
  have HCm : Hid (∀ W (k : Nat), k < v.tl → Kp w W → Calls Try.prog 46 #[v.v, .int .i64 (k : Nat)] W fun e w' => e = .returned (.int .i64 (coI v k)) ∧ Kp W w') := fun W k hk q => comes_any v k W (hv.kept q) (by rw [g.nl]; exact hk)
  have HPt : Hid (∀ W (k : Nat) (t : Tk), v.T[k]? = some t → Kp w W → Calls Try.prog 45 #[v.m.v, t.v, .int .i64 0] W fun e w' => e = .returned (.int .i64 (ptI v k)) ∧ Kp W w') := fun W k t ht q => by
    rw [ptI_at ht]; exact part_any v.m t 0 W (hv.m.kept q) g.b (g.tk t (List.mem_of_getElem? ht)).1.c
  have HIs : Hid (∀ W (t : Tk), Calls Try.prog 34 #[t.v] W fun e w' => e = .returned (.bool (decide (t.p ≠ 0))) ∧ Kp W w') := fun W t => istask_any t W
  obtain ⟨res, hres⟩ : ∃ res, toc v a v.tl = res := ⟨_, rfl⟩
  rw [hres]
  have HR : Hid (toc v a v.tl = res) := hres
  have htn := g.n
  obtain ⟨p0, p1, p2, p3, p4, p5, p6, p7, p8, p9, p10, p11, p12, p13⟩ := P0.all
  unfold Vw.v Mc.v Tk.v at *
  clear hres K0 P0 hv g
  go_enter Try.func30, Try.ntmps30
  go_wp2
  rw [← HW.out]
  clear HW p0 p1 p2 p3 p4 p5 p6 p7 p8 p9 p10 p11 p12 p13
  go_loopw [5, 11] (fun l i wr => ∃ (k : Nat) (lv : Int), k ≤ v.tl ∧ i = .int .i64 k ∧ l = .int .i64 lv ∧ Hid (toc v a k = lv) ∧ Kp W0 wr) (fun _ i _ => v.tl - (intOf i).toNat)
  case atStart => exact ⟨0, _, Nat.zero_le _, rfl, rfl, rfl, Kp.refl _⟩
  case round =>
    obtain ⟨k, lv, hk, rfl, rfl, HL, hkp⟩ := hrel
    by_cases hlt : k < v.tl
    · have hlt' : (k : Int) < (v.tl : Int) := by omega
      obtain ⟨b, off, t, e, hb, hg, ht, c0, c1, c2, c3⟩ := (HV0.out.t.kept (HK.out.trans hkp)).one hlt
      obtain ⟨V, HV, KV, TV⟩ := tk_box wr t
      have HKV : Hid (Kp W0 V) := hkp.trans KV
      have HTV : Hid (∀ W, Kp V W → W.cell? ⟨wr.heap.size, 0, none⟩ = some (.int .i64 t.p) ∧ W.cell? ⟨wr.heap.size, 1, none⟩ = some (.int .i64 t.c) ∧ W.cell? ⟨wr.heap.size, 2, none⟩ = some (.slice t.sa t.sl t.sc) ∧ W.cell? ⟨wr.heap.size, 3, none⟩ = some (.slice t.da t.dl t.dc)) := TV
      have HI := HIs.out V t
      have HPk : Hid (∀ W, Kp V W → Calls Try.prog 45 #[.agg #[.slice v.m.aL v.m.lL v.m.cL, .slice v.m.aS v.m.lS v.m.cS, .slice v.m.aD v.m.lD v.m.cD, .int .i64 v.m.idle, .int .i64 v.m.crit, .int .i64 v.m.sw, .int .i64 v.m.swe, .int .i64 v.m.sems, .int .i64 v.m.hor], .agg #[.int .i64 t.p, .int .i64 t.c, .slice t.sa t.sl t.sc, .slice t.da t.dl t.dc], .int .i64 0] W fun e w' => e = .returned (.int .i64 (ptI v k)) ∧ Kp W w') := fun W q => HPt.out W k t hg (HK.out.trans (HKV.out.trans q))
      have HCk : Hid (∀ W, Kp V W → Calls Try.prog 46 #[.agg #[.slice v.m.aL v.m.lL v.m.cL, .slice v.m.aS v.m.lS v.m.cS, .slice v.m.aD v.m.lD v.m.cD, .int .i64 v.m.idle, .int .i64 v.m.crit, .int .i64 v.m.sw, .int .i64 v.m.swe, .int .i64 v.m.sems, .int .i64 v.m.hor, .slice v.ta v.tl v.tc, .slice v.na v.nl v.nc, .slice v.ja v.jl v.jc, .slice v.ha v.hl v.hc, .int .i64 v.now], .int .i64 (k : Nat)] W fun e w' => e = .returned (.int .i64 (coI v k)) ∧ Kp W w') := fun W q => HCm.out W k hlt (HK.out.trans (HKV.out.trans q))
      have hco := coI_bd HG.out hlt
      have h64 := toc_64 HG.out ha.2 (k := k) (by omega)
      have hpk : pk v.T k = t.p := pk_at hg
      have hpn : Hid (t.p = 0 → toc v a (k + 1) = lv) := fun q => (toc_not (hpk.trans q)).trans HL.out
      have hpm : Hid (t.p ≠ 0 → toc v a (k + 1) = lv + tm (ptI v k) (a - coI v k)) := fun q => by rw [← HL.out]; exact toc_more (by rw [hpk]; exact q)
      have h64n : Hid (t.p ≠ 0 → 0 ≤ toc v a (k + 1) ∧ toc v a (k + 1) ≤ 4611686018427387904) := fun _ => toc_64 HG.out ha.2 (k := k + 1) (by omega)
      have HTm : Hid (∀ W, Calls Try.prog 44 #[.int .i64 (ptI v k), .int .i64 (a - coI v k)] W fun e w' => e = .returned (.int .i64 (tm (ptI v k) (a - coI v k))) ∧ W = w') := fun W => times_at _ _ (by omega) W
      have s1 : IntKind.i64.wrap (a - coI v k) = a - coI v k := wrapI (by omega)
      clear HCm HPt HIs TV KV hg ht hpk HL h64
      generalize ptI v k = pp at *
      generalize coI v k = cc at *
      obtain ⟨zz, hzz⟩ : ∃ zz, a - cc = zz := ⟨_, rfl⟩
      rw [hzz] at HTm hpm
      replace s1 : IntKind.i64.wrap (a - cc) = zz := s1.trans hzz
      clear hco
      clear hzz
      generalize tm pp zz = tt at *
      by_cases hp : t.p = 0
      · have hd : decide (t.p ≠ 0) = false := decide_eq_false (by simpa using hp)
        rw [hd] at HI
        have HN := hpn.out hp
        have HN' : Hid _ := HN
        clear hpn hpm h64n HN hd HR hp
        rw [e]
        clear e
        go_wp2_with fail
        rw [← HV.out]
        refine HI.mono ?_
        rintro e w6 ⟨rfl, k6⟩
        go_wp2
        go_roundw
        case rel => exact ⟨k + 1, lv, by omega, by go_num, rfl, HN'.out, HKV.out.trans k6⟩
        case measure => simp [intOf]; omega
      · have hd : decide (t.p ≠ 0) = true := decide_eq_true hp
        rw [hd] at HI
        have HN : Hid (toc v a (k + 1) = lv + tt) := hpm.out hp
        have hbn := h64n.out hp
        rw [HN.out] at hbn
        have s2 : IntKind.i64.wrap (lv + tt) = lv + tt := wrapI (by omega)
        clear hpn hpm h64n hd HR hbn
        rw [e]
        clear e
        go_wp2_with fail
        rw [← HV.out]
        refine HI.mono ?_
        rintro e w6 ⟨rfl, k6⟩
        have HK6 : Hid (Kp V w6) := k6
        obtain ⟨p0, p1, p2, p3, p4, p5, p6, p7, p8, p9, p10, p11, p12, p13⟩ := (HP.out _ (HKV.out.trans k6)).all
        obtain ⟨y0, y1, y2, y3⟩ := HTV.out _ k6
        clear k6 c0 c1 c2 c3
        go_wp2_with fail
        go_region_held3 (fun w' => w'.cell? ⟨w.heap.size, 0, none⟩ = some (.slice v.m.aL v.m.lL v.m.cL) ∧ w'.cell? ⟨w.heap.size, 1, none⟩ = some (.slice v.m.aS v.m.lS v.m.cS) ∧ w'.cell? ⟨w.heap.size, 2, none⟩ = some (.slice v.m.aD v.m.lD v.m.cD) ∧ w'.cell? ⟨w.heap.size, 3, none⟩ = some (.int .i64 v.m.idle) ∧ w'.cell? ⟨w.heap.size, 4, none⟩ = some (.int .i64 v.m.crit) ∧ w'.cell? ⟨w.heap.size, 5, none⟩ = some (.int .i64 v.m.sw) ∧ w'.cell? ⟨w.heap.size, 6, none⟩ = some (.int .i64 v.m.swe) ∧ w'.cell? ⟨w.heap.size, 7, none⟩ = some (.int .i64 v.m.sems) ∧ w'.cell? ⟨w.heap.size, 8, none⟩ = some (.int .i64 v.m.hor) ∧ w'.cell? ⟨w.heap.size, 9, none⟩ = some (.slice v.ta v.tl v.tc) ∧ w'.cell? ⟨w.heap.size, 10, none⟩ = some (.slice v.na v.nl v.nc) ∧ w'.cell? ⟨w.heap.size, 11, none⟩ = some (.slice v.ja v.jl v.jc) ∧ w'.cell? ⟨w.heap.size, 12, none⟩ = some (.slice v.ha v.hl v.hc) ∧ w'.cell? ⟨w.heap.size, 13, none⟩ = some (.int .i64 v.now) ∧ w'.cell? ⟨wr.heap.size, 0, none⟩ = some (.int .i64 t.p) ∧ w'.cell? ⟨wr.heap.size, 1, none⟩ = some (.int .i64 t.c) ∧ w'.cell? ⟨wr.heap.size, 2, none⟩ = some (.slice t.sa t.sl t.sc) ∧ w'.cell? ⟨wr.heap.size, 3, none⟩ = some (.slice t.da t.dl t.dc)) (go_keep) (first
          | (go_at_call 45; refine (HPk.out _ ?_).mono ?_; first | exact HK6.out | exact HK6.out.trans (TB.kp_drew _); rintro e w7 ⟨rfl, k7⟩; have K7 : Kp V w7 := (by first | exact (HK6.out.trans (TB.kp_drew _)).trans k7 | exact HK6.out.trans k7); clear k7; obtain ⟨z0, z1, z2, z3, z4, z5, z6, z7, z8, z9, z10, z11, z12, z13⟩ := (HP.out _ (HKV.out.trans K7)).all; obtain ⟨x0, x1, x2, x3⟩ := HTV.out _ K7)
          | (go_at_call 46; refine (HCk.out _ K7).mono ?_; rintro e w8 ⟨rfl, k8⟩; have K8 := K7.trans k8; clear k8; obtain ⟨z0, z1, z2, z3, z4, z5, z6, z7, z8, z9, z10, z11, z12, z13⟩ := (HP.out _ (HKV.out.trans K8)).all; obtain ⟨x0, x1, x2, x3⟩ := HTV.out _ K8)
          | (go_at_call 44; refine (HTm.out _).mono ?_; rintro e w9 ⟨rfl, rfl⟩)
          | fail)
        all_goals
          go_wp2
          go_roundw
        all_goals first
          | exact ⟨k + 1, lv + tt, by omega, by go_num, rfl, HN, HKV.out.trans K8⟩
          | (simp [intOf]; omega)
    · have hlt' : ¬ (k : Int) < (v.tl : Int) := by omega
      obtain rfl : k = v.tl := by omega
      have HN : Hid (lv = res) := by have := HR.out; rw [HL.out] at this; exact this
      clear HR HL
      go_wp2
      go_ret
      exact ⟨congrArg (fun x => Ending.returned (Value.int .i64 x)) HN.out, HK.out.trans hkp⟩

set_option maxRecDepth 100000 in
set_option maxHeartbeats 16000000 in
theorem leftover_any (v : Vw) (a : Int) (w : World) (hv : VL w v) (g : VG v) (ha : 0 ≤ a ∧ a ≤ 4194304) :
    Calls Try.prog 18 #[v.v, .int .i64 a] w fun e w' => e = .returned (.int .i64 (atI v a)) ∧ Kp w w' := by
  obtain ⟨W0, HW, K0, P0⟩ := view_box w v
  have HP : Hid (∀ W, Kp W0 W → B14 W w.heap.size v) := fun W k => P0.kp k
  have HK : Hid (Kp w W0) := K0
  have HV0 : Hid (VL w v) := hv
  have HG : Hid (VG v) := g
  have HHn : Hid (∀ W, Kp W0 W → Calls Try.prog 28 #[v.v, .int .i64 a] W fun e w' => e = .returned (.int .i64 (hnI v a)) ∧ Kp W w') := fun W q => hinders_any v a W (hv.kept (K0.trans q)) g
  have HTc : Hid (∀ W, Kp W0 W → Calls Try.prog 30 #[v.v, .int .i64 a] W fun e w' => e = .returned (.int .i64 (toc v a v.tl)) ∧ Kp W w') := fun W q => tocome_any v a W (hv.kept (K0.trans q)) g ha
  have HJq : Hid (∀ W (j : Jb), j ∈ v.J → Kp W0 W → Calls Try.prog 29 #[v.m.v, j.v] W fun e w' => e = .returned (.int .i64 (jqI v.m j)) ∧ Kp W w') := fun W j hj q => jquanta_any v.m j W (hv.m.kept (K0.trans q)) g.b (by have := (g.jb j hj).2.2.2; omega)
  have hnb := hnI_bd g hv.h.ln a
  have now := g.now
  have HQs : Hid (∀ k, k ≤ v.jl → 0 ≤ qs v a k ∧ qs v a k ≤ 67141632) := fun k hk => qs_64 g hk
  have HJb : Hid (∀ j ∈ v.J, 0 ≤ jqI v.m j ∧ jqI v.m j ≤ 1049088) := fun j hj => jqI_bd g hj
  have tb := toc_64 g ha.2 (Nat.le_refl _)
  obtain ⟨res, hres⟩ : ∃ res, atI v a = res := ⟨_, rfl⟩
  rw [hres]
  have HR : Hid (wh (a - v.now - hnI v a - qs v a v.jl) - toc v a v.tl = res) := hres
  have hjn := g.jn
  generalize toc v a v.tl = tc at *
  generalize hnI v a = hn at *
  have s1 : IntKind.i64.wrap (a - v.now) = a - v.now := wrapI (by omega)
  have s2 : IntKind.i64.wrap (a - v.now - hn) = a - v.now - hn := wrapI (by omega)
  obtain ⟨p0, p1, p2, p3, p4, p5, p6, p7, p8, p9, p10, p11, p12, p13⟩ := P0.all
  unfold Vw.v Mc.v Jb.v at *
  clear hres K0 P0 hv g
  go_enter Try.func18, Try.ntmps18
  go_wp2_with fail
  rw [← HW.out]
  clear HW
  go_region_held3 (fun w' => w'.cell? ⟨w.heap.size, 0, none⟩ = some (.slice v.m.aL v.m.lL v.m.cL) ∧ w'.cell? ⟨w.heap.size, 1, none⟩ = some (.slice v.m.aS v.m.lS v.m.cS) ∧ w'.cell? ⟨w.heap.size, 2, none⟩ = some (.slice v.m.aD v.m.lD v.m.cD) ∧ w'.cell? ⟨w.heap.size, 3, none⟩ = some (.int .i64 v.m.idle) ∧ w'.cell? ⟨w.heap.size, 4, none⟩ = some (.int .i64 v.m.crit) ∧ w'.cell? ⟨w.heap.size, 5, none⟩ = some (.int .i64 v.m.sw) ∧ w'.cell? ⟨w.heap.size, 6, none⟩ = some (.int .i64 v.m.swe) ∧ w'.cell? ⟨w.heap.size, 7, none⟩ = some (.int .i64 v.m.sems) ∧ w'.cell? ⟨w.heap.size, 8, none⟩ = some (.int .i64 v.m.hor) ∧ w'.cell? ⟨w.heap.size, 9, none⟩ = some (.slice v.ta v.tl v.tc) ∧ w'.cell? ⟨w.heap.size, 10, none⟩ = some (.slice v.na v.nl v.nc) ∧ w'.cell? ⟨w.heap.size, 11, none⟩ = some (.slice v.ja v.jl v.jc) ∧ w'.cell? ⟨w.heap.size, 12, none⟩ = some (.slice v.ha v.hl v.hc) ∧ w'.cell? ⟨w.heap.size, 13, none⟩ = some (.int .i64 v.now)) (go_keep) (first
    | (go_at_call 28; refine (HHn.out _ ?_).mono ?_; first | exact Kp.refl _ | exact TB.kp_drew _; rintro e w3 ⟨rfl, k3⟩; have K3 : Kp W0 w3 := (by first | exact (TB.kp_drew _).trans k3 | exact k3); clear k3; obtain ⟨z0, z1, z2, z3, z4, z5, z6, z7, z8, z9, z10, z11, z12, z13⟩ := (HP.out _ K3).all)
    | fail)
  have HK3 : Hid (Kp W0 w3) := K3
  clear p0 p1 p2 p3 p4 p5 p6 p7 p8 p9 p10 p11 p12 p13 z0 z1 z2 z3 z4 z5 z6 z7 z8 z9 z10 z11 z12 z13 K3
  obtain ⟨p0, p1, p2, p3, p4, p5, p6, p7, p8, p9, p10, p11, p12, p13⟩ := (HP.out _ HK3.out).all
  go_wp2_with fail
  clear p0 p1 p2 p3 p4 p5 p6 p7 p8 p9 p10 p11 p12 p13
  go_loopw [5, 19] (fun l i wr => ∃ (k : Nat) (lv : Int), k ≤ v.jl ∧ i = .int .i64 k ∧ l = .int .i64 lv ∧ Hid (a - v.now - hn - qs v a k = lv) ∧ Kp W0 wr) (fun _ i _ => v.jl - (intOf i).toNat)
  case atStart => exact ⟨0, _, Nat.zero_le _, rfl, rfl, by show _ = _; simp [qs], HK3.out⟩
  case round =>
    obtain ⟨k, lv, hk, rfl, rfl, HL, hkp⟩ := hrel
    have hqk := HQs.out k hk
    have hlv : -1073741824 ≤ lv ∧ lv ≤ 4194304 := by have := HL.out; omega
    by_cases hlt : k < v.jl
    · have hlt' : (k : Int) < (v.jl : Int) := by omega
      obtain ⟨b, off, j, e, hb, hg, hi, c0, c1, c2, c3, c4, c5⟩ := (HV0.out.j.kept (HK.out.trans hkp)).one hlt
      obtain ⟨V, HV, KV, TV⟩ := jb_box wr j
      have HKV : Hid (Kp W0 V) := hkp.trans KV
      have HA := HJq.out V j (List.mem_of_getElem? hg) HKV.out
      have jb := HJb.out j (List.mem_of_getElem? hg)
      have hN1 : Hid (j.d ≤ a → qs v a (k + 1) = qs v a k + jqI v.m j) := fun q => qs_in hg q
      have hN2 : Hid (¬ j.d ≤ a → qs v a (k + 1) = qs v a k) := fun q => qs_not hg q
      obtain ⟨p0, p1, p2, p3, p4, p5, p6, p7, p8, p9, p10, p11, p12, p13⟩ := (HP.out _ HKV.out).all
      obtain ⟨y0, y1, y2, y3, y4, y5⟩ := TV _ (Kp.refl _)
      have hgb : w.heap.size < wr.heap.size := (HP.out _ hkp).lt
      generalize jqI v.m j = jq at *
      have s3 : wrap64 (lv - jq) = lv - jq := IntWalk.wrap64_in _ (by omega)
      have s4 : IntKind.i64.wrap (lv - jq) = lv - jq := wrapI (by omega)
      have HA' : Hid _ := HA
      clear HA hg hi TV KV
      obtain ⟨u0, u1, u2, u3, u4, u5, u6, u7, u8, u9, u10, u11, u12, u13⟩ := (HP.out _ hkp).all
      by_cases hd : j.d ≤ a
      · have HN : Hid (a - v.now - hn - qs v a (k + 1) = lv - jq) := by show _ = _; rw [hN1.out hd]; have := HL.out; omega
        clear hN1 hN2 HL HR
        rw [e]
        clear e
        go_wp2_with fail
        rw [← HV.out]
        refine Calls.mono HA'.out ?_
        rintro e w6 ⟨rfl, k6⟩
        go_wp2
        go_roundw
        case rel => exact ⟨k + 1, lv - jq, by omega, by go_num, by first | rfl | go_num, HN, HKV.out.trans k6⟩
        case measure => simp [intOf]; omega
      · have HN : Hid (a - v.now - hn - qs v a (k + 1) = lv) := by show _ = _; rw [hN2.out hd]; exact HL.out
        clear hN1 hN2 HL HR
        rw [e]
        clear e
        go_wp2_with fail
        rw [← HV.out]
        go_roundw
        case rel => exact ⟨k + 1, lv, by omega, by go_num, rfl, HN, HKV.out⟩
        case measure => simp [intOf]; omega
    · have hlt' : ¬ (k : Int) < (v.jl : Int) := by omega
      obtain rfl : k = v.jl := by omega
      have HN : Hid (wh lv - tc = res) := by have := HR.out; rw [HL.out] at this; exact this
      have HKr : Hid (Kp W0 wr) := hkp
      have hw := wh_bd lv
      have HWh : Hid (∀ W, Calls Try.prog 23 #[.int .i64 lv] W fun e w' => e = .returned (.int .i64 (wh lv)) ∧ W = w') := fun W => whole_at lv W
      obtain ⟨p0, p1, p2, p3, p4, p5, p6, p7, p8, p9, p10, p11, p12, p13⟩ := (HP.out _ hkp).all
      clear HR HL hkp
      generalize wh lv = x at *
      have s3 : IntKind.i64.wrap (x - tc) = x - tc := wrapI (by omega)
      go_wp2_with fail
      go_region_held3 (fun w' => w'.cell? ⟨w.heap.size, 0, none⟩ = some (.slice v.m.aL v.m.lL v.m.cL) ∧ w'.cell? ⟨w.heap.size, 1, none⟩ = some (.slice v.m.aS v.m.lS v.m.cS) ∧ w'.cell? ⟨w.heap.size, 2, none⟩ = some (.slice v.m.aD v.m.lD v.m.cD) ∧ w'.cell? ⟨w.heap.size, 3, none⟩ = some (.int .i64 v.m.idle) ∧ w'.cell? ⟨w.heap.size, 4, none⟩ = some (.int .i64 v.m.crit) ∧ w'.cell? ⟨w.heap.size, 5, none⟩ = some (.int .i64 v.m.sw) ∧ w'.cell? ⟨w.heap.size, 6, none⟩ = some (.int .i64 v.m.swe) ∧ w'.cell? ⟨w.heap.size, 7, none⟩ = some (.int .i64 v.m.sems) ∧ w'.cell? ⟨w.heap.size, 8, none⟩ = some (.int .i64 v.m.hor) ∧ w'.cell? ⟨w.heap.size, 9, none⟩ = some (.slice v.ta v.tl v.tc) ∧ w'.cell? ⟨w.heap.size, 10, none⟩ = some (.slice v.na v.nl v.nc) ∧ w'.cell? ⟨w.heap.size, 11, none⟩ = some (.slice v.ja v.jl v.jc) ∧ w'.cell? ⟨w.heap.size, 12, none⟩ = some (.slice v.ha v.hl v.hc) ∧ w'.cell? ⟨w.heap.size, 13, none⟩ = some (.int .i64 v.now)) (go_keep) (first
        | (go_at_call 23; refine (HWh.out _).mono ?_; rintro e w4 ⟨rfl, rfl⟩)
        | (go_at_call 30; refine (HTc.out _ ?_).mono ?_; first | exact HKr.out | exact HKr.out.trans (TB.kp_drew _); rintro e w5 ⟨rfl, k5⟩; have K5 : Kp W0 w5 := (by first | exact (HKr.out.trans (TB.kp_drew _)).trans k5 | exact HKr.out.trans k5); clear k5; obtain ⟨z0, z1, z2, z3, z4, z5, z6, z7, z8, z9, z10, z11, z12, z13⟩ := (HP.out _ K5).all)
        | fail)
      all_goals
        go_wp2
        go_ret
        exact ⟨congrArg (fun x => Ending.returned (Value.int .i64 x)) HN.out, HK.out.trans K5⟩

end Go.Proofs.Ytnpbdcnogeohdaa.SK
