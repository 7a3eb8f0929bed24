/- The document's own: how much time is left over, walked. -/
import Derived.Test.YtnpbdcnogeohdaaSlkRHin
namespace Go.Proofs.Ytnpbdcnogeohdaa.SK
open Go.ChangeShapes Go.WideShapes Go.ChangeAt Go.RowKit Go.Proofs.Ytnpbdcnogeohdaa.AR Go.Proofs.Ytnpbdcnogeohdaa.TB Go.Proofs.Ytnpbdcnogeohdaa.TK Go.Proofs.Ytnpbdcnogeohdaa.JB Go.Proofs.Ytnpbdcnogeohdaa.FX Go.Proofs.Ytnpbdcnogeohdaa.AD
open Go.Proofs.Ytnpbdcnogeohdaa.LK (Hd atH HsAt C3)

set_option maxRecDepth 100000 in
set_option maxHeartbeats 16000000 in
theorem rat_any (v : Vw) (a : Int) (w : World) (hv : VL w v) (g : VG v) (ha : 0 ≤ a ∧ a ≤ 4194304) :
    Calls Try.prog 26 #[v.m.v, .slice v.ta v.tl v.tc, .slice v.na v.nl v.nc, .slice v.ja v.jl v.jc, .slice v.ha v.hl v.hc, .int .i64 v.now, .int .i64 a] w fun e w' => e = .returned (.int .i64 (atI v a)) ∧ Kp w w' := by
  obtain ⟨W0, HW, K0, P0⟩ := one_box w v.m
  have HP : Hid (∀ W, Kp W0 W → B9 W w.heap.size v.m) := fun W k => P0.kp k
  have HK : Hid (Kp w W0) := K0
  have HV0 : Hid (VL w v) := hv
  have HG : Hid (VG v) := g
  have HHn : Hid (Calls Try.prog 37 #[v.m.v, .slice v.ta v.tl v.tc, .slice v.na v.nl v.nc, .slice v.ja v.jl v.jc, .slice v.ha v.hl v.hc, .int .i64 v.now, .int .i64 a] W0 fun e w' => e = .returned (.int .i64 (hnI v a)) ∧ Kp W0 w') := rhinders_any v a W0 (hv.kept K0) g
  have HJq : Hid (∀ W (j : Jb), j ∈ v.J → Kp W0 W → Calls Try.prog 38 #[v.m.v, j.v] W fun e w' => e = .returned (.int .i64 (jqI v.m j)) ∧ Kp W w') := fun W j hj q => rjquanta_any v.m j W (hv.m.kept (K0.trans q)) g.b (by have := (g.jb j hj).2.2.2; omega)
  have HPt : Hid (∀ W (k : Nat) (t : Tk), v.T[k]? = some t → Kp W0 W → Calls Try.prog 40 #[v.m.v, t.v, .int .i64 0] W fun e w' => e = .returned (.int .i64 (ptI v k)) ∧ Kp W w') := fun W k t ht q => by
    rw [ptI_at ht]; exact rpart_any v.m t 0 W (hv.m.kept (K0.trans q)) g.b (g.tk t (List.mem_of_getElem? ht)).1.c
  have HFr : Hid (∀ W (k : Nat), k < v.tl → Kp W0 W → Calls Try.prog 27 #[.slice v.na v.nl v.nc, .int .i64 (k : Nat), .int .i64 v.now] W fun e w' => e = .returned (.int .i64 (coI v k)) ∧ W = w') := fun W k hk q => from_any v k W (hv.n.kept (K0.trans q)) (by rw [g.nl]; exact hk)
  have hnb := hnI_bd g hv.h.ln a
  have now := g.now
  have HQs : Hid (∀ k, k ≤ v.jl → 0 ≤ qs v a k ∧ qs v a k ≤ 67141632) := fun k hk => qs_64 g hk
  have HJb : Hid (∀ j ∈ v.J, 0 ≤ jqI v.m j ∧ jqI v.m j ≤ 1049088) := fun j hj => jqI_bd g hj
  have HTb : Hid (∀ k, k ≤ v.tl → 0 ≤ toc v a k ∧ toc v a k ≤ 4611686018427387904) := fun k hk => toc_64 g ha.2 hk
  obtain ⟨res, hres⟩ : ∃ res, atI v a = res := ⟨_, rfl⟩
  rw [hres]
  have HR : Hid (wh (a - v.now - hnI v a - qs v a v.jl) - toc v a v.tl = res) := hres
  have hjn := g.jn
  have htn := g.n
  generalize hnI v a = hn at *
  have s1 : IntKind.i64.wrap (a - v.now) = a - v.now := wrapI (by omega)
  have s2 : IntKind.i64.wrap (a - v.now - hn) = a - v.now - hn := wrapI (by omega)
  have s1' : wrap64 (a - v.now) = a - v.now := IntWalk.wrap64_in _ (by omega)
  have s2' : wrap64 (a - v.now - hn) = a - v.now - hn := IntWalk.wrap64_in _ (by omega)
  obtain ⟨p0, p1, p2, p3, p4, p5, p6, p7, p8⟩ := P0.all
  unfold Mc.v Jb.v Tk.v at *
  clear hres K0 P0 hv g
  go_enter Try.func26, Try.ntmps26
  go_wp2_with fail
  rw [← HW.out]
  clear HW
  refine HHn.out.mono ?_
  rintro e w3 ⟨rfl, k3⟩
  have HK3 : Hid (Kp W0 w3) := k3
  clear p0 p1 p2 p3 p4 p5 p6 p7 p8 k3 HHn
  go_wp2_with fail
  go_loopw [15, 16] (fun l i wr => ∃ (k : Nat) (lv : Int), k ≤ v.jl ∧ i = .int .i64 k ∧ l = .int .i64 lv ∧ Hid (a - v.now - hn - qs v a k = lv) ∧ Kp W0 wr) (fun _ i _ => v.jl - (intOf i).toNat)
  case atStart => exact ⟨0, a - v.now - hn, Nat.zero_le _, rfl, by first | rfl | (simp [s1, s2, s1', s2']), by show _ = _; simp [qs], HK3.out⟩
  case round =>
    obtain ⟨k, lv, hk, rfl, rfl, HL, hkp⟩ := hrel
    have hqk := HQs.out k hk
    have hlv : -1073741824 ≤ lv ∧ lv ≤ 4194304 := by have := HL.out; omega
    by_cases hlt : k < v.jl
    · have hlt' : (k : Int) < (v.jl : Int) := by omega
      have k0 : (0 : Int) ≤ (k : Int) := by omega
      have kn : ((k : Int)).toNat = k := by omega
      obtain ⟨b, off, j, e, hb, hg, hi, c0, c1, c2, c3, c4, c5⟩ := (HV0.out.j.kept (HK.out.trans hkp)).one hlt
      have HKr : Hid (Kp W0 wr) := hkp
      have HA : Hid (∀ W, Kp wr W → Calls Try.prog 38 #[.agg #[.slice v.m.aL v.m.lL v.m.cL, .slice v.m.aS v.m.lS v.m.cS, .slice v.m.aD v.m.lD v.m.cD, .int .i64 v.m.idle, .int .i64 v.m.crit, .int .i64 v.m.sw, .int .i64 v.m.swe, .int .i64 v.m.sems, .int .i64 v.m.hor], .agg #[.int .i64 j.t, .int .i64 j.r, .int .i64 j.d, .int .i64 j.l, .int .i64 j.x, .bool j.s]] W fun e w' => e = .returned (.int .i64 (jqI v.m j)) ∧ Kp W w') := fun W q => HJq.out W j (List.mem_of_getElem? hg) (HKr.out.trans q)
      have jb := HJb.out j (List.mem_of_getElem? hg)
      have hN1 : Hid (j.d ≤ a → qs v a (k + 1) = qs v a k + jqI v.m j) := fun q => qs_in hg q
      have hN2 : Hid (¬ j.d ≤ a → qs v a (k + 1) = qs v a k) := fun q => qs_not hg q
      have HC : Hid (∀ W, Kp wr W → W.cell? ⟨b, off + k * 6, none⟩ = some (.int .i64 j.t) ∧ W.cell? ⟨b, off + k * 6 + 1, none⟩ = some (.int .i64 j.r) ∧ W.cell? ⟨b, off + k * 6 + 2, none⟩ = some (.int .i64 j.d) ∧ W.cell? ⟨b, off + k * 6 + 3, none⟩ = some (.int .i64 j.l) ∧ W.cell? ⟨b, off + k * 6 + 4, none⟩ = some (.int .i64 j.x) ∧ W.cell? ⟨b, off + k * 6 + 5, none⟩ = some (.bool j.s)) := fun W q => ⟨(q.cell (by exact hb)).trans c0, (q.cell (by exact hb)).trans c1, (q.cell (by exact hb)).trans c2, (q.cell (by exact hb)).trans c3, (q.cell (by exact hb)).trans c4, (q.cell (by exact hb)).trans c5⟩
      obtain ⟨p0, p1, p2, p3, p4, p5, p6, p7, p8⟩ := (HP.out _ hkp).all
      generalize jqI v.m j = jq at *
      have s3 : wrap64 (lv - jq) = lv - jq := IntWalk.wrap64_in _ (by omega)
      have s4 : IntKind.i64.wrap (lv - jq) = lv - jq := wrapI (by omega)
      clear hg hi hkp
      by_cases hd : j.d ≤ a
      · have HN : Hid (a - v.now - hn - qs v a (k + 1) = lv - jq) := by show _ = _; rw [hN1.out hd]; have := HL.out; omega
        clear hN1 hN2 HL HR
        rw [e]
        clear e
        go_wp2_with fail
        go_region_held3 (fun w' => w'.cell? ⟨w.heap.size, 0, none⟩ = some (.slice v.m.aL v.m.lL v.m.cL) ∧ w'.cell? ⟨w.heap.size, 1, none⟩ = some (.slice v.m.aS v.m.lS v.m.cS) ∧ w'.cell? ⟨w.heap.size, 2, none⟩ = some (.slice v.m.aD v.m.lD v.m.cD) ∧ w'.cell? ⟨w.heap.size, 3, none⟩ = some (.int .i64 v.m.idle) ∧ w'.cell? ⟨w.heap.size, 4, none⟩ = some (.int .i64 v.m.crit) ∧ w'.cell? ⟨w.heap.size, 5, none⟩ = some (.int .i64 v.m.sw) ∧ w'.cell? ⟨w.heap.size, 6, none⟩ = some (.int .i64 v.m.swe) ∧ w'.cell? ⟨w.heap.size, 7, none⟩ = some (.int .i64 v.m.sems) ∧ w'.cell? ⟨w.heap.size, 8, none⟩ = some (.int .i64 v.m.hor) ∧ w'.cell? ⟨b, off + k * 6, none⟩ = some (.int .i64 j.t) ∧ w'.cell? ⟨b, off + k * 6 + 1, none⟩ = some (.int .i64 j.r) ∧ w'.cell? ⟨b, off + k * 6 + 2, none⟩ = some (.int .i64 j.d) ∧ w'.cell? ⟨b, off + k * 6 + 3, none⟩ = some (.int .i64 j.l) ∧ w'.cell? ⟨b, off + k * 6 + 4, none⟩ = some (.int .i64 j.x) ∧ w'.cell? ⟨b, off + k * 6 + 5, none⟩ = some (.bool j.s)) (go_keep) (first
          | (go_at_call 38; refine (HA.out _ ?_).mono ?_; first | exact Kp.refl _ | exact TB.kp_drew _; rintro e w4 ⟨rfl, k4⟩; have K4 : Kp wr w4 := (by first | exact (TB.kp_drew _).trans k4 | exact k4); clear k4; obtain ⟨z0, z1, z2, z3, z4, z5, z6, z7, z8⟩ := (HP.out _ (HKr.out.trans K4)).all; obtain ⟨y0, y1, y2, y3, y4, y5⟩ := HC.out _ K4)
          | fail)
        all_goals
          go_wp2
          go_roundw
        all_goals first
          | exact ⟨k + 1, lv - jq, by omega, by go_num, by first | rfl | go_num, HN, HKr.out.trans K4⟩
          | (simp [intOf]; omega)
      · have HN : Hid (a - v.now - hn - qs v a (k + 1) = lv) := by show _ = _; rw [hN2.out hd]; exact HL.out
        clear hN1 hN2 HL HR
        rw [e]
        clear e
        go_wp2_with fail
        go_roundw
        case rel => exact ⟨k + 1, lv, by omega, by go_num, rfl, HN, HKr.out⟩
        case measure => simp [intOf]; omega
    · have hlt' : ¬ (k : Int) < (v.jl : Int) := by omega
      obtain rfl : k = v.jl := by omega
      have HKr : Hid (Kp W0 wr) := hkp
      have hw := wh_bd lv
      have HWh : Hid (∀ W, Calls Try.prog 25 #[.int .i64 lv] W fun e w' => e = .returned (.int .i64 (wh lv)) ∧ W = w') := fun W => rwhole_at lv W
      have HR2 : Hid (wh lv - toc v a v.tl = res) := by have := HR.out; rw [HL.out] at this; exact this
      clear HR HL hkp hqk hlv
      generalize wh lv = x at *
      go_wp2_with fail
      refine (HWh.out _).mono ?_
      rintro e w4 ⟨rfl, rfl⟩
      go_wp2_with fail
      go_loopw [17, 18] (fun l i wi => ∃ (k : Nat) (lv : Int), k ≤ v.tl ∧ i = .int .i64 k ∧ l = .int .i64 lv ∧ Hid (x - toc v a k = lv) ∧ Kp W0 wi) (fun _ i _ => v.tl - (intOf i).toNat)
      case atStart => exact ⟨0, x, Nat.zero_le _, rfl, rfl, by show _ = _; simp [toc], HKr.out⟩
      case round =>
        clear HKr
        obtain ⟨k, lv, hk, rfl, rfl, HL, hkp⟩ := hrel
        by_cases hlt : k < v.tl
        · have hlt' : (k : Int) < (v.tl : Int) := by omega
          have k0 : (0 : Int) ≤ (k : Int) := by omega
          have kn : ((k : Int)).toNat = k := by omega
          obtain ⟨b, off, t, e, hb, hg, ht, c0, c1, c2, c3⟩ := (HV0.out.t.kept (HK.out.trans hkp)).one hlt
          have HKr : Hid (Kp W0 wr) := hkp
          have hpk : pk v.T k = t.p := pk_at hg
          have htp : 0 ≤ t.p := (HG.out.tk t (List.mem_of_getElem? hg)).2.1
          have HPk : Hid (∀ W, Kp wr W → Calls Try.prog 40 #[.agg #[.slice v.m.aL v.m.lL v.m.cL, .slice v.m.aS v.m.lS v.m.cS, .slice v.m.aD v.m.lD v.m.cD, .int .i64 v.m.idle, .int .i64 v.m.crit, .int .i64 v.m.sw, .int .i64 v.m.swe, .int .i64 v.m.sems, .int .i64 v.m.hor], .agg #[.int .i64 t.p, .int .i64 t.c, .slice t.sa t.sl t.sc, .slice t.da t.dl t.dc], .int .i64 0] W fun e w' => e = .returned (.int .i64 (ptI v k)) ∧ Kp W w') := fun W q => HPt.out W k t hg (HKr.out.trans q)
          have HFk : Hid (∀ W, Kp wr W → Calls Try.prog 27 #[.slice v.na v.nl v.nc, .int .i64 (k : Nat), .int .i64 v.now] W fun e w' => e = .returned (.int .i64 (coI v k)) ∧ W = w') := fun W q => HFr.out W k hlt (HKr.out.trans q)
          have hco := coI_bd HG.out hlt
          have hN1 : Hid (t.p = 0 → toc v a (k + 1) = toc v a k) := fun q => toc_not (hpk.trans q)
          have hN2 : Hid (t.p ≠ 0 → toc v a (k + 1) = toc v a k + tm (ptI v k) (a - coI v k)) := fun q => toc_more (by rw [hpk]; exact q)
          have hb1 := HTb.out (k + 1) (by omega)
          have HTm : Hid (∀ W, Calls Try.prog 39 #[.int .i64 (ptI v k), .int .i64 (a - coI v k)] W fun e w' => e = .returned (.int .i64 (tm (ptI v k) (a - coI v k))) ∧ W = w') := fun W => rtimes_at _ _ (by omega) W
          have s3 : IntKind.i64.wrap (a - coI v k) = a - coI v k := wrapI (by omega)
          have HC : Hid (∀ W, Kp wr W → W.cell? ⟨b, off + k * 4, none⟩ = some (.int .i64 t.p) ∧ W.cell? ⟨b, off + k * 4 + 1, none⟩ = some (.int .i64 t.c) ∧ W.cell? ⟨b, off + k * 4 + 2, none⟩ = some (.slice t.sa t.sl t.sc) ∧ W.cell? ⟨b, off + k * 4 + 3, none⟩ = some (.slice t.da t.dl t.dc)) := fun W q => ⟨(q.cell (by exact hb)).trans c0, (q.cell (by exact hb)).trans c1, (q.cell (by exact hb)).trans c2, (q.cell (by exact hb)).trans c3⟩
          obtain ⟨p0, p1, p2, p3, p4, p5, p6, p7, p8⟩ := (HP.out _ hkp).all
          generalize ptI v k = pp at *
          generalize coI v k = cc at *
          obtain ⟨zz, hzz⟩ : ∃ zz, a - cc = zz := ⟨_, rfl⟩
          rw [hzz] at HTm hN2
          replace s3 : IntKind.i64.wrap (a - cc) = zz := s3.trans hzz
          clear hco hzz hg ht hpk hkp s1 s2 s1' s2'
          generalize tm pp zz = tt at *
          by_cases hp : 0 < t.p
          · have HN : Hid (x - toc v a (k + 1) = lv - tt) := by show _ = _; rw [hN2.out (by omega)]; have := HL.out; omega
            have s4 : IntKind.i64.wrap (lv - tt) = lv - tt := wrapI (by have := HN.out; omega)
            have s5 : wrap64 (lv - tt) = lv - tt := IntWalk.wrap64_in _ (by have := HN.out; omega)
            clear hN1 hN2 HL HR2 hb1
            rw [e]
            clear e
            go_wp2_with fail
            go_region_held3 (fun w' => w'.cell? ⟨w.heap.size, 0, none⟩ = some (.slice v.m.aL v.m.lL v.m.cL) ∧ w'.cell? ⟨w.heap.size, 1, none⟩ = some (.slice v.m.aS v.m.lS v.m.cS) ∧ w'.cell? ⟨w.heap.size, 2, none⟩ = some (.slice v.m.aD v.m.lD v.m.cD) ∧ w'.cell? ⟨w.heap.size, 3, none⟩ = some (.int .i64 v.m.idle) ∧ w'.cell? ⟨w.heap.size, 4, none⟩ = some (.int .i64 v.m.crit) ∧ w'.cell? ⟨w.heap.size, 5, none⟩ = some (.int .i64 v.m.sw) ∧ w'.cell? ⟨w.heap.size, 6, none⟩ = some (.int .i64 v.m.swe) ∧ w'.cell? ⟨w.heap.size, 7, none⟩ = some (.int .i64 v.m.sems) ∧ w'.cell? ⟨w.heap.size, 8, none⟩ = some (.int .i64 v.m.hor) ∧ w'.cell? ⟨b, off + k * 4, none⟩ = some (.int .i64 t.p) ∧ w'.cell? ⟨b, off + k * 4 + 1, none⟩ = some (.int .i64 t.c) ∧ w'.cell? ⟨b, off + k * 4 + 2, none⟩ = some (.slice t.sa t.sl t.sc) ∧ w'.cell? ⟨b, off + k * 4 + 3, none⟩ = some (.slice t.da t.dl t.dc)) (go_keep) (first
              | (go_at_call 40; refine (HPk.out _ ?_).mono ?_; first | exact Kp.refl _ | exact TB.kp_drew _; rintro e w5 ⟨rfl, k5⟩; have K5 : Kp wr w5 := (by first | exact (TB.kp_drew _).trans k5 | exact k5); clear k5; obtain ⟨z0, z1, z2, z3, z4, z5, z6, z7, z8⟩ := (HP.out _ (HKr.out.trans K5)).all; obtain ⟨y0, y1, y2, y3⟩ := HC.out _ K5)
              | (go_at_call 27; refine (HFk.out _ K5).mono ?_; rintro e w6 ⟨rfl, rfl⟩)
              | (go_at_call 39; refine (HTm.out _).mono ?_; rintro e w7 ⟨rfl, rfl⟩)
              | fail)
            all_goals
              go_wp2
              go_roundw
            all_goals first
              | exact ⟨k + 1, lv - tt, by omega, by go_num, by first | rfl | go_num, HN, HKr.out.trans K5⟩
              | (simp [intOf]; omega)
          · have HN : Hid (x - toc v a (k + 1) = lv) := by show _ = _; rw [hN1.out (by omega)]; exact HL.out
            clear hN1 hN2 HL HR2 hb1
            rw [e]
            clear e
            go_wp2_with fail
            go_roundw
            case rel => exact ⟨k + 1, lv, by omega, by go_num, rfl, HN, HKr.out⟩
            case measure => simp [intOf]; omega
        · have hlt' : ¬ (k : Int) < (v.tl : Int) := by omega
          obtain rfl : k = v.tl := by omega
          have HN : Hid (lv = res) := HL.out.symm.trans HR2.out
          clear HL HR2
          go_wp2
          go_ret
          exact ⟨congrArg (fun x => Ending.returned (Value.int .i64 x)) HN.out, HK.out.trans hkp⟩

set_option maxRecDepth 100000 in
set_option maxHeartbeats 16000000 in
theorem rleast_any (v : Vw) (f : Int) (w : World) (hv : VL w v) (g : VG v) :
    Calls Try.prog 16 #[v.m.v, .slice v.ta v.tl v.tc, .slice v.na v.nl v.nc, .slice v.ja v.jl v.jc, .slice v.ha v.hl v.hc, .int .i64 v.now, .int .i64 f] w fun e w' => e = .returned (.int .i64 (lsI v f)) ∧ Kp w w' := by
  obtain ⟨W0, HW, K0, P0⟩ := one_box w v.m
  have HP : Hid (∀ W, Kp W0 W → B9 W w.heap.size v.m) := fun W k => P0.kp k
  have HK : Hid (Kp w W0) := K0
  have HV0 : Hid (VL w v) := hv
  have HG : Hid (VG v) := g
  have HWh : Hid (∀ W, Calls Try.prog 25 #[.int .i64 1073741824] W fun e w' => e = .returned (.int .i64 4611686018427387904) ∧ W = w') := fun W => rwhole_at 1073741824 W
  have HAt : Hid (∀ W d, 0 ≤ d ∧ d ≤ 4194304 → Kp W0 W → Calls Try.prog 26 #[v.m.v, .slice v.ta v.tl v.tc, .slice v.na v.nl v.nc, .slice v.ja v.jl v.jc, .slice v.ha v.hl v.hc, .int .i64 v.now, .int .i64 d] W fun e w' => e = .returned (.int .i64 (atI v d)) ∧ Kp W w') := fun W d hd q => rat_any v d W (hv.kept (K0.trans q)) g hd
  have HFr : Hid (∀ W (k : Nat), k < v.tl → Kp W0 W → Calls Try.prog 27 #[.slice v.na v.nl v.nc, .int .i64 (k : Nat), .int .i64 v.now] W fun e w' => e = .returned (.int .i64 (coI v k)) ∧ W = w') := fun W k hk q => from_any v k W (hv.n.kept (K0.trans q)) (by rw [g.nl]; exact hk)
  have HMi : Hid (∀ W a b, Calls Try.prog 17 #[.int .i64 a, .int .i64 b] W fun e w' => e = .returned (.int .i64 (mn a b)) ∧ W = w') := fun W a b => rmin_at a b W
  obtain ⟨res, hres⟩ : ∃ res, lsI v f = res := ⟨_, rfl⟩
  rw [hres]
  have HR : Hid (lsM v f (djs v v.jl ++ dts v v.tl) = res) := hres
  have hjn := g.jn
  have htn := g.n
  obtain ⟨p0, p1, p2, p3, p4, p5, p6, p7, p8⟩ := P0.all
  unfold Mc.v at *
  clear hres K0 P0 hv g
  go_enter Try.func16, Try.ntmps16
  go_wp2_with fail
  rw [← HW.out]
  clear HW
  refine (HWh.out _).mono ?_
  rintro e w3 ⟨rfl, rfl⟩
  clear p0 p1 p2 p3 p4 p5 p6 p7 p8
  go_wp2_with fail
  go_loopw [15, 16] (fun l i wr => ∃ (k : Nat) (lv : Int), k ≤ v.jl ∧ i = .int .i64 k ∧ l = .int .i64 lv ∧ Hid (lsM v f (djs v k) = lv) ∧ Kp W0 wr) (fun _ i _ => v.jl - (intOf i).toNat)
  case atStart => exact ⟨0, _, Nat.zero_le _, rfl, rfl, rfl, Kp.refl _⟩
  case round =>
    obtain ⟨k, lv, hk, rfl, rfl, HL, hkp⟩ := hrel
    by_cases hlt : k < v.jl
    · have hlt' : (k : Int) < (v.jl : Int) := by omega
      have k0 : (0 : Int) ≤ (k : Int) := by omega
      have kn : ((k : Int)).toNat = k := by omega
      obtain ⟨b, off, j, e, hb, hg, hi, c0, c1, c2, c3, c4, c5⟩ := (HV0.out.j.kept (HK.out.trans hkp)).one hlt
      have HKr : Hid (Kp W0 wr) := hkp
      have hjd := (HG.out.jb j (List.mem_of_getElem? hg)).2.2.1
      have HA : Hid (∀ W, Kp wr W → Calls Try.prog 26 #[.agg #[.slice v.m.aL v.m.lL v.m.cL, .slice v.m.aS v.m.lS v.m.cS, .slice v.m.aD v.m.lD v.m.cD, .int .i64 v.m.idle, .int .i64 v.m.crit, .int .i64 v.m.sw, .int .i64 v.m.swe, .int .i64 v.m.sems, .int .i64 v.m.hor], .slice v.ta v.tl v.tc, .slice v.na v.nl v.nc, .slice (some ⟨b, off, none⟩) v.jl v.jc, .slice v.ha v.hl v.hc, .int .i64 v.now, .int .i64 j.d] W fun e w' => e = .returned (.int .i64 (atI v j.d)) ∧ Kp W w') := fun W q => by have z := HAt.out W j.d (by omega) (HKr.out.trans q); rw [e] at z; exact z
      have hN : Hid (lsM v f (djs v (k + 1)) = if f ≤ j.d then mn lv (atI v j.d) else lv) := by show _ = _; rw [djs_more hg, lsM_more, HL.out]
      have HM : Hid (∀ W, Calls Try.prog 17 #[.int .i64 lv, .int .i64 (atI v j.d)] W fun e w' => e = .returned (.int .i64 (mn lv (atI v j.d))) ∧ W = w') := fun W => HMi.out W _ _
      have HC : Hid (∀ W, Kp wr W → W.cell? ⟨b, off + k * 6, none⟩ = some (.int .i64 j.t) ∧ W.cell? ⟨b, off + k * 6 + 2, none⟩ = some (.int .i64 j.d)) := fun W q => ⟨(q.cell (by exact hb)).trans c0, (q.cell (by exact hb)).trans c2⟩
      obtain ⟨p0, p1, p2, p3, p4, p5, p6, p7, p8⟩ := (HP.out _ hkp).all
      generalize atI v j.d = x at *
      generalize mn lv x = mm at *
      clear hg hi hkp hjd c1 c3 c4 c5
      by_cases hd : f ≤ j.d
      · have HN : Hid (lsM v f (djs v (k + 1)) = mm) := hN.out.trans (if_pos hd)
        clear hN HL HR
        rw [e]
        clear e
        go_wp2_with fail
        go_region_held3 (fun w' => w'.cell? ⟨w.heap.size, 0, none⟩ = some (.slice v.m.aL v.m.lL v.m.cL) ∧ w'.cell? ⟨w.heap.size, 1, none⟩ = some (.slice v.m.aS v.m.lS v.m.cS) ∧ w'.cell? ⟨w.heap.size, 2, none⟩ = some (.slice v.m.aD v.m.lD v.m.cD) ∧ w'.cell? ⟨w.heap.size, 3, none⟩ = some (.int .i64 v.m.idle) ∧ w'.cell? ⟨w.heap.size, 4, none⟩ = some (.int .i64 v.m.crit) ∧ w'.cell? ⟨w.heap.size, 5, none⟩ = some (.int .i64 v.m.sw) ∧ w'.cell? ⟨w.heap.size, 6, none⟩ = some (.int .i64 v.m.swe) ∧ w'.cell? ⟨w.heap.size, 7, none⟩ = some (.int .i64 v.m.sems) ∧ w'.cell? ⟨w.heap.size, 8, none⟩ = some (.int .i64 v.m.hor) ∧ w'.cell? ⟨b, off + k * 6, none⟩ = some (.int .i64 j.t) ∧ w'.cell? ⟨b, off + k * 6 + 2, none⟩ = some (.int .i64 j.d)) (go_keep) (first
          | (go_at_call 26; refine (HA.out _ ?_).mono ?_; first | exact Kp.refl _ | exact TB.kp_drew _; rintro e w4 ⟨rfl, k4⟩; have K4 : Kp wr w4 := (by first | exact (TB.kp_drew _).trans k4 | exact k4); clear k4; obtain ⟨z0, z1, z2, z3, z4, z5, z6, z7, z8⟩ := (HP.out _ (HKr.out.trans K4)).all; obtain ⟨y0, y2⟩ := HC.out _ K4)
          | (go_at_call 17; refine (HM.out _).mono ?_; rintro e w5 ⟨rfl, rfl⟩)
          | fail)
        all_goals
          go_wp2
          go_roundw
        all_goals first
          | exact ⟨k + 1, mm, by omega, by go_num, rfl, HN, HKr.out.trans K4⟩
          | (simp [intOf]; omega)
      · have HN : Hid (lsM v f (djs v (k + 1)) = lv) := hN.out.trans (if_neg hd)
        clear hN HL HR
        rw [e]
        clear e
        go_wp2_with fail
        go_roundw
        case rel => exact ⟨k + 1, lv, by omega, by go_num, rfl, HN, HKr.out⟩
        case measure => simp [intOf]; omega
    · have hlt' : ¬ (k : Int) < (v.jl : Int) := by omega
      obtain rfl : k = v.jl := by omega
      have HKr : Hid (Kp W0 wr) := hkp
      have HL1 : Hid (lsM v f (djs v v.jl ++ dts v 0) = lv) := by show _ = _; simp only [dts, List.append_nil]; exact HL.out
      clear HL hkp
      go_wp2_with fail
      go_loopw [15, 17] (fun l i wi => ∃ (k : Nat) (lv : Int), k ≤ v.tl ∧ i = .int .i64 k ∧ l = .int .i64 lv ∧ Hid (lsM v f (djs v v.jl ++ dts v k) = lv) ∧ Kp W0 wi) (fun _ i _ => v.tl - (intOf i).toNat)
      case atStart => exact ⟨0, lv, Nat.zero_le _, rfl, rfl, HL1.out, HKr.out⟩
      case round =>
        clear HKr HL1
        obtain ⟨k, lv, hk, rfl, rfl, HL, hkp⟩ := hrel
        by_cases hlt : k < v.tl
        · have hlt' : (k : Int) < (v.tl : Int) := by omega
          have k0 : (0 : Int) ≤ (k : Int) := by omega
          have kn : ((k : Int)).toNat = k := by omega
          obtain ⟨b, off, t, e, hb, hg, ht, c0, c1, c2, c3⟩ := (HV0.out.t.kept (HK.out.trans hkp)).one hlt
          have HKr : Hid (Kp W0 wr) := hkp
          have hpk : pk v.T k = t.p := pk_at hg
          have htp : 0 ≤ t.p := (HG.out.tk t (List.mem_of_getElem? hg)).2.1
          have hnb := ndI_bd HG.out hlt
          have hnd : coI v k + t.p = ndI v k := by unfold ndI; rw [hpk]
          have HFk : Hid (∀ z, Calls Try.prog 27 #[.slice v.na v.nl v.nc, .int .i64 (k : Nat), .int .i64 v.now] (wr.drewN z) fun e w' => e = .returned (.int .i64 (coI v k)) ∧ w' = wr.drewN z) := fun z => (HFr.out _ k hlt (HKr.out.trans (skp_drewN _ _))).mono fun _ _ ⟨h1, h2⟩ => ⟨h1, h2.symm⟩
          have hN1 : Hid (t.p = 0 → lsM v f (djs v v.jl ++ dts v (k + 1)) = lv) := fun q => by rw [dts_not (hpk.trans q)]; exact HL.out
          have hN2 : Hid (t.p ≠ 0 → lsM v f (djs v v.jl ++ dts v (k + 1)) = if f ≤ ndI v k then mn lv (atI v (ndI v k)) else lv) := fun q => by rw [dts_more (by rw [hpk]; exact q), ← List.append_assoc, lsM_more, HL.out]
          have HA : Hid (∀ W, Kp wr W → Calls Try.prog 26 #[.agg #[.slice v.m.aL v.m.lL v.m.cL, .slice v.m.aS v.m.lS v.m.cS, .slice v.m.aD v.m.lD v.m.cD, .int .i64 v.m.idle, .int .i64 v.m.crit, .int .i64 v.m.sw, .int .i64 v.m.swe, .int .i64 v.m.sems, .int .i64 v.m.hor], .slice (some ⟨b, off, none⟩) v.tl v.tc, .slice v.na v.nl v.nc, .slice v.ja v.jl v.jc, .slice v.ha v.hl v.hc, .int .i64 v.now, .int .i64 (ndI v k)] W fun e w' => e = .returned (.int .i64 (atI v (ndI v k))) ∧ Kp W w') := fun W q => by have z := HAt.out W (ndI v k) (by omega) (HKr.out.trans q); rw [e] at z; exact z
          have HM : Hid (∀ W, Calls Try.prog 17 #[.int .i64 lv, .int .i64 (atI v (ndI v k))] W fun e w' => e = .returned (.int .i64 (mn lv (atI v (ndI v k)))) ∧ W = w') := fun W => HMi.out W _ _
          have s1 : IntKind.i64.wrap (coI v k + t.p) = ndI v k := by rw [hnd]; exact wrapI (by omega)
          have s2 : wrap64 (coI v k + t.p) = ndI v k := by rw [hnd]; exact IntWalk.wrap64_in _ (by omega)
          have HC : Hid (∀ W, Kp wr W → W.cell? ⟨b, off + k * 4, none⟩ = some (.int .i64 t.p)) := fun W q => (q.cell (by exact hb)).trans c0
          generalize atI v (ndI v k) = x at *
          generalize mn lv x = mm at *
          generalize ndI v k = nd at *
          generalize coI v k = cc at *
          clear hg ht hpk hkp hnb hnd c1 c2 c3
          rw [e]
          clear e
          go_wp2_with fail
          go_quiet (first | (go_at_call 27; exact Calls.quiet_of_same (HFk.out _)) | fail)
          generalize hwq : World.drewN wr _ = w2
          have K2 : Kp wr w2 := by rw [← hwq]; exact skp_drewN _ _
          have HK2 : Hid (Kp wr w2) := K2
          have d0 := HC.out _ K2
          obtain ⟨p0, p1, p2, p3, p4, p5, p6, p7, p8⟩ := (HP.out _ (HKr.out.trans K2)).all
          clear hwq K2 c0
          by_cases hp : 0 < t.p
          · have d1 : decide (0 < t.p) = true := decide_eq_true hp
            by_cases hd : f ≤ nd
            · have HN : Hid (lsM v f (djs v v.jl ++ dts v (k + 1)) = mm) := (hN2.out (by omega)).trans (if_pos hd)
              have d2 : decide (f ≤ nd) = true := decide_eq_true hd
              clear hN1 hN2 HL HR
              go_wp2_with fail
              refine (HA.out _ HK2.out).mono ?_
              rintro e w5 ⟨rfl, k5⟩
              go_wp2_with fail
              refine (HM.out _).mono ?_
              rintro e w6 ⟨rfl, rfl⟩
              go_wp2
              go_roundw
              case rel => exact ⟨k + 1, mm, by omega, by go_num, rfl, HN, HKr.out.trans (HK2.out.trans k5)⟩
              case measure => simp [intOf]; omega
            · have HN : Hid (lsM v f (djs v v.jl ++ dts v (k + 1)) = lv) := (hN2.out (by omega)).trans (if_neg hd)
              have d2 : decide (f ≤ nd) = false := decide_eq_false hd
              clear hN1 hN2 HL HR
              go_wp2_with fail
              go_roundw
              case rel => exact ⟨k + 1, lv, by omega, by go_num, rfl, HN, HKr.out.trans HK2.out⟩
              case measure => simp [intOf]; omega
          · have d1 : decide (0 < t.p) = false := decide_eq_false hp
            have HN : Hid (lsM v f (djs v v.jl ++ dts v (k + 1)) = lv) := hN1.out (by omega)
            clear hN1 hN2 HL HR
            go_wp2_with fail
            go_roundw
            case rel => exact ⟨k + 1, lv, by omega, by go_num, rfl, HN, HKr.out.trans HK2.out⟩
            case measure => simp [intOf]; omega
        · have hlt' : ¬ (k : Int) < (v.tl : Int) := by omega
          obtain rfl : k = v.tl := by omega
          have HN : Hid (lv = res) := HL.out.symm.trans HR.out
          clear HL HR
          go_wp2
          go_ret
          exact ⟨congrArg (fun x => Ending.returned (Value.int .i64 x)) HN.out, HK.out.trans hkp⟩

end Go.Proofs.Ytnpbdcnogeohdaa.SK
