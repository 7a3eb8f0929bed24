/- Baker's test: of tasks that fit, in a time of any length, all jobs that come and have their deadlines within it take no longer, held up once. -/
import Derived.Test.YtgecandbbmljbaaAdmAns
import Derived.Test.YtgecandbbmljbaaAdmGood
import Derived.Test.YtgecandbbmljbaaAdmDemP
namespace Go.Proofs.Ytgecandbbmljbaa.AD
open Go.ChangeShapes Go.WideShapes Go.ChangeAt Go.RowKit Go.Proofs.Ytgecandbbmljbaa.AR Go.Proofs.Ytgecandbbmljbaa.TB Go.Proofs.Ytgecandbbmljbaa.TK Go.Proofs.Ytgecandbbmljbaa.FX

theorem u32_in {x : Int} (h : (Lit.int .u32 x).wf = true) : 0 ≤ x ∧ x ≤ 4294967295 := by
  simp [Lit.wf, IntKind.min, IntKind.max, IntKind.signed, IntKind.bits] at h
  omega

set_option maxRecDepth 100000 in
set_option maxHeartbeats 8000000 in
theorem admitDemand_go (m : Mc) (ao : Option Addr) (len cap : Nat) (L : List Tk) (time : Int) (w : World) (hm : m.At w) (h : LAt w ao len L) (htm : (Lit.int .u32 time).wf = true) :
    Calls Try.prog 6 #[m.v, .slice ao len cap, .int .u32 time] w fun e w' => e = .returned (.bool true) ∧ Below w.heap.size w w' := by
  have HE : Hid (∀ w', Kp w w' → Below w.heap.size w w') := fun w' q => q
  have hby := h.by'
  have HL0 : Hid (LAt w ao len L) := h
  have HG : Hid (∀ W, Kp w W → Calls Try.prog 9 #[m.v, .slice ao len cap] W fun e w' => e = .returned (.bool (goodB m L)) ∧ Kp W w') := fun W k => good_any m ao len cap L W (hm.kept k) (h.kept k)
  have HD : Hid (goodB m L = true → Gd m L ∧ ∀ t ∈ L, 1 ≤ t.p ∧ t.p ≤ 16384) := fun q => good_t q
  have HF : Hid (Gd m L → ∀ W, Kp w W → Calls Try.prog 20 #[m.v, .slice ao len cap] W fun e w' => e = .returned (.bool (fitB m L)) ∧ Kp W w') := fun d W k => fits_any m ao len cap L W (hm.kept k) (h.kept k) d
  have HFt : Hid (fitB m L = true → lod m L 0 ≤ 4294967296) := fun q => of_decide_eq_true q
  have HQ : Hid (Gd m L → ∀ (W : World) (t : Tk), Kp w W → 0 ≤ t.c ∧ t.c ≤ 4096 → Calls Try.prog 11 #[m.v, t.v, .int .i64 0] W fun e w' => e = .returned (.int .i64 (qn m t.c 0)) ∧ Kp W w') := fun d W t k c => tquanta_any m t 0 W (hm.kept k) d.b c
  have HB : Hid (Gd m L → ∀ W per, Kp w W → Calls Try.prog 14 #[m.v, .slice ao len cap, .int .i64 per] W fun e w' => e = .returned (.int .i64 (blk m L per)) ∧ Kp W w') := fun d W per k => block_any m ao len cap L per W (hm.kept k) (h.kept k) d.b d.t
  obtain ⟨tm0, tm1⟩ := u32_in htm
  clear hm h htm
  obtain ⟨W0, HW, K0, P0⟩ := one_box w m
  have HP : Hid (∀ W, Kp W0 W → B9 W w.heap.size m) := fun W k => P0.kp k
  have HK : Hid (Kp w W0) := K0
  generalize goodB m L = gd at *
  generalize fitB m L = ft at *
  obtain ⟨p0, p1, p2, p3, p4, p5, p6, p7, p8⟩ := P0.all
  unfold Mc.v at *
  clear P0 K0
  cases gd with
  | false =>
    go_enter Try.func6, Try.ntmps6
    go_wp2_with fail
    rw [← HW.out]
    refine (HG.out _ HK.out).mono ?_
    rintro e w1 ⟨rfl, k1⟩
    go_wp2_with fail
    refine (aanswers_any _).mono ?_
    rintro e w2 ⟨rfl, k2⟩
    go_wp2
    go_ret
    exact ⟨rfl, HE.out _ ((HK.out.trans k1).trans k2)⟩
  | true =>
    obtain ⟨d, hpp⟩ := HD.out rfl
    have HF' := HF.out d
    clear HF
    have HF : Hid _ := HF'
    clear HF'
    cases ft with
    | false =>
      go_enter Try.func6, Try.ntmps6
      go_wp2_with fail
      rw [← HW.out]
      refine (HG.out _ HK.out).mono ?_
      rintro e w1 ⟨rfl, k1⟩
      have HK1 : Hid (Kp W0 w1) := k1
      clear k1 p0 p1 p2 p3 p4 p5 p6 p7 p8 HG
      obtain ⟨p0, p1, p2, p3, p4, p5, p6, p7, p8⟩ := (HP.out _ HK1.out).all
      go_wp2_with fail
      refine (HF.out _ (HK.out.trans HK1.out)).mono ?_
      rintro e w2 ⟨rfl, k2⟩
      go_wp2_with fail
      refine (aanswers_any _).mono ?_
      rintro e w3 ⟨rfl, k3⟩
      go_wp2
      go_ret
      exact ⟨rfl, HE.out _ (((HK.out.trans HK1.out).trans k2).trans k3)⟩
    | true =>
      have HDD : Hid (Gd m L ∧ ∀ t ∈ L, 1 ≤ t.p ∧ t.p ≤ 16384) := ⟨d, hpp⟩
      have HBk := fun (t : Int) (q : 0 ≤ t) => baker d hpp (HFt.out rfl) (t := t) q
      have HBK : Hid (∀ t : Int, 0 ≤ t → dmd m L t L.length + hdu m L t L.length ≤ t) := HBk
      clear HBk d hpp HFt HD
      go_enter Try.func6, Try.ntmps6
      go_wp2_with fail
      rw [← HW.out]
      refine (HG.out _ HK.out).mono ?_
      rintro e w1 ⟨rfl, k1⟩
      have HK1 : Hid (Kp W0 w1) := k1
      clear k1 p0 p1 p2 p3 p4 p5 p6 p7 p8 HG
      obtain ⟨p0, p1, p2, p3, p4, p5, p6, p7, p8⟩ := (HP.out _ HK1.out).all
      go_wp2_with fail
      refine (HF.out _ (HK.out.trans HK1.out)).mono ?_
      rintro e w2 ⟨rfl, k2⟩
      have HK2 : Hid (Kp W0 w2) := HK1.out.trans k2
      clear k2 p0 p1 p2 p3 p4 p5 p6 p7 p8 HF
      go_wp2_with fail
      have hx0 : 0 ≤ time % 1048576 := by omega
      have hx1 : time % 1048576 ≤ 1048575 := by omega
      have HB1 : Hid (∀ W per, Kp w W → Calls Try.prog 14 #[.agg #[.slice m.aL m.lL m.cL, .slice m.aS m.lS m.cS, .slice m.aD m.lD m.cD, .int .i64 m.idle, .int .i64 m.crit, .int .i64 m.sw, .int .i64 m.swe, .int .i64 m.sems, .int .i64 m.hor], .slice ao len cap, .int .i64 per] W fun e w' => e = .returned (.int .i64 (blk m L per)) ∧ Kp W w') := HB.out HDD.out.1
      have HQ1 : Hid (∀ (W : World) (t : Tk), Kp w W → 0 ≤ t.c ∧ t.c ≤ 4096 → Calls Try.prog 11 #[.agg #[.slice m.aL m.lL m.cL, .slice m.aS m.lS m.cS, .slice m.aD m.lD m.cD, .int .i64 m.idle, .int .i64 m.crit, .int .i64 m.sw, .int .i64 m.swe, .int .i64 m.sems, .int .i64 m.hor], t.v, .int .i64 0] W fun e w' => e = .returned (.int .i64 (qn m t.c 0)) ∧ Kp W w') := HQ.out HDD.out.1
      clear HB HQ
      generalize time % 1048576 = x at *
      clear tm0 tm1 HW
      go_loopw [8, 9, 10] (fun s hd i wr => ∃ (k : Nat) (sv hv : Int), k ≤ len ∧ i = .int .i64 k ∧ s = .int .i64 sv ∧ hd = .int .i64 hv ∧ Hid (dmd m L x k = sv) ∧ Hid (hdu m L x k = hv) ∧ Kp w2 wr) (fun _ _ i _ => len - (intOf i).toNat)
      case atStart => exact ⟨0, _, _, Nat.zero_le _, rfl, rfl, rfl, rfl, rfl, Kp.refl _⟩
      case round =>
        obtain ⟨k, sv, hv, hk, rfl, rfl, rfl, HS, HH, hkp⟩ := hrel
        have KV : Hid (Kp W0 wr) := HK2.out.trans hkp
        have hkp2 : Hid (Kp w2 wr) := hkp
        by_cases hlt : k < len
        · have hlt' : (k : Int) < (len : Int) := by omega
          have hk0 : (0 : Int) ≤ (k : Int) := by omega
          have hkn : (k : Int).toNat = k := by omega
          obtain ⟨b, off, t, rfl, hb, hg, ht, c0, c1, c2, c3⟩ := (HL0.out.kept (HK.out.trans KV.out)).one hlt
          have hmem := List.mem_of_getElem? hg
          have hp := HDD.out.2 t hmem
          have hbt := HDD.out.1.t t hmem
          have HC0 : Hid (∀ W, Kp wr W → W.cell? ⟨b, off + k * 4, none⟩ = some (.int .i64 t.p) ∧ W.cell? ⟨b, off + k * 4 + 1, none⟩ = some (.int .i64 t.c) ∧ W.cell? ⟨b, off + k * 4 + 2, none⟩ = some (.slice t.sa t.sl t.sc) ∧ W.cell? ⟨b, off + k * 4 + 3, none⟩ = some (.slice t.da t.dl t.dc)) := fun W q => ⟨(q.cell (by exact hb)).trans c0, (q.cell (by exact hb)).trans c1, (q.cell (by exact hb)).trans c2, (q.cell (by exact hb)).trans c3⟩
          have HN : Hid (dmd m L x (k + 1) = sv + x / t.p * qn m t.c 0) := by show _ = _; rw [dmd_one hg, HS.out]
          have hf := dmd_bd HDD.out.1.b HDD.out.1.t HDD.out.2 ⟨hx0, hx1⟩ (k := k + 1)
          have hkl : (((k + 1 : Nat) : Int)) ≤ 64 := by have := HDD.out.1.n; have := HL0.out.ln; omega
          have q := qn_bd HDD.out.1.b (lev := 0) hbt.c
          have dv := quo_bd hx0 hp.1
          have mb := mul_bound (a := x / t.p) (b := qn m t.c 0) (A := 1048576) (B := 1049088) dv.1 (by omega) q.1 q.2
          rw [HN.out] at hf
          have hp0 : ¬ t.p = 0 := by omega
          have hp1 : 1 ≤ t.p := hp.1
          have s0 : IntKind.i64.wrap (x.tdiv t.p) = x / t.p := by rw [Int.tdiv_eq_ediv_of_nonneg hx0]; exact wrapI (by omega)
          have s1 : IntKind.i64.wrap (x / t.p * qn m t.c 0) = x / t.p * qn m t.c 0 := wrapI (by omega)
          have s2 : IntKind.i64.wrap (sv + x / t.p * qn m t.c 0) = sv + x / t.p * qn m t.c 0 := wrapI (by omega)
          have HQk : Hid (∀ W, Kp wr W → Calls Try.prog 11 #[.agg #[.slice m.aL m.lL m.cL, .slice m.aS m.lS m.cS, .slice m.aD m.lD m.cD, .int .i64 m.idle, .int .i64 m.crit, .int .i64 m.sw, .int .i64 m.swe, .int .i64 m.sems, .int .i64 m.hor], .agg #[.int .i64 t.p, .int .i64 t.c, .slice t.sa t.sl t.sc, .slice t.da t.dl t.dc], .int .i64 0] W fun e w' => e = .returned (.int .i64 (qn m t.c 0)) ∧ Kp W w') := fun W q => HQ1.out W t ((HK.out.trans KV.out).trans q) hbt.c
          have HBk : Hid (∀ W, Kp wr W → Calls Try.prog 14 #[.agg #[.slice m.aL m.lL m.cL, .slice m.aS m.lS m.cS, .slice m.aD m.lD m.cD, .int .i64 m.idle, .int .i64 m.crit, .int .i64 m.sw, .int .i64 m.swe, .int .i64 m.sems, .int .i64 m.hor], .slice (some ⟨b, off, none⟩) len cap, .int .i64 t.p] W fun e w' => e = .returned (.int .i64 (blk m L t.p)) ∧ Kp W w') := fun W q => HB1.out W t.p ((HK.out.trans KV.out).trans q)
          have HIn : Hid (t.p ≤ x → hdu m L x (k + 1) = mx hv (blk m L t.p)) := fun g => by rw [hdu_in hg g, HH.out]
          have HOut : Hid (x < t.p → hdu m L x (k + 1) = hv) := fun g => by rw [hdu_not hg (by omega), HH.out]
          generalize qn m t.c 0 = qz at *
          generalize x / t.p = dz at *
          generalize blk m L t.p = bz at *
          clear HS HH ht hg HQ1 HB1 hkp hf hmem hp hbt dv mb q hkl
          obtain ⟨p0, p1, p2, p3, p4, p5, p6, p7, p8⟩ := (HP.out _ KV.out).all
          go_wp2_with fail
          go_region_held3 (fun w' => w'.cell? ⟨w.heap.size, 0, none⟩ = some (.slice m.aL m.lL m.cL) ∧ w'.cell? ⟨w.heap.size, 1, none⟩ = some (.slice m.aS m.lS m.cS) ∧ w'.cell? ⟨w.heap.size, 2, none⟩ = some (.slice m.aD m.lD m.cD) ∧ w'.cell? ⟨w.heap.size, 3, none⟩ = some (.int .i64 m.idle) ∧ w'.cell? ⟨w.heap.size, 4, none⟩ = some (.int .i64 m.crit) ∧ w'.cell? ⟨w.heap.size, 5, none⟩ = some (.int .i64 m.sw) ∧ w'.cell? ⟨w.heap.size, 6, none⟩ = some (.int .i64 m.swe) ∧ w'.cell? ⟨w.heap.size, 7, none⟩ = some (.int .i64 m.sems) ∧ w'.cell? ⟨w.heap.size, 8, none⟩ = some (.int .i64 m.hor) ∧ w'.cell? ⟨b, off + k * 4, none⟩ = some (.int .i64 t.p) ∧ w'.cell? ⟨b, off + k * 4 + 1, none⟩ = some (.int .i64 t.c) ∧ w'.cell? ⟨b, off + k * 4 + 2, none⟩ = some (.slice t.sa t.sl t.sc) ∧ w'.cell? ⟨b, off + k * 4 + 3, none⟩ = some (.slice t.da t.dl t.dc)) (go_keep) (first
            | (go_at_call 11; refine (HQk.out _ ?_).mono ?_; first | exact Kp.refl _ | exact tkp_drew _; rintro e w3 ⟨rfl, k3⟩; have K3 : Kp wr w3 := (by first | exact (tkp_drew _).trans k3 | exact k3); clear k3; obtain ⟨z0, z1, z2, z3, z4, z5, z6, z7, z8⟩ := (HP.out _ (KV.out.trans K3)).all; obtain ⟨y0, y1, y2, y3⟩ := HC0.out _ K3)
            | fail)
          all_goals
            have KV3 : Hid (Kp W0 w3) := KV.out.trans K3
            have HK3 : Hid (Kp wr w3) := K3
            clear K3
            clear p0 p1 p2 p3 p4 p5 p6 p7 p8 z0 z1 z2 z3 z4 z5 z6 z7 z8 y0 y1 y2 y3 c0 c1 c2 c3 s0 s1 s2
            obtain ⟨p0, p1, p2, p3, p4, p5, p6, p7, p8⟩ := (HP.out _ KV3.out).all
            obtain ⟨c0, c1, c2, c3⟩ := HC0.out _ HK3.out
            by_cases g : t.p ≤ x
            · have HN2 : Hid (hdu m L x (k + 1) = mx hv bz) := HIn.out g
              have MX : ∀ ts ty w, (Builtin.max_ ts ty #[.int .i64 hv, .int .i64 bz]).run Try.prog w = .ok (.int .i64 (mx hv bz)) w := fun ts ty w => run_max2 ts ty _ _ w
              generalize mx hv bz = nx at *
              clear HIn HOut HQk
              go_wp2_with fail
              go_region_held3 (fun w' => w'.cell? ⟨w.heap.size, 0, none⟩ = some (.slice m.aL m.lL m.cL) ∧ w'.cell? ⟨w.heap.size, 1, none⟩ = some (.slice m.aS m.lS m.cS) ∧ w'.cell? ⟨w.heap.size, 2, none⟩ = some (.slice m.aD m.lD m.cD) ∧ w'.cell? ⟨w.heap.size, 3, none⟩ = some (.int .i64 m.idle) ∧ w'.cell? ⟨w.heap.size, 4, none⟩ = some (.int .i64 m.crit) ∧ w'.cell? ⟨w.heap.size, 5, none⟩ = some (.int .i64 m.sw) ∧ w'.cell? ⟨w.heap.size, 6, none⟩ = some (.int .i64 m.swe) ∧ w'.cell? ⟨w.heap.size, 7, none⟩ = some (.int .i64 m.sems) ∧ w'.cell? ⟨w.heap.size, 8, none⟩ = some (.int .i64 m.hor) ∧ w'.cell? ⟨b, off + k * 4, none⟩ = some (.int .i64 t.p)) (go_keep) (first
                | (go_at_call 14; refine (HBk.out _ ?_).mono ?_; first | exact HK3.out | exact HK3.out.trans (tkp_drew _); rintro e w4 ⟨rfl, k4⟩; have K4 : Kp w3 w4 := (by first | exact (tkp_drew _).trans k4 | exact k4); clear k4; obtain ⟨z0, z1, z2, z3, z4, z5, z6, z7, z8⟩ := (HP.out _ (KV3.out.trans K4)).all; obtain ⟨y0, y1, y2, y3⟩ := HC0.out _ (HK3.out.trans K4))
                | fail)
              all_goals
                clear z0 z1 z2 z3 z4 z5 z6 z7 z8 y0 y1 y2 y3
                go_wp2
                go_roundw
                case rel => exact ⟨k + 1, _, _, by omega, by go_num, rfl, rfl, HN, HN2, (hkp2.out.trans HK3.out).trans K4⟩
                case measure => simp [intOf]; omega
            · have HN2 : Hid (hdu m L x (k + 1) = hv) := HOut.out (by omega)
              have g' : x < t.p := by omega
              clear HIn HOut HQk g
              go_wp2
              go_roundw
              case rel => exact ⟨k + 1, _, _, by omega, by go_num, rfl, rfl, HN, HN2, hkp2.out.trans HK3.out⟩
              case measure => simp [intOf]; omega
        · have hlt' : ¬ (k : Int) < (len : Int) := by omega
          obtain rfl : k = len := by omega
          have HN : sv + hv ≤ x := by rw [← HS.out, ← HH.out, ← HL0.out.ln]; exact HBK.out x hx0
          have HHb := hdu_bd HDD.out.1.b HDD.out.1.t (t := x) (k := k)
          have HSb := dmd_bd HDD.out.1.b HDD.out.1.t HDD.out.2 ⟨hx0, hx1⟩ (k := k)
          rw [HH.out] at HHb
          rw [HS.out] at HSb
          obtain ⟨hh0, hh1⟩ := HHb
          obtain ⟨ss0, _⟩ := HSb
          clear HS HH HB1 HQ1
          go_wp2_with fail
          refine (aanswers_any _).mono ?_
          rintro e w3 ⟨rfl, k3⟩
          go_wp2
          go_ret
          exact ⟨rfl, HE.out _ ((HK.out.trans KV.out).trans k3)⟩

theorem admitDemand_walk (aL : Option Addr) (lL cL : Nat) (rL : List (List Int)) (aS : Option Addr) (lS cS : Nat) (rS : List (List Int)) (aD : Option Addr) (lD cD : Nat) (rD : List (List Int)) (idle crit sw swe sems hor : Int) (ao : Option Addr) (len cap : Nat) (L : List Tk) (time : Int) (w : World)
    (hm : Mach w aL lL rL aS lS rS aD lD rD) (h : LAt w ao len L) (_ : len * 64 ≤ 140737488351232) (ht : (Lit.int .u32 time).wf = true) :
    Calls Try.prog 6 #[pv aL lL cL aS lS cS aD lD cD idle crit sw swe sems hor, .slice ao len cap, .int .u32 time] w fun e w' => e = .returned (.bool true) ∧ Below w.heap.size w w' :=
  admitDemand_go ⟨aL, lL, cL, rL, aS, lS, cS, rS, aD, lD, cD, rD, idle, crit, sw, swe, sems, hor⟩ ao len cap L time w hm h ht

end Go.Proofs.Ytgecandbbmljbaa.AD
