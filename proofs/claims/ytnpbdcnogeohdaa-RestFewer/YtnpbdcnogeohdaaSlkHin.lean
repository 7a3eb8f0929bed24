/- Which semaphores count, and for how many quanta jobs may be held up: walked. -/
import Derived.Test.YtnpbdcnogeohdaaSlkFun
import Derived.Test.YtnpbdcnogeohdaaTskCel
namespace Go.Proofs.Ytnpbdcnogeohdaa.SK
open Go.ChangeShapes Go.WideShapes Go.ChangeAt Go.RowKit Go.Proofs.Ytnpbdcnogeohdaa.AR Go.Proofs.Ytnpbdcnogeohdaa.TB Go.Proofs.Ytnpbdcnogeohdaa.TK Go.Proofs.Ytnpbdcnogeohdaa.JB Go.Proofs.Ytnpbdcnogeohdaa.FX Go.Proofs.Ytnpbdcnogeohdaa.AD
open Go.Proofs.Ytnpbdcnogeohdaa.LK (Hd atH HsAt C3)

theorem cell_of {W : World} {g q : Nat} {xs : Array Value} {ty : TypeId} {fr : Nat × Nat} {v : Value} (h : W.heap[g]? = some (.cells xs ty fr)) (e : xs[q]? = some v) : W.cell? ⟨g, q, none⟩ = some v := by simp [World.cell?, h, e]

theorem cnt_box (w : World) (v : Vw) (h : Hd) (a : Int) : ∃ W0, Hid (W0 = ((w.alloc (.cells #[.slice v.m.aL v.m.lL v.m.cL, .slice v.m.aS v.m.lS v.m.cS, .slice v.m.aD v.m.lD v.m.cD, .int .i64 v.m.idle, .int .i64 v.m.crit, .int .i64 v.m.sw, .int .i64 v.m.swe, .int .i64 v.m.sems, .int .i64 v.m.hor, .slice v.ta v.tl v.tc, .slice v.na v.nl v.nc, .slice v.ja v.jl v.jc, .slice v.ha v.hl v.hc, .int .i64 v.now] 47)).alloc (.cells #[.int .i64 h.t, .int .i64 h.s, .int .i64 h.l] 69)).alloc (.cells #[.int .i64 a] 3)) ∧ Kp w W0 ∧
    (∀ W, Kp W0 W → B14 W w.heap.size v ∧ W.cell? ⟨w.heap.size + 1, 0, none⟩ = some (.int .i64 h.t) ∧ W.cell? ⟨w.heap.size + 1, 1, none⟩ = some (.int .i64 h.s) ∧ W.cell? ⟨w.heap.size + 1, 2, none⟩ = some (.int .i64 h.l) ∧ W.cell? ⟨w.heap.size + 2, 0, none⟩ = some (.int .i64 a) ∧ w.heap.size + 2 < W.heap.size) := by
  refine ⟨_, rfl, (((Kp.refl _).alloc _).alloc _).alloc _, fun W q => ?_⟩
  have h1 := heap_alloc_at (w.alloc (.cells #[.slice v.m.aL v.m.lL v.m.cL, .slice v.m.aS v.m.lS v.m.cS, .slice v.m.aD v.m.lD v.m.cD, .int .i64 v.m.idle, .int .i64 v.m.crit, .int .i64 v.m.sw, .int .i64 v.m.swe, .int .i64 v.m.sems, .int .i64 v.m.hor, .slice v.ta v.tl v.tc, .slice v.na v.nl v.nc, .slice v.ja v.jl v.jc, .slice v.ha v.hl v.hc, .int .i64 v.now] 47)) (.cells #[.int .i64 h.t, .int .i64 h.s, .int .i64 h.l] 69)
  rw [World.size_alloc] at h1
  have h2 := kp_block (kp_block h1 ((Kp.refl _).alloc (.cells #[.int .i64 a] 3))) q
  have h3 := heap_alloc_at ((w.alloc (.cells #[.slice v.m.aL v.m.lL v.m.cL, .slice v.m.aS v.m.lS v.m.cS, .slice v.m.aD v.m.lD v.m.cD, .int .i64 v.m.idle, .int .i64 v.m.crit, .int .i64 v.m.sw, .int .i64 v.m.swe, .int .i64 v.m.sems, .int .i64 v.m.hor, .slice v.ta v.tl v.tc, .slice v.na v.nl v.nc, .slice v.ja v.jl v.jc, .slice v.ha v.hl v.hc, .int .i64 v.now] 47)).alloc (.cells #[.int .i64 h.t, .int .i64 h.s, .int .i64 h.l] 69)) (.cells #[.int .i64 a] 3)
  rw [World.size_alloc, World.size_alloc] at h3
  have h4 := kp_block h3 q
  exact ⟨(b14_new w v).kp ((((Kp.refl _).alloc _).alloc _).trans q), cell_of h2 rfl, cell_of h2 rfl, cell_of h2 rfl, cell_of h4 rfl, lt_blk h4⟩

theorem tsksB_f {v : Vw} {h : Hd} {a : Int} {k : Nat} (h1 : tsksB v h a k = false) (h2 : tskB v h a k = false) : tsksB v h a (k + 1) = false := by simp [tsksB, h1, h2]
theorem tsksB_t {v : Vw} {h : Hd} {a : Int} {k : Nat} (h2 : tskB v h a k = true) : ∀ {n : Nat}, k < n → tsksB v h a n = true
  | n + 1, hn => by
    by_cases e : k = n
    · subst e; simp [tsksB, h2]
    · have := tsksB_t h2 (n := n) (by omega)
      simp [tsksB, this]
theorem cntB_t {v : Vw} {h : Hd} {a : Int} {k : Nat} (h1 : lateB v h a = true) (h2 : tskB v h a k = true) (hk : k < v.tl) : cntB v h a = true := by simp [cntB, h1, tsksB_t h2 hk]

set_option maxRecDepth 100000 in
set_option maxHeartbeats 16000000 in
theorem counts_any (v : Vw) (h : Hd) (a : Int) (w : World) (hv : VL w v) (g : VG v) (hh : h ∈ v.H) :
    Calls Try.prog 41 #[v.v, h.v, .int .i64 a] w fun e w' => e = .returned (.bool (cntB v h a)) ∧ Kp w w' := by
  have hmf : ∀ (fn : Fn) (first cap : Array Value) (w : World), (Instr.makeFunc fn first cap).run Try.prog w = .ok (.func fn first cap) w := fun _ _ _ _ => rfl
  obtain ⟨n, hn, htl⟩ : ∃ n : Nat, h.t = (n : Int) ∧ n < v.tl := by
    obtain ⟨⟨j, hj, e⟩, _⟩ := g.hd h hh
    have := (g.jb j hj).1
    exact ⟨h.t.toNat, by omega, by omega⟩
  obtain ⟨W0, HW, K0, P0⟩ := cnt_box w v h a
  have HP : Hid (∀ W, Kp W0 W → B14 W w.heap.size v ∧ W.cell? ⟨w.heap.size + 1, 0, none⟩ = some (.int .i64 h.t) ∧ W.cell? ⟨w.heap.size + 1, 1, none⟩ = some (.int .i64 h.s) ∧ W.cell? ⟨w.heap.size + 1, 2, none⟩ = some (.int .i64 h.l) ∧ W.cell? ⟨w.heap.size + 2, 0, none⟩ = some (.int .i64 a) ∧ w.heap.size + 2 < W.heap.size) := P0
  have HK : Hid (Kp w W0) := K0
  have HV0 : Hid (VL w v) := hv
  have HLt : Hid (Calls Try.prog 52 #[.slice v.ja v.jl v.jc, .func (.func 51) #[] #[.pointer (some ⟨w.heap.size + 1, 0, none⟩), .pointer (some ⟨w.heap.size + 2, 0, none⟩)]] W0
      fun e w' => e = .returned (.bool (lateB v h a)) ∧ Kp W0 w') := containsJ_any _ _ _ _ _ _ _ _ W0 (hv.j.kept K0) (enters_of Try.func51 (by kernel_rfl) rfl)
        (late_lit h.t a (w.heap.size + 1) (w.heap.size + 2) W0 (by have := (P0 _ (Kp.refl _)).2.2.2.2.2; omega) (P0 _ (Kp.refl _)).2.2.2.2.2 (P0 _ (Kp.refl _)).2.1 (P0 _ (Kp.refl _)).2.2.2.2.1)
  have HCe : Hid (∀ W, Kp w W → Calls Try.prog 53 #[.slice v.ta v.tl v.tc, .int .i64 h.s] W fun e w' => e = .returned (.int .i64 (ceI v h)) ∧ Kp W w') := fun W q => ceiling_any v.ta v.tl v.tc v.T h.s W (hv.t.kept q)
  have HPe : Hid (∀ W, Kp w W → Calls Try.prog 48 #[v.v, .int .i64 h.t] W fun e w' => e = .returned (.int .i64 (pk v.T h.t.toNat)) ∧ Kp W w') := fun W q => by
    have e : h.t.toNat = n := by omega
    rw [e, hn]; exact period_any v n W (hv.kept q) htl
  have HAs : Hid (∀ W (k : Nat), k < v.tl → Kp w W → Calls Try.prog 54 #[v.v, .int .i64 k, .int .i64 a] W fun e w' => e = .returned (.bool (asksB v k a)) ∧ Kp W w') := fun W k hk q => asks_any v k a W (hv.kept q) g hk
  obtain ⟨res, hres⟩ : ∃ res, cntB v h a = res := ⟨_, rfl⟩
  rw [hres]
  have HR : Hid (cntB v h a = res) := hres
  have htn := g.n
  clear hres hv K0 P0 g hh hn htl
  obtain ⟨q0, y0, y1, y2, y3, y4⟩ := HP.out _ (Kp.refl _)
  obtain ⟨p0, p1, p2, p3, p4, p5, p6, p7, p8, p9, p10, p11, p12, p13⟩ := q0.all
  clear q0
  unfold Vw.v Hd.v at *
  cases hl : lateB v h a with
  | false =>
    rw [hl] at HLt
    have HN : Hid (false = res) := by have := HR.out; simp only [cntB, hl, Bool.false_and] at this; exact this
    clear HR hl
    go_enter Try.func41, Try.ntmps41
    go_wp2_with fail
    rw [← HW.out]
    clear HW
    refine HLt.out.mono ?_
    rintro e w1 ⟨rfl, k1⟩
    go_wp2
    go_ret
    exact ⟨congrArg (fun b => Ending.returned (Value.bool b)) HN.out, HK.out.trans k1⟩
  | true =>
    rw [hl] at HLt
    have HLa : Hid (lateB v h a = true) := hl
    generalize hbe : pk v.T h.t.toNat = be at *
    have HBe : Hid (pk v.T h.t.toNat = be) := hbe
    generalize hce : ceI v h = ce at *
    have HCE : Hid (ceI v h = ce) := hce
    clear hbe hce hl
    go_enter Try.func41, Try.ntmps41
    go_wp2_with fail
    rw [← HW.out]
    clear HW
    refine HLt.out.mono ?_
    rintro e w1 ⟨rfl, k1⟩
    have HK1 : Hid (Kp W0 w1) := k1
    clear p0 p1 p2 p3 p4 p5 p6 p7 p8 p9 p10 p11 p12 p13 y0 y1 y2 y3 y4 k1 HLt
    obtain ⟨q0, y0, y1, y2, y3, y4⟩ := HP.out _ HK1.out
    obtain ⟨p0, p1, p2, p3, p4, p5, p6, p7, p8, p9, p10, p11, p12, p13⟩ := q0.all
    clear q0
    go_wp2_with fail
    go_region_held3 (fun w' => w'.cell? ⟨w.heap.size, 0, none⟩ = some (.slice v.m.aL v.m.lL v.m.cL) ∧ w'.cell? ⟨w.heap.size, 1, none⟩ = some (.slice v.m.aS v.m.lS v.m.cS) ∧ w'.cell? ⟨w.heap.size, 2, none⟩ = some (.slice v.m.aD v.m.lD v.m.cD) ∧ w'.cell? ⟨w.heap.size, 3, none⟩ = some (.int .i64 v.m.idle) ∧ w'.cell? ⟨w.heap.size, 4, none⟩ = some (.int .i64 v.m.crit) ∧ w'.cell? ⟨w.heap.size, 5, none⟩ = some (.int .i64 v.m.sw) ∧ w'.cell? ⟨w.heap.size, 6, none⟩ = some (.int .i64 v.m.swe) ∧ w'.cell? ⟨w.heap.size, 7, none⟩ = some (.int .i64 v.m.sems) ∧ w'.cell? ⟨w.heap.size, 8, none⟩ = some (.int .i64 v.m.hor) ∧ w'.cell? ⟨w.heap.size, 9, none⟩ = some (.slice v.ta v.tl v.tc) ∧ w'.cell? ⟨w.heap.size, 10, none⟩ = some (.slice v.na v.nl v.nc) ∧ w'.cell? ⟨w.heap.size, 11, none⟩ = some (.slice v.ja v.jl v.jc) ∧ w'.cell? ⟨w.heap.size, 12, none⟩ = some (.slice v.ha v.hl v.hc) ∧ w'.cell? ⟨w.heap.size, 13, none⟩ = some (.int .i64 v.now) ∧ w'.cell? ⟨w.heap.size + 1, 0, none⟩ = some (.int .i64 h.t) ∧ w'.cell? ⟨w.heap.size + 1, 1, none⟩ = some (.int .i64 h.s) ∧ w'.cell? ⟨w.heap.size + 1, 2, none⟩ = some (.int .i64 h.l)) (go_keep) (first
      | (go_at_call 53; refine (HCe.out _ ?_).mono ?_; first | exact HK.out.trans HK1.out | exact (HK.out.trans HK1.out).trans (TB.kp_drew _); rintro e w3 ⟨rfl, k3⟩; have K3 : Kp W0 w3 := (by first | exact (HK1.out.trans (TB.kp_drew _)).trans k3 | exact HK1.out.trans k3); clear k3; obtain ⟨q1, x0, x1, x2, x3, x4⟩ := HP.out _ K3; obtain ⟨z0, z1, z2, z3, z4, z5, z6, z7, z8, z9, z10, z11, z12, z13⟩ := q1.all; clear q1)
      | (go_at_call 48; refine (HPe.out _ (HK.out.trans K3)).mono ?_; rintro e w4 ⟨rfl, k4⟩; have K4 := K3.trans k4; clear k4; obtain ⟨q1, x0, x1, x2, x3, x4⟩ := HP.out _ K4; obtain ⟨z0, z1, z2, z3, z4, z5, z6, z7, z8, z9, z10, z11, z12, z13⟩ := q1.all; clear q1)
      | fail)
    have HK4 : Hid (Kp W0 w4) := K4
    clear p0 p1 p2 p3 p4 p5 p6 p7 p8 p9 p10 p11 p12 p13 y0 y1 y2 y3 y4 K3 K4 z0 z1 z2 z3 z4 z5 z6 z7 z8 z9 z10 z11 z12 z13 x0 x1 x2 x3 x4
    obtain ⟨q0, y0, y1, y2, y3, y4⟩ := HP.out _ HK4.out
    obtain ⟨p0, p1, p2, p3, p4, p5, p6, p7, p8, p9, p10, p11, p12, p13⟩ := q0.all
    clear q0
    go_wp2_with fail
    clear p0 p1 p2 p3 p4 p5 p6 p7 p8 p9 p10 p11 p12 p13 y0 y1 y2 y3 y4
    go_loopw [30] (fun i wr => ∃ k : Nat, k ≤ v.tl ∧ i = .int .i64 k ∧ Hid (tsksB v h a k = false) ∧ Kp w4 wr) (fun i _ => v.tl - (intOf i).toNat)
    case atStart => exact ⟨0, Nat.zero_le _, rfl, rfl, Kp.refl _⟩
    case round =>
      obtain ⟨k, hk, rfl, HL, hkp⟩ := hrel
      have HK5 : Hid (Kp W0 wr) := HK4.out.trans hkp
      by_cases hlt : k < v.tl
      · have hlt' : (k : Int) < (v.tl : Int) := by omega
        obtain ⟨b, off, t, e, hb, hg, ht, c0, c1, c2, c3⟩ := (HV0.out.t.kept (HK.out.trans HK5.out)).one hlt
        obtain ⟨V, HV⟩ : ∃ V, Hid (V = wr.alloc (.cells #[.int .i64 t.p, .int .i64 t.c, .slice t.sa t.sl t.sc, .slice t.da t.dl t.dc] 38)) := ⟨_, rfl⟩
        have KV : Kp wr V := by rw [HV.out]; exact (Kp.refl _).alloc _
        have HKV : Hid (Kp W0 V) := HK5.out.trans KV
        have HTB : Hid (tskB v h a k = (decide (ce ≤ t.p) && decide (t.p < be) && asksB v k a)) := by
          show _ = _
          unfold tskB
          rw [HCE.out, HBe.out, pk_at hg]
        have HKw : Hid (Kp w4 V) := hkp.trans KV
        obtain ⟨q0, y0, y1, y2, y3, y4⟩ := HP.out _ HK5.out
        obtain ⟨p0, p1, p2, p3, p4, p5, p6, p7, p8, p9, p10, p11, p12, p13⟩ := q0.all
        have hgb : w.heap.size < wr.heap.size := q0.lt
        clear q0 hg ht KV hkp
        by_cases h1 : ce ≤ t.p
        · have d1 : decide (ce ≤ t.p) = true := decide_eq_true h1
          by_cases h2 : t.p < be
          · have d2 : decide (t.p < be) = true := decide_eq_true h2
            have HA := HAs.out V k hlt (HK.out.trans HKV.out)
            cases h3 : asksB v k a with
            | true =>
              rw [h3] at HA
              have HN : Hid (true = res) := by rw [← HR.out]; exact (cntB_t HLa.out (by rw [HTB.out, d1, d2, h3]; rfl) hlt).symm
              have HA' : Hid _ := HA
              clear HA HTB HL HR h3
              rw [e]
              go_wp2_with fail
              rw [← HV.out]
              rw [e] at HA'
              refine Calls.mono HA'.out ?_
              rintro e w6 ⟨rfl, k6⟩
              go_wp2
              go_ret
              exact ⟨congrArg (fun b => Ending.returned (Value.bool b)) HN.out, HK.out.trans (HKV.out.trans k6)⟩
            | false =>
              rw [h3] at HA
              have HN : Hid (tsksB v h a (k + 1) = false) := tsksB_f HL.out (by rw [HTB.out, d1, d2, h3]; rfl)
              have HA' : Hid _ := HA
              clear HA HTB HL HR h3
              rw [e]
              go_wp2_with fail
              rw [← HV.out]
              rw [e] at HA'
              refine Calls.mono HA'.out ?_
              rintro e w6 ⟨rfl, k6⟩
              go_wp2
              go_roundw
              case rel => exact ⟨k + 1, by omega, by go_num, HN, HKw.out.trans k6⟩
              case measure => simp [intOf]; omega
          · have d2 : decide (t.p < be) = false := decide_eq_false h2
            have HN : Hid (tsksB v h a (k + 1) = false) := tsksB_f HL.out (by rw [HTB.out, d1, d2]; rfl)
            clear HTB HL HR
            rw [e]
            go_wp2_with fail
            rw [← HV.out]
            go_roundw
            case rel => exact ⟨k + 1, by omega, by go_num, HN, HKw.out⟩
            case measure => simp [intOf]; omega
        · have d1 : decide (ce ≤ t.p) = false := decide_eq_false h1
          have HN : Hid (tsksB v h a (k + 1) = false) := tsksB_f HL.out (by rw [HTB.out, d1]; rfl)
          clear HTB HL HR
          rw [e]
          go_wp2_with fail
          rw [← HV.out]
          go_roundw
          case rel => exact ⟨k + 1, by omega, by go_num, HN, HKw.out⟩
          case measure => simp [intOf]; omega
      · have hlt' : ¬ (k : Int) < (v.tl : Int) := by omega
        obtain rfl : k = v.tl := by omega
        have HN : Hid (false = res) := by
          have := HR.out
          simp only [cntB, HLa.out, HL.out, Bool.and_false] at this
          exact this
        clear HR HL
        go_wp2
        go_ret
        exact ⟨congrArg (fun b => Ending.returned (Value.bool b)) HN.out, HK.out.trans HK5.out⟩

set_option maxRecDepth 100000 in
set_option maxHeartbeats 16000000 in
theorem hinders_any (v : Vw) (a : Int) (w : World) (hv : VL w v) (g : VG v) :
    Calls Try.prog 28 #[v.v, .int .i64 a] w fun e w' => e = .returned (.int .i64 (hnI v a)) ∧ Kp w w' := by
  obtain ⟨W0, HW, K0, P0⟩ := view_box w v
  have HP : Hid (∀ W, Kp W0 W → B14 W w.heap.size v) := fun W k => P0.kp k
  have HK : Hid (Kp w W0) := K0
  have HV0 : Hid (VL w v) := hv
  have hy := hv.hy
  have HB : Hid (∀ k, k ≤ v.hl → 0 ≤ lng v a k ∧ lng v a k ≤ 4096) := fun k hk => lng_bd g hv.h.ln hk
  have HCo : Hid (∀ W k, k < v.hl → Kp w W → Calls Try.prog 41 #[v.v, (atH v.H k).v, .int .i64 a] W fun e w' => e = .returned (.bool (cntB v (atH v.H k) a)) ∧ Kp W w') := fun W k hk q => counts_any v _ a W (hv.kept q) g (LK.atH_mem (by have := hv.h.ln; omega))
  have HS : Hid (∀ W, Kp w W → Calls Try.prog 42 #[v.m.v] W fun e w' => e = .returned (.int .i64 (slw v.m)) ∧ Kp W w') := fun W q => slow_any v.m W (hv.m.kept q) g.b
  have sb := slw_bd g.b
  obtain ⟨res, hres⟩ : ∃ res, hnI v a = res := ⟨_, rfl⟩
  rw [hres]
  have HR : Hid (lng v a v.hl * slw v.m = res) := hres
  generalize slw v.m = sl at *
  obtain ⟨p0, p1, p2, p3, p4, p5, p6, p7, p8, p9, p10, p11, p12, p13⟩ := P0.all
  unfold Vw.v Hd.v Mc.v at *
  clear hres K0 P0 hv g
  go_enter Try.func28, Try.ntmps28
  go_wp2
  rw [← HW.out]
  clear HW p0 p1 p2 p3 p4 p5 p6 p7 p8 p9 p10 p11 p12 p13
  go_loopw [5, 11] (fun l i wr => ∃ (k : Nat) (lv : Int), k ≤ v.hl ∧ i = .int .i64 k ∧ l = .int .i64 lv ∧ Hid (lng v a k = lv) ∧ Kp W0 wr) (fun _ i _ => v.hl - (intOf i).toNat)
  case atStart => exact ⟨0, _, Nat.zero_le _, rfl, rfl, rfl, Kp.refl _⟩
  case round =>
    obtain ⟨k, lv, hk, rfl, rfl, HL, hkp⟩ := hrel
    obtain ⟨p0, p1, p2, p3, p4, p5, p6, p7, p8, p9, p10, p11, p12, p13⟩ := (HP.out _ hkp).all
    have hgb : w.heap.size < wr.heap.size := (HP.out _ hkp).lt
    by_cases hlt : k < v.hl
    · have hlt' : (k : Int) < (v.hl : Int) := by omega
      obtain ⟨b, off, e, hb, c0, c1, c2, _⟩ := (HV0.out.h.kp (LK.kp_of_tb (HK.out.trans hkp))).one hlt
      have HC := fun W q => HCo.out W k hlt q
      have HT : Hid (lng v a k < (atH v.H k).l → cntB v (atH v.H k) a = true → lng v a (k + 1) = (atH v.H k).l) := fun q1 q2 => lng_turn q1 q2
      have HU : Hid (¬ lng v a k < (atH v.H k).l → lng v a (k + 1) = lng v a k) := fun q => lng_stay q
      have HX : Hid (cntB v (atH v.H k) a = false → lng v a (k + 1) = lng v a k) := fun q => lng_not q
      generalize cntB v (atH v.H k) a = cn at *
      generalize atH v.H k = x at *
      have HCk : Hid _ := HC
      clear HC
      obtain ⟨V, HV⟩ : ∃ V, Hid (V = wr.alloc (.cells #[.int .i64 x.t, .int .i64 x.s, .int .i64 x.l] 69)) := ⟨_, rfl⟩
      have KV : Kp wr V := by rw [HV.out]; exact (Kp.refl _).alloc _
      have HKV : Hid (Kp W0 V) := hkp.trans KV
      clear KV hkp
      by_cases h1 : lv < x.l
      · have HA := HCk.out V (HK.out.trans HKV.out)
        cases cn with
        | true =>
          have HN : Hid (lng v a (k + 1) = x.l) := HT.out (by rw [HL.out]; exact h1) rfl
          have HA' : Hid _ := HA
          clear HA HT HU HX HL HR HCk
          rw [e]
          go_wp2_with fail
          rw [← HV.out]
          rw [e] at HA'
          refine Calls.mono HA'.out ?_
          rintro e w6 ⟨rfl, k6⟩
          have b3 : V.heap.size ≤ w6.heap.size := k6.size
          have d0 : w6.cell? ⟨wr.heap.size, 0, none⟩ = some (.int .i64 x.t) := (k6.cell (by show wr.heap.size < _; rw [HV.out, World.size_alloc]; omega)).trans (by rw [HV.out]; exact cell_of (heap_alloc_at _ _) rfl)
          have d2 : w6.cell? ⟨wr.heap.size, 2, none⟩ = some (.int .i64 x.l) := (k6.cell (by show wr.heap.size < _; rw [HV.out, World.size_alloc]; omega)).trans (by rw [HV.out]; exact cell_of (heap_alloc_at _ _) rfl)
          go_wp2
          go_roundw
          case rel => exact ⟨k + 1, x.l, by omega, by go_num, rfl, HN, HKV.out.trans k6⟩
          case measure => simp [intOf]; omega
        | false =>
          have HN : Hid (lng v a (k + 1) = lv) := (HX.out rfl).trans HL.out
          have HA' : Hid _ := HA
          clear HA HT HU HX HL HR HCk
          rw [e]
          go_wp2_with fail
          rw [← HV.out]
          rw [e] at HA'
          refine Calls.mono HA'.out ?_
          rintro e w6 ⟨rfl, k6⟩
          go_wp2
          go_roundw
          case rel => exact ⟨k + 1, lv, by omega, by go_num, rfl, HN, HKV.out.trans k6⟩
          case measure => simp [intOf]; omega
      · have HN : Hid (lng v a (k + 1) = lv) := (HU.out (by rw [HL.out]; exact h1)).trans HL.out
        clear HT HU HX HL HR HCk
        rw [e]
        go_wp2_with fail
        rw [← HV.out]
        go_roundw
        case rel => exact ⟨k + 1, lv, by omega, by go_num, rfl, HN, HKV.out⟩
        case measure => simp [intOf]; omega
    · have hlt' : ¬ (k : Int) < (v.hl : Int) := by omega
      obtain rfl : k = v.hl := by omega
      have HN : Hid (lv * sl = res) := by have := HR.out; rw [HL.out] at this; exact this
      have hb := HB.out v.hl (Nat.le_refl _)
      rw [HL.out] at hb
      have mb := mul_bound (a := lv) (b := sl) (A := 4096) (B := 256) hb.1 hb.2 (by omega) sb.2
      have s1 : IntKind.i64.wrap (lv * sl) = lv * sl := wrapI (by omega)
      have s2 : wrap64 (lv * sl) = lv * sl := IntWalk.wrap64_in _ (by omega)
      have HA := HS.out wr (HK.out.trans hkp)
      clear HR HL hb mb
      go_wp2_with fail
      refine HA.mono ?_
      rintro e w6 ⟨rfl, k6⟩
      go_wp2
      go_ret
      exact ⟨congrArg (fun x => Ending.returned (Value.int .i64 x)) (by first | exact HN.out | exact s2.trans HN.out), HK.out.trans (hkp.trans k6)⟩

end Go.Proofs.Ytnpbdcnogeohdaa.SK
