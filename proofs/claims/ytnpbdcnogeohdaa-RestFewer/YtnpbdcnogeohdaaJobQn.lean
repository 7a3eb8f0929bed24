/- What a job may take yet: the program's and the document's own, walked. -/
import Derived.Test.YtnpbdcnogeohdaaJobAns
import Derived.Test.YtnpbdcnogeohdaaAdmFun
namespace Go.Proofs.Ytnpbdcnogeohdaa.JB
open Go.ChangeShapes Go.WideShapes Go.ChangeAt Go.RowKit Go.Proofs.Ytnpbdcnogeohdaa.AR Go.Proofs.Ytnpbdcnogeohdaa.TB Go.Proofs.Ytnpbdcnogeohdaa.TK Go.Proofs.Ytnpbdcnogeohdaa.FX Go.Proofs.Ytnpbdcnogeohdaa.AD

/-- what it may take yet -/
def jqI (m : Mc) (j : Jb) : Int := mx 0 j.l * fd m.rL 0 0 + swI j * m.sw

theorem mx_zero (a : Int) : mx a 0 = mx 0 a := by
  by_cases h : a < 0
  · rw [mx_lt h, mx_ge (by omega)]
  · by_cases h2 : 0 < a
    · rw [mx_ge (by omega), mx_lt h2]
    · obtain rfl : a = 0 := by omega
      rfl

theorem lf_bd {a : Int} (h : a ≤ 1073741824) : 0 ≤ mx 0 a ∧ mx 0 a ≤ 1073741824 := by
  by_cases h2 : 0 < a
  · rw [mx_lt h2]; omega
  · rw [mx_ge h2]; omega

/-- a machine's box and a job's -/
theorem mach_job (w : World) (m : Mc) (j : Jb) : ∃ W0, Hid (W0 = (w.alloc (.cells #[.slice m.aL m.lL m.cL, .slice m.aS m.lS m.cS, .slice m.aD m.lD m.cD, .int .i64 m.idle, .int .i64 m.crit, .int .i64 m.sw, .int .i64 m.swe, .int .i64 m.sems, .int .i64 m.hor] 26)).alloc (.cells #[.int .i64 j.t, .int .i64 j.r, .int .i64 j.d, .int .i64 j.l, .int .i64 j.x, .bool j.s] 52)) ∧ Kp w W0 ∧ B9 W0 w.heap.size m ∧ BJ W0 (w.heap.size + 1) j := by
  refine ⟨_, rfl, ((Kp.refl _).alloc _).alloc _, (b9_new w m).kp ((Kp.refl _).alloc _), ?_⟩
  have := bj_new (w.alloc (.cells #[.slice m.aL m.lL m.cL, .slice m.aS m.lS m.cS, .slice m.aD m.lD m.cD, .int .i64 m.idle, .int .i64 m.crit, .int .i64 m.sw, .int .i64 m.swe, .int .i64 m.sems, .int .i64 m.hor] 26)) j
  rw [World.size_alloc] at this
  exact this

set_option maxHeartbeats 8000000 in
theorem jquanta_any (m : Mc) (j : Jb) (w : World) (h : m.At w) (hb : Bd m) (hl : j.l ≤ 1073741824) :
    Calls Try.prog 29 #[m.v, j.v] w fun e w' => e = .returned (.int .i64 (jqI m j)) ∧ Kp w w' := by
  obtain ⟨W0, HW, K0, P0, J0⟩ := mach_job w m j
  have h1 : 0 < m.lL := by have := hb.cr; omega
  obtain ⟨b, off, e, hlt, hz'⟩ := lev_at h h1 K0
  have hz : W0.cell? ⟨b, off, none⟩ = some (.int .i64 (fd m.rL 0 0)) := by simpa using hz'
  have l := hb.lev 0 h1
  have s := hb.sw
  have q := lf_bd hl
  have mb := mul_bound (a := mx 0 j.l) (b := fd m.rL 0 0) (A := 1073741824) (B := 256) q.1 q.2 (by omega) l.2
  have HQ : Hid (jqI m j = mx 0 j.l * fd m.rL 0 0 + swI j * m.sw) := rfl
  have HS : Hid (∀ W, Calls Try.prog 43 #[.agg #[.int .i64 j.t, .int .i64 j.r, .int .i64 j.d, .int .i64 j.l, .int .i64 j.x, .bool j.s]] W fun e w' => e = .returned (.int .i64 (swI j)) ∧ Kp W w') := fun W => switches_any j W
  have sb : 1 ≤ swI j ∧ swI j ≤ 2 := by unfold swI; split <;> omega
  have sm := mul_bound (a := swI j) (b := m.sw) (A := 2) (B := 256) (by omega) sb.2 s.1 s.2
  have MX : ∀ ts t w, (Builtin.max_ ts t #[.int .i64 0, .int .i64 j.l]).run Try.prog w = .ok (.int .i64 (mx 0 j.l)) w := fun ts t w => run_max2 ts t 0 j.l w
  have HP : Hid (∀ W, Kp W0 W → B9 W w.heap.size m) := fun W k => P0.kp k
  have HJ : Hid (∀ W, Kp W0 W → BJ W (w.heap.size + 1) j) := fun W k => J0.kp k
  have HZ : Hid (∀ W, Kp W0 W → W.cell? ⟨b, off, none⟩ = some (.int .i64 (fd m.rL 0 0))) := fun W k => (k.cell (by exact hlt)).trans hz
  have HK : Hid (Kp w W0) := K0
  obtain ⟨p0, p1, p2, p3, p4, p5, p6, p7, p8⟩ := P0.all
  obtain ⟨x0, x1, x2, x3, x4, x5⟩ := J0.all
  clear K0 P0 J0 h hb hl
  generalize jqI m j = res at *
  generalize swI j = sw at *
  generalize mx 0 j.l = lf at *
  generalize fd m.rL 0 0 = pz at *
  have t1 : IntKind.i64.wrap (lf * pz) = lf * pz := wrapI (by omega)
  have t2 : IntKind.i64.wrap (sw * m.sw) = sw * m.sw := wrapI (by omega)
  have t3 : IntKind.i64.wrap (lf * pz + sw * m.sw) = lf * pz + sw * m.sw := wrapI (by omega)
  have HE : Hid (m.aL = some ⟨b, off, none⟩) := e
  have hn0 : ¬ ((m.lL : Nat) : Int) = 0 := by omega
  have hn1 : (0 : Int) < ((m.lL : Nat) : Int) := by omega
  clear e mb sm sb q s l hz'
  unfold Mc.v Jb.v
  go_enter Try.func29, Try.ntmps29
  go_wp2_with fail
  rw [← HW.out]
  clear HW
  rw [HE.out] at p0
  go_region_held3 (fun w' => w'.cell? ⟨b, off, none⟩ = some (.int .i64 pz) ∧ w'.cell? ⟨w.heap.size + 1, 0, none⟩ = some (.int .i64 j.t) ∧ w'.cell? ⟨w.heap.size + 1, 1, none⟩ = some (.int .i64 j.r) ∧ w'.cell? ⟨w.heap.size + 1, 2, none⟩ = some (.int .i64 j.d) ∧ w'.cell? ⟨w.heap.size + 1, 3, none⟩ = some (.int .i64 j.l) ∧ w'.cell? ⟨w.heap.size + 1, 4, none⟩ = some (.int .i64 j.x) ∧ w'.cell? ⟨w.heap.size + 1, 5, none⟩ = some (.bool j.s) ∧ w'.cell? ⟨w.heap.size, 0, none⟩ = some (.slice (some ⟨b, off, none⟩) m.lL m.cL) ∧ w'.cell? ⟨w.heap.size, 5, none⟩ = some (.int .i64 m.sw)) (go_keep) (first
    | (go_at_call 43; refine (HS.out _).mono ?_; rintro e w3 ⟨rfl, k3⟩; have K3 : Kp W0 w3 := (by first | exact (kp_drew _).trans k3 | exact k3); clear k3; obtain ⟨z0, z1, z2, z3, z4, z5, z6, z7, z8⟩ := (HP.out _ K3).all; rw [HE.out] at z0; obtain ⟨y0, y1, y2, y3, y4, y5⟩ := (HJ.out _ K3).all; have y6 := HZ.out _ K3)
    | fail)
  all_goals
    clear z0 z1 z2 z3 z4 z5 z6 z7 z8 y0 y1 y2 y3 y4 y5 y6
    go_wp2
    go_ret
    exact ⟨congrArg (fun x => Ending.returned (Value.int .i64 x)) HQ.out.symm, HK.out.trans K3⟩

set_option maxHeartbeats 8000000 in
theorem rjquanta_any (m : Mc) (j : Jb) (w : World) (h : m.At w) (hb : Bd m) (hl : j.l ≤ 1073741824) :
    Calls Try.prog 38 #[m.v, j.v] w fun e w' => e = .returned (.int .i64 (jqI m j)) ∧ Kp w w' := by
  obtain ⟨W0, HW, K0, P0, J0⟩ := mach_job w m j
  have h1 : 0 < m.lL := by have := hb.cr; omega
  obtain ⟨b, off, e, hlt, hz'⟩ := lev_at h h1 K0
  have hz : W0.cell? ⟨b, off, none⟩ = some (.int .i64 (fd m.rL 0 0)) := by simpa using hz'
  have l := hb.lev 0 h1
  have s := hb.sw
  have q := lf_bd hl
  have mb := mul_bound (a := mx 0 j.l) (b := fd m.rL 0 0) (A := 1073741824) (B := 256) q.1 q.2 (by omega) l.2
  have HQ : Hid (jqI m j = mx 0 j.l * fd m.rL 0 0 + swI j * m.sw) := rfl
  have HS : Hid (∀ W, Calls Try.prog 10 #[.int .i64 j.l, .int .i64 0] W fun e w' => e = .returned (.int .i64 (mx 0 j.l)) ∧ W = w') := fun W => by rw [← mx_zero]; exact rmax_at j.l 0 W
  have HP : Hid (∀ W, Kp W0 W → B9 W w.heap.size m) := fun W k => P0.kp k
  have HJ : Hid (∀ W, Kp W0 W → BJ W (w.heap.size + 1) j) := fun W k => J0.kp k
  have HZ : Hid (∀ W, Kp W0 W → W.cell? ⟨b, off, none⟩ = some (.int .i64 (fd m.rL 0 0))) := fun W k => (k.cell (by exact hlt)).trans hz
  have HK : Hid (Kp w W0) := K0
  have HY : Hid (j.s = true → swI j = 1) := fun q => by unfold swI; rw [if_pos q]
  have HN : Hid (j.s = false → swI j = 2) := fun q => by unfold swI; rw [if_neg (by rw [q]; simp)]
  obtain ⟨p0, p1, p2, p3, p4, p5, p6, p7, p8⟩ := P0.all
  obtain ⟨x0, x1, x2, x3, x4, x5⟩ := J0.all
  clear K0 P0 J0 h hb hl
  generalize jqI m j = res at *
  generalize swI j = sw at *
  generalize mx 0 j.l = lf at *
  generalize fd m.rL 0 0 = pz at *
  have t1 : IntKind.i64.wrap (lf * pz) = lf * pz := wrapI (by omega)
  have t2 : IntKind.i64.wrap (lf * pz + m.sw) = lf * pz + m.sw := wrapI (by omega)
  have t3 : wrap64 (lf * pz + m.sw + m.sw) = lf * pz + m.sw + m.sw := IntWalk.wrap64_in _ (by omega)
  have HE : Hid (m.aL = some ⟨b, off, none⟩) := e
  have hn1 : (0 : Int) < ((m.lL : Nat) : Int) := by omega
  clear e mb q s l hz'
  unfold Mc.v Jb.v
  cases hs : j.s with
  | false =>
    have HR : Hid (lf * pz + m.sw + m.sw = res) := by
      show _ = _
      rw [HQ.out, HN.out hs]
      omega
    rw [hs] at HW x5
    clear HQ HY HN
    go_enter Try.func38, Try.ntmps38
    go_wp2_with fail
    rw [← HW.out]
    clear HW
    rw [HE.out] at p0
    go_region_held3 (fun w' => w'.cell? ⟨b, off, none⟩ = some (.int .i64 pz) ∧ w'.cell? ⟨w.heap.size + 1, 0, none⟩ = some (.int .i64 j.t) ∧ w'.cell? ⟨w.heap.size + 1, 1, none⟩ = some (.int .i64 j.r) ∧ w'.cell? ⟨w.heap.size + 1, 2, none⟩ = some (.int .i64 j.d) ∧ w'.cell? ⟨w.heap.size + 1, 3, none⟩ = some (.int .i64 j.l) ∧ w'.cell? ⟨w.heap.size + 1, 4, none⟩ = some (.int .i64 j.x) ∧ w'.cell? ⟨w.heap.size + 1, 5, none⟩ = some (.bool false) ∧ w'.cell? ⟨w.heap.size, 0, none⟩ = some (.slice (some ⟨b, off, none⟩) m.lL m.cL) ∧ w'.cell? ⟨w.heap.size, 5, none⟩ = some (.int .i64 m.sw)) (go_keep) (first
      | (go_at_call 10; refine (HS.out _).mono ?_; rintro e w3 ⟨rfl, rfl⟩)
      | fail)
    all_goals
      go_wp2
      go_ret
      exact ⟨congrArg (fun x => Ending.returned (Value.int .i64 x)) (by first | exact HR.out | exact t3.trans HR.out), by first | exact HK.out | exact HK.out.trans (kp_drew _)⟩
  | true =>
    have HR : Hid (lf * pz + m.sw = res) := by
      show _ = _
      rw [HQ.out, HY.out hs]
      omega
    rw [hs] at HW x5
    clear HQ HY HN
    go_enter Try.func38, Try.ntmps38
    go_wp2_with fail
    rw [← HW.out]
    clear HW
    rw [HE.out] at p0
    go_region_held3 (fun w' => w'.cell? ⟨b, off, none⟩ = some (.int .i64 pz) ∧ w'.cell? ⟨w.heap.size + 1, 0, none⟩ = some (.int .i64 j.t) ∧ w'.cell? ⟨w.heap.size + 1, 1, none⟩ = some (.int .i64 j.r) ∧ w'.cell? ⟨w.heap.size + 1, 2, none⟩ = some (.int .i64 j.d) ∧ w'.cell? ⟨w.heap.size + 1, 3, none⟩ = some (.int .i64 j.l) ∧ w'.cell? ⟨w.heap.size + 1, 4, none⟩ = some (.int .i64 j.x) ∧ w'.cell? ⟨w.heap.size + 1, 5, none⟩ = some (.bool true) ∧ w'.cell? ⟨w.heap.size, 0, none⟩ = some (.slice (some ⟨b, off, none⟩) m.lL m.cL) ∧ w'.cell? ⟨w.heap.size, 5, none⟩ = some (.int .i64 m.sw)) (go_keep) (first
      | (go_at_call 10; refine (HS.out _).mono ?_; rintro e w3 ⟨rfl, rfl⟩)
      | fail)
    all_goals
      go_wp2
      go_ret
      exact ⟨congrArg (fun x => Ending.returned (Value.int .i64 x)) HR.out, by first | exact HK.out | exact HK.out.trans (kp_drew _)⟩

end Go.Proofs.Ytnpbdcnogeohdaa.JB
