/- What a job takes at a level, and which part that is: the program's and the document's own, walked. -/
import Derived.Test.YtnpbdcnogeohdaaAdmPlain
import Derived.Test.YtnpbdcnogeohdaaFxWalks
import Derived.Test.YtnpbdcnogeohdaaTskUse
namespace Go.Proofs.Ytnpbdcnogeohdaa.AD
open Go.ChangeShapes Go.WideShapes Go.ChangeAt Go.RowKit Go.Proofs.Ytnpbdcnogeohdaa.AR Go.Proofs.Ytnpbdcnogeohdaa.TB Go.Proofs.Ytnpbdcnogeohdaa.TK Go.Proofs.Ytnpbdcnogeohdaa.FX

/-- a machine's box -/
theorem one_box (w : World) (m : Mc) : ∃ W0, Hid (W0 = w.alloc (.cells #[.slice m.aL m.lL m.cL, .slice m.aS m.lS m.cS, .slice m.aD m.lD m.cD, .int .i64 m.idle, .int .i64 m.crit, .int .i64 m.sw, .int .i64 m.swe, .int .i64 m.sems, .int .i64 m.hor] 26)) ∧ Kp w W0 ∧ B9 W0 w.heap.size m :=
  ⟨_, rfl, (Kp.refl _).alloc _, b9_new w m⟩

theorem Mc.At.lev {w : World} {m : Mc} (h : m.At w) : RecAt w 2 m.aL m.lL m.rL := h.1

/-- the P of a level lies there -/
theorem lev_at {w wr : World} {m : Mc} (h : m.At w) {k : Nat} (hk : k < m.lL) (hb : Kp w wr) : ∃ b off, m.aL = some ⟨b, off, none⟩ ∧ b < wr.heap.size ∧ wr.cell? ⟨b, off + k * 2, none⟩ = some (.int .i64 (fd m.rL k 0)) := by
  obtain ⟨b, off, e, hlt, hc⟩ := fd_at h.lev hk hb
  exact ⟨b, off, e, hlt, by have := hc 0 (by omega); simpa using this⟩

theorem run_max2 (ts : Array TypeId) (t : TypeId) (a b : Int) (w : World) : (Builtin.max_ ts t #[.int .i64 a, .int .i64 b]).run Try.prog w = .ok (.int .i64 (mx a b)) w := by
  unfold mx
  simp [Builtin.max_, Builtin.max2]

theorem rmax_at (a b : Int) (w : World) :
    Calls Try.prog 10 #[.int .i64 a, .int .i64 b] w fun e w' => e = .returned (.int .i64 (mx a b)) ∧ w = w' := by
  by_cases h : a < b
  · rw [mx_lt h]
    go_enter Try.func10, Try.ntmps10
    go_wp2
    go_ret
    exact ⟨rfl, rfl⟩
  · rw [mx_ge h]
    by_cases h2 : b < a
    · go_enter Try.func10, Try.ntmps10
      go_wp2
      go_ret
      exact ⟨rfl, rfl⟩
    · obtain rfl : a = b := by omega
      go_enter Try.func10, Try.ntmps10
      go_wp2
      go_ret
      exact ⟨rfl, rfl⟩

/-- is there such a level? -/
def isB (m : Mc) (lev : Int) : Bool := decide (0 ≤ lev ∧ lev < m.lL)

theorem pace_any (m : Mc) (lev : Int) (w : World) (h : m.At w) :
    Calls Try.prog 65 #[m.v, .int .i64 lev] w fun e w' => e = .returned (.tuple #[.int .i64 (pcI m lev), .bool (isB m lev)]) ∧ Kp w w' := by
  obtain ⟨W0, HW, K0, P0⟩ := one_box w m
  obtain ⟨p0, p1, p2, p3, p4, p5, p6, p7, p8⟩ := P0.all
  have HP : Hid (pcI m lev = if 0 ≤ lev ∧ lev < m.lL then fd m.rL lev.toNat 0 else 0) := rfl
  have HI : Hid (isB m lev = decide (0 ≤ lev ∧ lev < m.lL)) := rfl
  generalize pcI m lev = pc at *
  generalize isB m lev = ib at *
  unfold Mc.v
  by_cases c1 : lev < 0
  · have e1 : pc = 0 := HP.out.trans (if_neg (by omega))
    have e2 : ib = false := HI.out.trans (decide_eq_false (by omega))
    subst e1; subst e2
    clear HP HI
    go_enter Try.func65, Try.ntmps65
    go_wp2
    rw [← HW.out]
    go_ret2
    exact ⟨rfl, K0⟩
  · by_cases c2 : (m.lL : Int) ≤ lev
    · have e1 : pc = 0 := HP.out.trans (if_neg (by omega))
      have e2 : ib = false := HI.out.trans (decide_eq_false (by omega))
      subst e1; subst e2
      clear HP HI
      go_enter Try.func65, Try.ntmps65
      go_wp2
      rw [← HW.out]
      go_ret2
      exact ⟨rfl, K0⟩
    · obtain ⟨k, rfl⟩ : ∃ k : Nat, lev = (k : Int) := ⟨lev.toNat, by omega⟩
      have hk : k < m.lL := by omega
      obtain ⟨b, off, e, hb, hc⟩ := lev_at h hk (Kp.refl _)
      have e1 : pc = fd m.rL k 0 := HP.out.trans (if_pos (by omega))
      have e2 : ib = true := HI.out.trans (decide_eq_true (by omega))
      subst e1; subst e2
      clear HP HI
      generalize fd m.rL k 0 = x at *
      rw [e] at *
      have hk' : (k : Int) < (m.lL : Int) := by omega
      go_enter Try.func65, Try.ntmps65
      go_wp2
      go_ret2
      exact ⟨rfl, (Kp.refl _).alloc _⟩

set_option maxHeartbeats 4000000 in
theorem quanta_any (m : Mc) (c lev : Int) (w : World) (h : m.At w) (hb : Bd m) (hc : 0 ≤ c ∧ c ≤ 4096) :
    Calls Try.prog 63 #[m.v, .int .i64 c, .int .i64 lev] w fun e w' => e = .returned (.int .i64 (qn m c lev)) ∧ Kp w w' := by
  obtain ⟨W0, HW, K0, P0⟩ := one_box w m
  have HC : Hid (Calls Try.prog 65 #[m.v, .int .i64 lev] W0 fun e w' => e = .returned (.tuple #[.int .i64 (pcI m lev), .bool (isB m lev)]) ∧ Kp W0 w') := pace_any m lev W0 (h.kept K0)
  have HP : Hid (∀ W, Kp W0 W → B9 W w.heap.size m) := fun W k => P0.kp k
  obtain ⟨p0, p1, p2, p3, p4, p5, p6, p7, p8⟩ := P0.all
  unfold Mc.v at *
  by_cases g : 0 ≤ lev ∧ lev < m.lL
  · have e1 : pcI m lev = fd m.rL lev.toNat 0 := if_pos g
    have e2 : isB m lev = true := decide_eq_true g
    rw [e1, e2] at HC
    have l := hb.lev lev.toNat (by omega)
    have q := mul_bound (a := c) (b := fd m.rL lev.toNat 0) (A := 4096) (B := 256) hc.1 hc.2 (by omega) l.2
    have s := hb.sw
    rw [qn_in g]
    clear e1 e2 g
    generalize fd m.rL lev.toNat 0 = x at *
    go_enter Try.func63, Try.ntmps63
    go_wp2_with fail
    rw [← HW.out]
    refine HC.out.mono ?_
    rintro e w1 ⟨rfl, k1⟩
    clear p0 p1 p2 p3 p4 p5 p6 p7 p8
    obtain ⟨p0, p1, p2, p3, p4, p5, p6, p7, p8⟩ := (HP.out _ k1).all
    go_wp2
    go_ret
    exact ⟨rfl, K0.trans k1⟩
  · have e2 : isB m lev = false := decide_eq_false g
    rw [e2] at HC
    rw [qn_out g]
    clear e2 g
    go_enter Try.func63, Try.ntmps63
    go_wp2_with fail
    rw [← HW.out]
    refine HC.out.mono ?_
    rintro e w1 ⟨rfl, k1⟩
    go_wp2
    go_ret
    exact ⟨rfl, K0.trans k1⟩

set_option maxHeartbeats 4000000 in
theorem tquanta_any (m : Mc) (t : Tk) (lev : Int) (w : World) (h : m.At w) (hb : Bd m) (hc : 0 ≤ t.c ∧ t.c ≤ 4096) :
    Calls Try.prog 56 #[m.v, t.v, .int .i64 lev] w fun e w' => e = .returned (.int .i64 (qn m t.c lev)) ∧ Kp w w' := by
  obtain ⟨W0, HW, K0, P0, X0⟩ := two_box w m t
  have HC : Hid (Calls Try.prog 63 #[m.v, .int .i64 t.c, .int .i64 lev] W0 fun e w' => e = .returned (.int .i64 (qn m t.c lev)) ∧ Kp W0 w') := quanta_any m t.c lev W0 (h.kept K0) hb hc
  generalize qn m t.c lev = q at *
  unfold Mc.v Tk.v at *
  clear hc
  go_enter Try.func56, Try.ntmps56
  go_wp2_with fail
  rw [← HW.out]
  refine HC.out.mono ?_
  rintro e w1 ⟨rfl, k1⟩
  go_wp2
  go_ret
  exact ⟨rfl, K0.trans k1⟩

set_option maxHeartbeats 4000000 in
theorem part_any (m : Mc) (t : Tk) (lev : Int) (w : World) (h : m.At w) (hb : Bd m) (hc : 0 ≤ t.c ∧ t.c ≤ 4096) :
    Calls Try.prog 45 #[m.v, t.v, .int .i64 lev] w fun e w' => e = .returned (.int .i64 (ut (qn m t.c lev) t.p)) ∧ Kp w w' := by
  obtain ⟨W0, HW, K0, P0, X0⟩ := two_box w m t
  have HC : Hid (∀ W, Kp W0 W → Calls Try.prog 56 #[m.v, t.v, .int .i64 lev] W fun e w' => e = .returned (.int .i64 (qn m t.c lev)) ∧ Kp W w') := fun W k => tquanta_any m t lev W (h.kept (K0.trans k)) hb hc
  have HX : Hid (∀ W, Kp W0 W → TB4 W (w.heap.size + 1) t) := fun W k => X0.kp k
  have HP : Hid (∀ W, Kp W0 W → B9 W w.heap.size m) := fun W k => P0.kp k
  obtain ⟨p0, p1, p2, p3, p4, p5, p6, p7, p8⟩ := P0.all
  obtain ⟨x0, x1, x2, x3⟩ := X0.all
  generalize qn m t.c lev = q at *
  unfold Mc.v Tk.v at *
  clear hc hb h P0 X0
  have HK : Hid (Kp w W0) := K0
  clear K0
  go_enter Try.func45, Try.ntmps45
  go_wp2_with fail
  rw [← HW.out]
  clear HW
  go_region_held3 (fun w' => w'.cell? ⟨w.heap.size, 0, none⟩ = some (.slice m.aL m.lL m.cL) ∧ w'.cell? ⟨w.heap.size, 1, none⟩ = some (.slice m.aS m.lS m.cS) ∧ w'.cell? ⟨w.heap.size, 2, none⟩ = some (.slice m.aD m.lD m.cD) ∧ w'.cell? ⟨w.heap.size, 3, none⟩ = some (.int .i64 m.idle) ∧ w'.cell? ⟨w.heap.size, 4, none⟩ = some (.int .i64 m.crit) ∧ w'.cell? ⟨w.heap.size, 5, none⟩ = some (.int .i64 m.sw) ∧ w'.cell? ⟨w.heap.size, 6, none⟩ = some (.int .i64 m.swe) ∧ w'.cell? ⟨w.heap.size, 7, none⟩ = some (.int .i64 m.sems) ∧ w'.cell? ⟨w.heap.size, 8, none⟩ = some (.int .i64 m.hor) ∧ w'.cell? ⟨w.heap.size + 1, 0, none⟩ = some (.int .i64 t.p) ∧ w'.cell? ⟨w.heap.size + 1, 1, none⟩ = some (.int .i64 t.c) ∧ w'.cell? ⟨w.heap.size + 1, 2, none⟩ = some (.slice t.sa t.sl t.sc) ∧ w'.cell? ⟨w.heap.size + 1, 3, none⟩ = some (.slice t.da t.dl t.dc)) (go_keep) (first
    | (go_at_call 56; refine (HC.out _ ?_).mono ?_; first | exact Kp.refl _ | exact tkp_drew _; rintro e w3 ⟨rfl, k3⟩; have K3 : Kp W0 w3 := (by first | exact (tkp_drew _).trans k3 | exact k3); clear k3; obtain ⟨z0, z1, z2, z3, z4, z5, z6, z7, z8⟩ := (HP.out _ K3).all; obtain ⟨y0, y1, y2, y3⟩ := (HX.out _ K3).all)
    | (go_at_call 55; refine (util_at _ _ _).mono ?_; rintro e w4 ⟨rfl, rfl⟩)
    | fail)
  all_goals
    clear z0 z1 z2 z3 z4 z5 z6 z7 z8 y0 y1 y2 y3
    go_wp2
    go_ret
    exact ⟨rfl, HK.out.trans K3⟩

set_option maxHeartbeats 4000000 in
theorem rpart_any (m : Mc) (t : Tk) (lev : Int) (w : World) (h : m.At w) (hb : Bd m) (hc : 0 ≤ t.c ∧ t.c ≤ 4096) :
    Calls Try.prog 40 #[m.v, t.v, .int .i64 lev] w fun e w' => e = .returned (.int .i64 (ut (qn m t.c lev) t.p)) ∧ Kp w w' := by
  obtain ⟨W0, HW, K0, P0, X0⟩ := two_box w m t
  obtain ⟨p0, p1, p2, p3, p4, p5, p6, p7, p8⟩ := P0.all
  obtain ⟨x0, x1, x2, x3⟩ := X0.all
  have HK : Hid (Kp w W0) := K0
  unfold Mc.v Tk.v at *
  by_cases c1 : lev < 0
  · rw [qn_out (by omega)]
    clear K0 P0 X0 h hb hc
    go_enter Try.func40, Try.ntmps40
    go_wp2_with fail
    rw [← HW.out]
    refine (rutil_at _ _ _).mono ?_
    rintro e w4 ⟨rfl, rfl⟩
    go_wp2
    go_ret
    exact ⟨rfl, HK.out⟩
  · by_cases c2 : (m.lL : Int) ≤ lev
    · rw [qn_out (by omega)]
      clear K0 P0 X0 h hb hc
      go_enter Try.func40, Try.ntmps40
      go_wp2_with fail
      rw [← HW.out]
      refine (rutil_at _ _ _).mono ?_
      rintro e w4 ⟨rfl, rfl⟩
      go_wp2
      go_ret
      exact ⟨rfl, HK.out⟩
    · obtain ⟨k, rfl⟩ : ∃ k : Nat, lev = (k : Int) := ⟨lev.toNat, by omega⟩
      have hk : k < m.lL := by omega
      have hk' : (k : Int) < (m.lL : Int) := by omega
      have hk0 : (0 : Int) ≤ (k : Int) := by omega
      have hkn : (k : Int).toNat = k := by omega
      obtain ⟨b, off, e, hlt, hz⟩ := lev_at h hk K0
      have l := hb.lev k hk
      have q := mul_bound (a := t.c) (b := fd m.rL k 0) (A := 4096) (B := 256) hc.1 hc.2 (by omega) l.2
      have s := hb.sw
      rw [qn_in (by omega), hkn]
      have s1 : IntKind.i64.wrap (t.c * fd m.rL k 0) = t.c * fd m.rL k 0 := wrapI (by omega)
      have s2 : IntKind.i64.wrap (2 * m.sw) = 2 * m.sw := wrapI (by omega)
      have s3 : IntKind.i64.wrap (t.c * fd m.rL k 0 + 2 * m.sw) = t.c * fd m.rL k 0 + 2 * m.sw := wrapI (by omega)
      have HE : Hid (m.aL = some ⟨b, off, none⟩) := e
      clear K0 P0 X0 h hb hc q s l c1 c2 e
      generalize fd m.rL k 0 = x at *
      go_enter Try.func40, Try.ntmps40
      go_wp2_with fail
      rw [← HW.out]
      rw [HE.out] at p0
      go_region_held3 (fun w' => w'.cell? ⟨b, off + k * 2, none⟩ = some (.int .i64 x) ∧ w'.cell? ⟨w.heap.size + 1, 0, none⟩ = some (.int .i64 t.p) ∧ w'.cell? ⟨w.heap.size + 1, 1, none⟩ = some (.int .i64 t.c) ∧ w'.cell? ⟨w.heap.size + 1, 2, none⟩ = some (.slice t.sa t.sl t.sc) ∧ w'.cell? ⟨w.heap.size + 1, 3, none⟩ = some (.slice t.da t.dl t.dc) ∧ w'.cell? ⟨w.heap.size, 0, none⟩ = some (.slice (some ⟨b, off, none⟩) m.lL m.cL) ∧ w'.cell? ⟨w.heap.size, 5, none⟩ = some (.int .i64 m.sw)) (go_keep) (first
        | (go_at_call 50; refine (rutil_at _ _ _).mono ?_; rintro e w4 ⟨rfl, rfl⟩)
        | fail)
      all_goals
        go_wp2
        go_ret
        exact ⟨rfl, by first | exact HK.out | exact HK.out.trans (tkp_drew _)⟩

end Go.Proofs.Ytnpbdcnogeohdaa.AD
