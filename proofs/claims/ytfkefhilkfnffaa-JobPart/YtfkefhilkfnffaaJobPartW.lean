/- What a new job may take is just what its task was admitted for. -/
import Derived.Test.YtfkefhilkfnffaaJobQuantaW
namespace Go.Proofs.Ytfkefhilkfnffaa.JB
open Go.ChangeShapes Go.WideShapes Go.ChangeAt Go.RowKit Go.Proofs.Ytfkefhilkfnffaa.AR Go.Proofs.Ytfkefhilkfnffaa.TB Go.Proofs.Ytfkefhilkfnffaa.TK Go.Proofs.Ytfkefhilkfnffaa.FX Go.Proofs.Ytfkefhilkfnffaa.AD

theorem tkB_c {m : Mc} {t : Tk} (h : tkB m t = true) : 1 ≤ t.c ∧ t.c ≤ 4096 := by
  have h1 : tmB m t = true := by
    cases q : tmB m t with
    | true => rfl
    | false => simp [tkB, q] at h
  exact (tmB_t.1 h1).2

/-- the three sums -/
theorem part_sums {m : Mc} (hb : Bd m) {t : Tk} (hc : 1 ≤ t.c ∧ t.c ≤ 4096) (n r d x : Int) :
    jqI m ⟨n, r, d, t.c, x, false⟩ = qn m t.c 0 ∧ wrap64 (jqI m ⟨n, r, d, t.c, x, false⟩ - jqI m ⟨n, r, d, t.c, x, true⟩) = m.sw ∧ wrap64 (jqI m ⟨n, r, d, t.c, x, true⟩ - jqI m ⟨n, r, d, t.c - 1, x - 1, true⟩) = fd m.rL 0 0 := by
  have h0 := hb.cr
  have l := hb.lev 0 (by omega)
  have s := hb.sw
  have e1 : mx 0 t.c = t.c := mx_lt (by omega)
  have e2 : mx 0 (t.c - 1) = t.c - 1 := by
    by_cases q : 0 < t.c - 1
    · exact mx_lt q
    · rw [mx_ge q]; omega
  have q := mul_bound (a := t.c) (b := fd m.rL 0 0) (A := 4096) (B := 256) (by omega) hc.2 (by omega) l.2
  have e3 : (t.c - 1) * fd m.rL 0 0 = t.c * fd m.rL 0 0 - fd m.rL 0 0 := by rw [Int.sub_mul, Int.one_mul]
  rw [qn_in (by omega)]
  simp only [jqI, swI, e1, e2, e3, if_true]
  have z : (0 : Int).toNat = 0 := rfl
  rw [z]
  generalize t.c * fd m.rL 0 0 = u at *
  generalize fd m.rL 0 0 = v at *
  refine ⟨by simp, ?_, ?_⟩
  · rw [IntWalk.wrap64_in _ (by simp; omega)]; simp; omega
  · rw [IntWalk.wrap64_in _ (by omega)]; omega

set_option maxHeartbeats 8000000 in
theorem jobPart_go (m : Mc) (t : Tk) (rel : Int) (w : World) (hm : m.At w) (ht : TAt w t) (hr : 0 ≤ rel ∧ rel ≤ 65535) :
    Calls Try.prog 7 #[m.v, t.v, .int .u16 rel] w fun e w' => e = .returned (.bool true) ∧ Below w.heap.size w w' := by
  have HE : Hid (∀ w', Kp w w' → Below w.heap.size w w') := fun w' q => q
  obtain ⟨W0, HW, K0, P0, X0⟩ := two_box w m t
  have HT : Hid (Calls Try.prog 12 #[m.v] W0 fun e w' => e = .returned (.bool m.may) ∧ Kp W0 w') := jtable_at m W0 (hm.kept K0)
  have HTk : Hid (∀ W, Kp w W → Calls Try.prog 15 #[m.v, t.v] W fun e w' => e = .returned (.bool (tkB m t)) ∧ Kp W w') := fun W k => rtask_any m t W (ht.kept k)
  have HD : Hid (m.may = true → Bd m) := bd_of
  have HC : Hid (tkB m t = true → 1 ≤ t.c ∧ t.c ≤ 4096) := tkB_c
  have HM : Hid (m.At w) := hm
  have HP : Hid (∀ W, Kp W0 W → B9 W w.heap.size m) := fun W k => P0.kp k
  have HX : Hid (∀ W, Kp W0 W → TB4 W (w.heap.size + 1) t) := fun W k => X0.kp k
  have HK : Hid (Kp w W0) := K0
  obtain ⟨hr0, hr1⟩ := hr
  have hrw : IntKind.i64.wrap rel = rel := wrapI (by omega)
  generalize m.may = may at *
  generalize tkB m t = tb at *
  obtain ⟨p0, p1, p2, p3, p4, p5, p6, p7, p8⟩ := P0.all
  obtain ⟨x0, x1, x2, x3⟩ := X0.all
  clear K0 P0 X0 hm ht
  cases may with
  | false =>
    clear HTk HD HC HM
    unfold Mc.v Tk.v at *
    go_enter Try.func7, Try.ntmps7
    go_wp2_with fail
    rw [← HW.out]
    refine HT.out.mono ?_
    rintro e w1 ⟨rfl, k1⟩
    go_wp2_with fail
    refine (janswers_any _).mono ?_
    rintro e w2 ⟨rfl, k2⟩
    go_wp2
    go_ret
    exact ⟨rfl, HE.out _ ((HK.out.trans k1).trans k2)⟩
  | true =>
    cases tb with
    | false =>
      clear HD HC HM
      unfold Mc.v Tk.v at *
      go_enter Try.func7, Try.ntmps7
      go_wp2_with fail
      rw [← HW.out]
      clear HW
      refine HT.out.mono ?_
      rintro e w1 ⟨rfl, k1⟩
      have HK1 : Hid (Kp W0 w1) := k1
      clear HT k1 p0 p1 p2 p3 p4 p5 p6 p7 p8 x0 x1 x2 x3
      obtain ⟨p0, p1, p2, p3, p4, p5, p6, p7, p8⟩ := (HP.out _ HK1.out).all
      obtain ⟨x0, x1, x2, x3⟩ := (HX.out _ HK1.out).all
      go_wp2_with fail
      refine (HTk.out _ (HK.out.trans HK1.out)).mono ?_
      rintro e w2 ⟨rfl, k2⟩
      go_wp2_with fail
      refine (janswers_any _).mono ?_
      rintro e w3 ⟨rfl, k3⟩
      go_wp2
      go_ret
      exact ⟨rfl, HE.out _ (((HK.out.trans HK1.out).trans k2).trans k3)⟩
    | true =>
      have d := HD.out rfl
      have cc := HC.out rfl
      have hL : 0 < m.lL := by have := d.cr; omega
      have HL : Hid (∀ W, Kp w W → ∃ b off, m.aL = some ⟨b, off, none⟩ ∧ b < W.heap.size ∧ W.cell? ⟨b, off + 0 * 2, none⟩ = some (.int .i64 (fd m.rL 0 0))) := fun W k => lev_at HM.out hL k
      have SU := part_sums d cc 0 rel (wrap64 (rel + t.p)) 1
      have HQ : Hid (∀ W (j : Jb), j.l ≤ 4096 → Kp w W → Calls Try.prog 13 #[m.v, j.v] W fun e w' => e = .returned (.int .i64 (jqI m j)) ∧ Kp W w') := fun W j h k => jquanta_any m j W (HM.out.kept k) d (by omega)
      have HA : Hid (∀ W, Kp w W → Calls Try.prog 16 #[m.v, t.v, .int .i64 0] W fun e w' => e = .returned (.int .i64 (qn m t.c 0)) ∧ Kp W w') := fun W k => tquanta_any m t 0 W (HM.out.kept k) d (by omega)
      have HNw : Hid (∀ W, Calls Try.prog 10 #[.int .i64 0, t.v, .int .i64 rel, .int .i64 1] W fun e w' => e = .returned (.agg #[.int .i64 0, .int .i64 rel, .int .i64 (wrap64 (rel + t.p)), .int .i64 t.c, .int .i64 1, .bool false]) ∧ Kp W w') := fun W => new_any 0 t rel 1 W
      have HSt : Hid (∀ W, ∃ how : Int, Calls Try.prog 11 #[.agg #[.int .i64 0, .int .i64 rel, .int .i64 (wrap64 (rel + t.p)), .int .i64 t.c, .int .i64 1, .bool true]] W fun e w' => e = .returned (.tuple #[.agg #[.int .i64 0, .int .i64 rel, .int .i64 (wrap64 (rel + t.p)), .int .i64 (t.c - 1), .int .i64 (1 - 1), .bool true], .int .i64 how]) ∧ Kp W w') := fun W => by
        have h := step_any ⟨0, rel, wrap64 (rel + t.p), t.c, 1, true⟩ W
        rw [stJ_in (by dsimp only; omega) (by dsimp only; omega)] at h
        exact ⟨_, h⟩
      have Q1 : Hid (∀ W, Kp w W → Calls Try.prog 13 #[m.v, .agg #[.int .i64 0, .int .i64 rel, .int .i64 (wrap64 (rel + t.p)), .int .i64 t.c, .int .i64 1, .bool false]] W fun e w' => e = .returned (.int .i64 (jqI m ⟨0, rel, wrap64 (rel + t.p), t.c, 1, false⟩)) ∧ Kp W w') := fun W k => HQ.out W ⟨0, rel, wrap64 (rel + t.p), t.c, 1, false⟩ cc.2 k
      have Q2 : Hid (∀ W, Kp w W → Calls Try.prog 13 #[m.v, .agg #[.int .i64 0, .int .i64 rel, .int .i64 (wrap64 (rel + t.p)), .int .i64 t.c, .int .i64 1, .bool true]] W fun e w' => e = .returned (.int .i64 (jqI m ⟨0, rel, wrap64 (rel + t.p), t.c, 1, true⟩)) ∧ Kp W w') := fun W k => HQ.out W ⟨0, rel, wrap64 (rel + t.p), t.c, 1, true⟩ cc.2 k
      have Q3 : Hid (∀ W, Kp w W → Calls Try.prog 13 #[m.v, .agg #[.int .i64 0, .int .i64 rel, .int .i64 (wrap64 (rel + t.p)), .int .i64 (t.c - 1), .int .i64 (1 - 1), .bool true]] W fun e w' => e = .returned (.int .i64 (jqI m ⟨0, rel, wrap64 (rel + t.p), t.c - 1, 1 - 1, true⟩)) ∧ Kp W w') := fun W k => HQ.out W ⟨0, rel, wrap64 (rel + t.p), t.c - 1, 1 - 1, true⟩ (by show t.c - 1 ≤ 4096; omega) k
      rw [← SU.1] at HA
      obtain ⟨-, su1, su2⟩ := SU
      clear HQ HD HC HM d cc
      generalize jqI m ⟨0, rel, wrap64 (rel + t.p), t.c - 1, 1 - 1, true⟩ = qc at *
      generalize jqI m ⟨0, rel, wrap64 (rel + t.p), t.c, 1, true⟩ = qb at *
      generalize jqI m ⟨0, rel, wrap64 (rel + t.p), t.c, 1, false⟩ = qa at *
      generalize wrap64 (rel + t.p) = dl at *
      obtain ⟨tm, htm⟩ : ∃ tm : Int, t.c - 1 = tm := ⟨_, rfl⟩
      rw [htm] at HSt Q3
      clear htm
      have e0 : (1 : Int) - 1 = 0 := rfl
      rw [e0] at HSt Q3
      generalize fd m.rL 0 0 = pz at *
      unfold Mc.v Tk.v at *
      go_enter Try.func7, Try.ntmps7
      go_wp2_with fail
      rw [← HW.out]
      clear HW
      refine HT.out.mono ?_
      rintro e w1 ⟨rfl, k1⟩
      have HK1 : Hid (Kp W0 w1) := k1
      clear HT k1 p0 p1 p2 p3 p4 p5 p6 p7 p8 x0 x1 x2 x3
      obtain ⟨p0, p1, p2, p3, p4, p5, p6, p7, p8⟩ := (HP.out _ HK1.out).all
      obtain ⟨x0, x1, x2, x3⟩ := (HX.out _ HK1.out).all
      go_wp2_with fail
      refine (HTk.out _ (HK.out.trans HK1.out)).mono ?_
      rintro e w2 ⟨rfl, k2⟩
      have HK2 : Hid (Kp W0 w2) := HK1.out.trans k2
      clear HTk k2 p0 p1 p2 p3 p4 p5 p6 p7 p8 x0 x1 x2 x3
      obtain ⟨p0, p1, p2, p3, p4, p5, p6, p7, p8⟩ := (HP.out _ HK2.out).all
      obtain ⟨x0, x1, x2, x3⟩ := (HX.out _ HK2.out).all
      go_wp2_with fail
      refine (HNw.out _).mono ?_
      rintro e w3 ⟨rfl, k3⟩
      have HK3 : Hid (Kp W0 w3) := HK2.out.trans k3
      clear HNw k3 p0 p1 p2 p3 p4 p5 p6 p7 p8 x0 x1 x2 x3
      obtain ⟨U, HU, KU, JU, IU⟩ := two_jobs w3 ⟨0, rel, dl, t.c, 1, false⟩ ⟨0, rel, dl, t.c, 1, true⟩
      have HKU : Hid (Kp W0 U) := HK3.out.trans KU
      have HJU : Hid (∀ W, Kp U W → BJ W w3.heap.size ⟨0, rel, dl, t.c, 1, false⟩ ∧ BJ W (w3.heap.size + 1) ⟨0, rel, dl, t.c, 1, true⟩) := fun W k => ⟨JU.kp k, IU.kp k⟩
      clear KU JU IU
      go_wp2_with fail
      rw [← HU.out]
      clear HU
      obtain ⟨how, hstep⟩ := HSt.out U
      refine hstep.mono ?_
      rintro e w4 ⟨rfl, k4⟩
      clear hstep HSt
      have HU4 : Hid (Kp U w4) := k4
      clear k4
      obtain ⟨Y, HY⟩ : ∃ Y, Hid (Y = w4.alloc (.cells #[.int .i64 0, .int .i64 rel, .int .i64 dl, .int .i64 tm, .int .i64 0, .bool true] 28)) := ⟨_, rfl⟩
      have LY : BJ Y w4.heap.size ⟨0, rel, dl, tm, 0, true⟩ := by rw [HY.out]; exact bj_new w4 ⟨0, rel, dl, tm, 0, true⟩
      have KY : Kp U Y := by rw [HY.out]; exact HU4.out.alloc _
      have HKY : Hid (Kp W0 Y) := HKU.out.trans KY
      have HKY0 : Hid (Kp w Y) := HK.out.trans HKY.out
      have HJY : Hid (∀ W, Kp Y W → BJ W w3.heap.size ⟨0, rel, dl, t.c, 1, false⟩ ∧ BJ W (w3.heap.size + 1) ⟨0, rel, dl, t.c, 1, true⟩ ∧ BJ W w4.heap.size ⟨0, rel, dl, tm, 0, true⟩) := fun W k => ⟨(HJU.out _ (KY.trans k)).1, (HJU.out _ (KY.trans k)).2, LY.kp k⟩
      clear KY LY
      go_wp2_with fail
      rw [← HY.out]
      clear HY
      obtain ⟨p0, p1, p2, p3, p4, p5, p6, p7, p8⟩ := (HP.out _ HKY.out).all
      obtain ⟨b0, b1, b2, b3, b4, b5⟩ := (HJY.out _ (Kp.refl _)).1.all
      obtain ⟨d0, d1, d2, d3, d4, d5⟩ := (HJY.out _ (Kp.refl _)).2.1.all
      obtain ⟨f0, f1, f2, f3, f4, f5⟩ := (HJY.out _ (Kp.refl _)).2.2.all
      go_region_held3 (fun w' => w'.cell? ⟨w.heap.size, 0, none⟩ = some (.slice m.aL m.lL m.cL) ∧ w'.cell? ⟨w.heap.size, 1, none⟩ = some (.slice m.aS m.lS m.cS) ∧ w'.cell? ⟨w.heap.size, 2, none⟩ = some (.slice m.aD m.lD m.cD) ∧ w'.cell? ⟨w.heap.size, 3, none⟩ = some (.int .i64 m.idle) ∧ w'.cell? ⟨w.heap.size, 4, none⟩ = some (.int .i64 m.crit) ∧ w'.cell? ⟨w.heap.size, 5, none⟩ = some (.int .i64 m.sw) ∧ w'.cell? ⟨w.heap.size, 6, none⟩ = some (.int .i64 m.swe) ∧ w'.cell? ⟨w.heap.size, 7, none⟩ = some (.int .i64 m.sems) ∧ w'.cell? ⟨w.heap.size, 8, none⟩ = some (.int .i64 m.hor) ∧ w'.cell? ⟨w3.heap.size, 0, none⟩ = some (.int .i64 0) ∧ w'.cell? ⟨w3.heap.size, 1, none⟩ = some (.int .i64 rel) ∧ w'.cell? ⟨w3.heap.size, 2, none⟩ = some (.int .i64 dl) ∧ w'.cell? ⟨w3.heap.size, 3, none⟩ = some (.int .i64 t.c) ∧ w'.cell? ⟨w3.heap.size, 4, none⟩ = some (.int .i64 1) ∧ w'.cell? ⟨w3.heap.size, 5, none⟩ = some (.bool false) ∧ w'.cell? ⟨w3.heap.size + 1, 0, none⟩ = some (.int .i64 0) ∧ w'.cell? ⟨w3.heap.size + 1, 1, none⟩ = some (.int .i64 rel) ∧ w'.cell? ⟨w3.heap.size + 1, 2, none⟩ = some (.int .i64 dl) ∧ w'.cell? ⟨w3.heap.size + 1, 3, none⟩ = some (.int .i64 t.c) ∧ w'.cell? ⟨w3.heap.size + 1, 4, none⟩ = some (.int .i64 1) ∧ w'.cell? ⟨w3.heap.size + 1, 5, none⟩ = some (.bool true) ∧ w'.cell? ⟨w4.heap.size, 0, none⟩ = some (.int .i64 0) ∧ w'.cell? ⟨w4.heap.size, 1, none⟩ = some (.int .i64 rel) ∧ w'.cell? ⟨w4.heap.size, 2, none⟩ = some (.int .i64 dl) ∧ w'.cell? ⟨w4.heap.size, 3, none⟩ = some (.int .i64 tm) ∧ w'.cell? ⟨w4.heap.size, 4, none⟩ = some (.int .i64 0) ∧ w'.cell? ⟨w4.heap.size, 5, none⟩ = some (.bool true)) (go_keep) (first
        | (go_at_call 13; refine (Q1.out _ (HKY0.out.trans (by first | exact Kp.refl _ | exact kp_drew _))).mono ?_; rintro e w5 ⟨rfl, k5⟩; clear Q1; have K5 : Kp Y w5 := (by first | exact (kp_drew _).trans k5 | exact k5); clear k5; obtain ⟨z0, z1, z2, z3, z4, z5, z6, z7, z8⟩ := (HP.out _ (HKY.out.trans K5)).all; obtain ⟨b0, b1, b2, b3, b4, b5⟩ := (HJY.out _ K5).1.all; obtain ⟨d0, d1, d2, d3, d4, d5⟩ := (HJY.out _ K5).2.1.all; obtain ⟨f0, f1, f2, f3, f4, f5⟩ := (HJY.out _ K5).2.2.all)
        | (go_at_call 13; refine (Q2.out _ (HKY0.out.trans (by first | exact K5 | exact K5.trans (kp_drew _)))).mono ?_; rintro e w6 ⟨rfl, k6⟩; clear Q2; have K6 : Kp Y w6 := (by first | exact (K5.trans (kp_drew _)).trans k6 | exact K5.trans k6); clear k6; obtain ⟨z0, z1, z2, z3, z4, z5, z6, z7, z8⟩ := (HP.out _ (HKY.out.trans K6)).all; obtain ⟨b0, b1, b2, b3, b4, b5⟩ := (HJY.out _ K6).1.all; obtain ⟨d0, d1, d2, d3, d4, d5⟩ := (HJY.out _ K6).2.1.all; obtain ⟨f0, f1, f2, f3, f4, f5⟩ := (HJY.out _ K6).2.2.all)
        | (go_at_call 13; refine (Q3.out _ (HKY0.out.trans (by first | exact K6 | exact K6.trans (kp_drew _)))).mono ?_; rintro e w7 ⟨rfl, k7⟩; clear Q3; have K7 : Kp Y w7 := (by first | exact (K6.trans (kp_drew _)).trans k7 | exact K6.trans k7); clear k7; obtain ⟨z0, z1, z2, z3, z4, z5, z6, z7, z8⟩ := (HP.out _ (HKY.out.trans K7)).all; obtain ⟨b0, b1, b2, b3, b4, b5⟩ := (HJY.out _ K7).1.all; obtain ⟨d0, d1, d2, d3, d4, d5⟩ := (HJY.out _ K7).2.1.all; obtain ⟨f0, f1, f2, f3, f4, f5⟩ := (HJY.out _ K7).2.2.all)
        | fail)
      all_goals
        have HY7 : Hid (Kp Y w7) := K7
        clear z0 z1 z2 z3 z4 z5 z6 z7 z8 b0 b1 b2 b3 b4 b5 d0 d1 d2 d3 d4 d5 f0 f1 f2 f3 f4 f5
        go_wp2_with fail
        refine (janswers_any _).mono ?_
        rintro e w8 ⟨rfl, k8⟩
        have HY8 : Hid (Kp Y w8) := HY7.out.trans k8
        clear k8
        obtain ⟨p0, p1, p2, p3, p4, p5, p6, p7, p8⟩ := (HP.out _ (HKY.out.trans HY8.out)).all
        obtain ⟨x0, x1, x2, x3⟩ := (HX.out _ (HKY.out.trans HY8.out)).all
        go_wp2_with fail
        refine (HA.out _ (HKY0.out.trans HY8.out)).mono ?_
        rintro e w9 ⟨rfl, k9⟩
        have HY9 : Hid (Kp Y w9) := HY8.out.trans k9
        clear k9 p0 p1 p2 p3 p4 p5 p6 p7 p8 x0 x1 x2 x3 HA
        obtain ⟨p0, p1, p2, p3, p4, p5, p6, p7, p8⟩ := (HP.out _ (HKY.out.trans HY9.out)).all
        obtain ⟨b, off, ha, hlt, hz'⟩ := HL.out _ (HKY0.out.trans HY9.out)
        have hz : w9.cell? ⟨b, off, none⟩ = some (.int .i64 pz) := by simpa using hz'
        rw [ha] at p0
        clear ha HL hz'
        go_wp2
        go_ret
        exact ⟨by simp, HE.out _ (HKY0.out.trans HY9.out)⟩

theorem jobPart_walk (aL : Option Addr) (lL cL : Nat) (rL : List (List Int)) (aS : Option Addr) (lS cS : Nat) (rS : List (List Int)) (aD : Option Addr) (lD cD : Nat) (rD : List (List Int)) (idle crit sw swe sems hor : Int) (t : Tk) (rel : Int) (w : World)
    (hm : Mach w aL lL rL aS lS rS aD lD rD) (ht : TAt w t) (hr : (Lit.int .u16 rel).wf = true) :
    Calls Try.prog 7 #[pv aL lL cL aS lS cS aD lD cD idle crit sw swe sems hor, t.v, .int .u16 rel] w fun e w' => e = .returned (.bool true) ∧ Below w.heap.size w w' :=
  jobPart_go ⟨aL, lL, cL, rL, aS, lS, cS, rS, aD, lD, cD, rD, idle, crit, sw, swe, sems, hor⟩ t rel w hm ht (by
    simp [Lit.wf, IntKind.min, IntKind.max, IntKind.signed, IntKind.bits] at hr
    omega)

end Go.Proofs.Ytfkefhilkfnffaa.JB
