/- What the statements ask: a level chosen, a question of which the chapter speaks, and that a program answers at all. -/
import Derived.Test.YtlhacdbeadchjaaGovRef
namespace Go.Proofs.Ytlhacdbeadchjaa.GV
open Go.ChangeShapes Go.WideShapes Go.ChangeAt Go.RowKit Go.Proofs.Ytlhacdbeadchjaa.AR Go.Proofs.Ytlhacdbeadchjaa.TB Go.Proofs.Ytlhacdbeadchjaa.FX

/-- what is chosen for a question -/
def caN (m : Mc) (a : Ak) : Nat := chI m a.pol a.st a.lf a.sl a.lv

set_option maxHeartbeats 4000000 in
theorem lchoose_any (m : Mc) (a : Ak) (w : World) (h : m.At w) (hb : Bd m) (hl : 0 ≤ a.lf ∧ a.lf ≤ 8192) :
    Calls Try.prog 10 #[m.v, a.v] w fun e w' => e = .returned (.int .i64 (caN m a : Nat)) ∧ Kp w w' := by
  obtain ⟨W0, HW, K0, P0, A0⟩ := ma_box w m a
  have HK : Hid (Kp w W0) := K0
  have HC : Hid (Calls Try.prog 15 #[m.v, .int .i64 a.pol, .int .i64 a.st, .int .i64 a.lf, .int .i64 a.sl, .int .i64 a.lv] W0 fun e w' => e = .returned (.int .i64 (caN m a : Nat)) ∧ Kp W0 w') := choose_any m a.pol a.st a.lf a.sl a.lv W0 (h.kept K0) hb hl
  obtain ⟨p0, p1, p2, p3, p4, p5, p6, p7, p8⟩ := P0.all
  obtain ⟨q0, q1, q2, q3, q4⟩ := A0.all
  generalize caN m a = res at *
  unfold Mc.v Ak.v at *
  clear K0 P0 A0 h hb hl
  go_enter Try.func10, Try.ntmps10
  go_wp2_with fail
  rw [← HW.out]
  go_wp2_with fail
  refine Calls.mono HC.out ?_
  rintro e w1 ⟨rfl, k1⟩
  go_wp2
  go_ret
  exact ⟨rfl, HK.out.trans k1⟩

/-- is it a question of which the chapter speaks? -/
def goodB (m : Mc) (a : Ak) : Bool := m.may && decide (0 ≤ a.lf) && decide (a.lf ≤ 8192)
theorem good_t {m : Mc} {a : Ak} (h : goodB m a = true) : Bd m ∧ 0 ≤ a.lf ∧ a.lf ≤ 8192 := by
  simp only [goodB, Bool.and_eq_true, decide_eq_true_eq] at h
  exact ⟨bd_of h.1.1, h.1.2, h.2⟩

set_option maxHeartbeats 4000000 in
theorem good_any (m : Mc) (a : Ak) (w : World) (h : m.At w) :
    Calls Try.prog 8 #[m.v, a.v] w fun e w' => e = .returned (.bool (goodB m a)) ∧ Kp w w' := by
  obtain ⟨W0, HW, K0, P0, A0⟩ := ma_box w m a
  have HK : Hid (Kp w W0) := K0
  have HA : Hid (∀ W, Kp W0 W → A5 W (w.heap.size + 1) a) := fun W q => A0.kp q
  have HB : Hid (Calls Try.prog 14 #[m.v] W0 fun e w' => e = .returned (.bool m.may) ∧ Kp W0 w') := table_at m W0 (h.kept K0)
  have HG : Hid (goodB m a = (m.may && decide (0 ≤ a.lf) && decide (a.lf ≤ 8192))) := rfl
  obtain ⟨p0, p1, p2, p3, p4, p5, p6, p7, p8⟩ := P0.all
  generalize goodB m a = res at *
  generalize m.may = may at *
  unfold Mc.v Ak.v at *
  clear K0 P0 A0 h
  have e := HG.out
  clear HG
  cases may with
  | false =>
    have HR : Hid (false = res) := by rw [e]; rfl
    clear e
    go_enter Try.func8, Try.ntmps8
    go_wp2_with fail
    rw [← HW.out]
    refine Calls.mono HB.out ?_
    rintro e w1 ⟨rfl, k1⟩
    go_wp2
    go_ret
    exact ⟨congrArg (fun b => Ending.returned (Value.bool b)) HR.out, HK.out.trans k1⟩
  | true =>
    by_cases c1 : 0 ≤ a.lf
    · by_cases c2 : a.lf ≤ 8192
      · have HR : Hid (true = res) := by rw [e, decide_eq_true c1, decide_eq_true c2]; rfl
        clear e
        go_enter Try.func8, Try.ntmps8
        go_wp2_with fail
        rw [← HW.out]
        refine Calls.mono HB.out ?_
        rintro e w1 ⟨rfl, k1⟩
        obtain ⟨q0, q1, q2, q3, q4⟩ := (HA.out _ k1).all
        go_wp2
        go_ret
        exact ⟨congrArg (fun b => Ending.returned (Value.bool b)) HR.out, HK.out.trans k1⟩
      · have HR : Hid (decide (a.lf ≤ 8192) = res) := by rw [e, decide_eq_true c1]; rfl
        clear e
        go_enter Try.func8, Try.ntmps8
        go_wp2_with fail
        rw [← HW.out]
        refine Calls.mono HB.out ?_
        rintro e w1 ⟨rfl, k1⟩
        obtain ⟨q0, q1, q2, q3, q4⟩ := (HA.out _ k1).all
        go_wp2
        go_ret
        exact ⟨congrArg (fun b => Ending.returned (Value.bool b)) HR.out, HK.out.trans k1⟩
    · have HR : Hid (false = res) := by rw [e, decide_eq_false c1]; rfl
      clear e
      go_enter Try.func8, Try.ntmps8
      go_wp2_with fail
      rw [← HW.out]
      refine Calls.mono HB.out ?_
      rintro e w1 ⟨rfl, k1⟩
      obtain ⟨q0, q1, q2, q3, q4⟩ := (HA.out _ k1).all
      go_wp2
      go_ret
      exact ⟨congrArg (fun b => Ending.returned (Value.bool b)) HR.out, HK.out.trans k1⟩

/-! ### what is asked of every program -/

abbrev qM (h : Nat) : Mc := ⟨some ⟨h, 0, none⟩, 2, 2, [[1, 0], [2, 0]], none, 0, 0, [], none, 0, 0, [], 0, 1, 0, 0, 0, 50⟩

theorem ans_bd (h : Nat) : Bd (qM h) := by
  refine ⟨by simp, fun i hi => ?_, fun i hi => ?_, by simp, by simp⟩
  · match i, hi with
    | 0, _ => simp [fd]
    | 1, _ => simp [fd]
  · match i, hi with
    | 0, _ => simp [fd]
theorem ans_1 (h : Nat) : chI (qM h) 2 0 3 12884901888 0 = 1 := by rfl
theorem ans_2 (h : Nat) : chI (qM h) 2 0 3 12884901887 0 = 0 := by rfl
theorem ans_3 (h : Nat) : chI (qM h) 1 1 3 1099511627776 1 = 1 := by rfl
theorem ans_4 (h : Nat) : chI (qM h) 0 1 3 1099511627776 1 = 0 := by rfl

theorem no_rec (W : World) (q : Nat) : RecAt W q none 0 [] := ⟨rfl, fun r hr => by simp at hr, .inl rfl⟩

theorem an_at {h : Nat} {W : World} (a : W.heap[h]? = some (.cells #[.int .i64 1, .int .i64 0, .int .i64 2, .int .i64 0] 34 (0, 0))) : (qM h).At W := by
  refine ⟨⟨rfl, ?_, .inr ⟨h, 0, rfl, lt_blk a, ?_⟩⟩, no_rec _ _, no_rec _ _, by simp, by simp, by simp⟩
  · intro r hr
    simp at hr
    rcases hr with rfl | rfl
    · refine ⟨rfl, fun y hy => ?_⟩
      simp at hy
      unfold I64
      omega
    · refine ⟨rfl, fun y hy => ?_⟩
      simp at hy
      unfold I64
      omega
  · intro i j hi hj
    match i, hi, j, hj with
    | 0, _, 0, _ => simp [World.cell?, a]
    | 0, _, 1, _ => simp [World.cell?, a]
    | 1, _, 0, _ => simp [World.cell?, a]
    | 1, _, 1, _ => simp [World.cell?, a]

theorem asg_new (w : World) : ∃ W0, Hid (W0 = (w.alloc (.cells #[.int .i64 1, .int .i64 0, .int .i64 2, .int .i64 0] 34)).alloc (.cells #[.slice (some ⟨w.heap.size, 0, none⟩) 2 2, .slice none 0 0, .slice none 0 0, .int .i64 0, .int .i64 1, .int .i64 0, .int .i64 0, .int .i64 0, .int .i64 50] 26)) ∧
    (qM w.heap.size).At W0 ∧ B9 W0 (w.heap.size + 1) (qM w.heap.size) ∧ Kp w W0 := by
  refine ⟨_, rfl, an_at (kp_block (heap_alloc_at _ _) ((Kp.refl _).alloc _)), ⟨?_⟩, ((Kp.refl _).alloc _).alloc _⟩
  have h := heap_alloc_at (w.alloc (.cells #[.int .i64 1, .int .i64 0, .int .i64 2, .int .i64 0] 34)) (.cells #[.slice (some ⟨w.heap.size, 0, none⟩) 2 2, .slice none 0 0, .slice none 0 0, .int .i64 0, .int .i64 1, .int .i64 0, .int .i64 0, .int .i64 0, .int .i64 50] 26)
  rw [World.size_alloc] at h
  exact h

set_option maxRecDepth 100000 in
set_option maxHeartbeats 8000000 in
theorem ganswers_any (w : World) :
    Calls Try.prog 9 #[] w fun e w' => e = .returned (.bool true) ∧ Kp w w' := by
  obtain ⟨W0, HW, M0, B0, K0⟩ := asg_new w
  have HK : Hid (Kp w W0) := K0
  have HB : Hid (∀ W, Kp W0 W → B9 W (w.heap.size + 1) (qM w.heap.size)) := fun W q => B0.kp q
  have H1 : Hid (∀ W, Kp W0 W → Calls Try.prog 15 #[.agg #[.slice (some ⟨w.heap.size, 0, none⟩) 2 2, .slice none 0 0, .slice none 0 0, .int .i64 0, .int .i64 1, .int .i64 0, .int .i64 0, .int .i64 0, .int .i64 50], .int .i64 2, .int .i64 0, .int .i64 3, .int .i64 12884901888, .int .i64 0] W
      fun e w' => e = .returned (.int .i64 1) ∧ Kp W w') := fun W q => by
    have y := choose_any (qM w.heap.size) 2 0 3 12884901888 0 W (M0.kept q) (ans_bd _) (by omega)
    rw [ans_1] at y
    exact y
  have H2 : Hid (∀ W, Kp W0 W → Calls Try.prog 15 #[.agg #[.slice (some ⟨w.heap.size, 0, none⟩) 2 2, .slice none 0 0, .slice none 0 0, .int .i64 0, .int .i64 1, .int .i64 0, .int .i64 0, .int .i64 0, .int .i64 50], .int .i64 2, .int .i64 0, .int .i64 3, .int .i64 12884901887, .int .i64 0] W
      fun e w' => e = .returned (.int .i64 0) ∧ Kp W w') := fun W q => by
    have y := choose_any (qM w.heap.size) 2 0 3 12884901887 0 W (M0.kept q) (ans_bd _) (by omega)
    rw [ans_2] at y
    exact y
  have H3 : Hid (∀ W, Kp W0 W → Calls Try.prog 15 #[.agg #[.slice (some ⟨w.heap.size, 0, none⟩) 2 2, .slice none 0 0, .slice none 0 0, .int .i64 0, .int .i64 1, .int .i64 0, .int .i64 0, .int .i64 0, .int .i64 50], .int .i64 1, .int .i64 1, .int .i64 3, .int .i64 1099511627776, .int .i64 1] W
      fun e w' => e = .returned (.int .i64 1) ∧ Kp W w') := fun W q => by
    have y := choose_any (qM w.heap.size) 1 1 3 1099511627776 1 W (M0.kept q) (ans_bd _) (by omega)
    rw [ans_3] at y
    exact y
  have H4 : Hid (∀ W, Kp W0 W → Calls Try.prog 15 #[.agg #[.slice (some ⟨w.heap.size, 0, none⟩) 2 2, .slice none 0 0, .slice none 0 0, .int .i64 0, .int .i64 1, .int .i64 0, .int .i64 0, .int .i64 0, .int .i64 50], .int .i64 0, .int .i64 1, .int .i64 3, .int .i64 1099511627776, .int .i64 1] W
      fun e w' => e = .returned (.int .i64 0) ∧ Kp W w') := fun W q => by
    have y := choose_any (qM w.heap.size) 0 1 3 1099511627776 1 W (M0.kept q) (ans_bd _) (by omega)
    rw [ans_4] at y
    exact y
  obtain ⟨p0, p1, p2, p3, p4, p5, p6, p7, p8⟩ := (HB.out _ (Kp.refl _)).all
  clear M0 B0 K0
  go_enter Try.func9, Try.ntmps9
  go_wp2_with fail
  rw [← HW.out]
  clear HW
  go_wp2_with fail
  refine Calls.mono (H1.out _ (Kp.refl _)) ?_
  rintro e w1 ⟨rfl, k1⟩
  have HK1 : Hid (Kp W0 w1) := k1
  clear p0 p1 p2 p3 p4 p5 p6 p7 p8 k1 H1
  obtain ⟨p0, p1, p2, p3, p4, p5, p6, p7, p8⟩ := (HB.out _ HK1.out).all
  go_wp2_with fail
  refine Calls.mono (H2.out _ HK1.out) ?_
  rintro e w2 ⟨rfl, k2⟩
  have HK2 : Hid (Kp W0 w2) := HK1.out.trans k2
  clear p0 p1 p2 p3 p4 p5 p6 p7 p8 k2 H2
  obtain ⟨p0, p1, p2, p3, p4, p5, p6, p7, p8⟩ := (HB.out _ HK2.out).all
  go_wp2_with fail
  refine Calls.mono (H3.out _ HK2.out) ?_
  rintro e w3 ⟨rfl, k3⟩
  have HK3 : Hid (Kp W0 w3) := HK2.out.trans k3
  clear p0 p1 p2 p3 p4 p5 p6 p7 p8 k3 H3
  obtain ⟨p0, p1, p2, p3, p4, p5, p6, p7, p8⟩ := (HB.out _ HK3.out).all
  go_wp2_with fail
  refine Calls.mono (H4.out _ HK3.out) ?_
  rintro e w4 ⟨rfl, k4⟩
  go_wp2
  go_ret
  exact ⟨rfl, HK.out.trans (HK3.out.trans k4)⟩

end Go.Proofs.Ytlhacdbeadchjaa.GV
