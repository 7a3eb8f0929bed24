/- What any task's job is at first. -/
import Derived.Test.YtfkefhilkfnffaaJobAns
import Derived.Test.YtfkefhilkfnffaaTskRow
namespace Go.Proofs.Ytfkefhilkfnffaa.JB
open Go.ChangeShapes Go.WideShapes Go.ChangeAt Go.RowKit Go.Proofs.Ytfkefhilkfnffaa.AR Go.Proofs.Ytfkefhilkfnffaa.TB Go.Proofs.Ytfkefhilkfnffaa.TK

/-- a task's box -/
abbrev B4J (w : World) (g : Nat) (t : Tk) : Prop := B4 w g (.int .i64 t.p) (.int .i64 t.c) (.slice t.sa t.sl t.sc) (.slice t.da t.dl t.dc)

/-- a task's box, five numbers, and a job -/
theorem task_nums_job (w : World) (t : Tk) (a b c d e : Int) : ∃ W0, Hid (W0 = (w.alloc (.cells #[.int .i64 t.p, .int .i64 t.c, .slice t.sa t.sl t.sc, .slice t.da t.dl t.dc] 24)).alloc (.cells #[.int .i64 a, .int .i64 b, .int .i64 c, .int .i64 d, .int .i64 e] 3)) ∧ Kp w W0 ∧ B4J W0 w.heap.size t ∧ W0.heap.size = w.heap.size + 1 + 1 ∧
    ∀ i, i < 5 → W0.cell? ⟨w.heap.size + 1, 0 + i, none⟩ = some (.int .i64 ([a, b, c, d, e].getD i 0)) := by
  refine ⟨_, rfl, ((Kp.refl _).alloc _).alloc _, (b4_new (Kp.refl _)).kp ((Kp.refl _).alloc _), by rw [World.size_alloc, World.size_alloc], ?_⟩
  have h := heap_alloc_at (w.alloc (.cells #[.int .i64 t.p, .int .i64 t.c, .slice t.sa t.sl t.sc, .slice t.da t.dl t.dc] 24)) (.cells #[.int .i64 a, .int .i64 b, .int .i64 c, .int .i64 d, .int .i64 e] 3)
  rw [World.size_alloc] at h
  exact nums_at (zs := [a, b, c, d, e]) h

set_option maxHeartbeats 4000000 in
theorem jobNew_go (n : Int) (t : Tk) (rel cyc : Int) (w : World) :
    Calls Try.prog 3 #[.int .i64 n, t.v, .int .i64 rel, .int .i64 cyc] w fun e w' => e = .returned (.bool true) ∧ Below w.heap.size w w' := by
  have HE : Hid (∀ w', Kp w w' → Below w.heap.size w w') := fun w' q => q
  obtain ⟨W0, HW, K0, X0, hs, hc⟩ := task_nums_job w t n t.p t.c rel cyc
  have HN : Hid (Calls Try.prog 8 #[.slice (some ⟨w.heap.size + 1, 0, none⟩) 5 5] W0 fun e w' => e = .returned (.bool (nrB [n, t.p, t.c, rel, cyc] 5)) ∧ W0 = w') := near_any _ _ _ _ _ W0 hc (by omega)
  have HX : Hid (∀ W, Kp W0 W → B4J W w.heap.size t) := fun W k => X0.kp k
  have HK : Hid (Kp w W0) := K0
  generalize nrB [n, t.p, t.c, rel, cyc] 5 = gd at *
  obtain ⟨V0, HV⟩ : ∃ V0, Hid (V0 = W0.alloc (.cells #[.int .i64 n, .int .i64 rel, .int .i64 (wrap64 (rel + t.p)), .int .i64 t.c, .int .i64 cyc, .bool false] 28)) := ⟨_, rfl⟩
  have KV : Hid (Kp W0 V0) := by show Kp _ _; rw [HV.out]; exact (Kp.refl _).alloc _
  have JV : BJ V0 (w.heap.size + 1 + 1) ⟨n, rel, wrap64 (rel + t.p), t.c, cyc, false⟩ := by
    rw [HV.out, ← hs]
    exact bj_new W0 ⟨n, rel, wrap64 (rel + t.p), t.c, cyc, false⟩
  have HJ : Hid (∀ W, Kp V0 W → BJ W (w.heap.size + 1 + 1) ⟨n, rel, wrap64 (rel + t.p), t.c, cyc, false⟩) := fun W k => JV.kp k
  have HS : Hid (W0.heap.size = w.heap.size + 1 + 1) := hs
  have HC : Hid (∀ W, Calls Try.prog 10 #[.int .i64 n, .agg #[.int .i64 t.p, .int .i64 t.c, .slice t.sa t.sl t.sc, .slice t.da t.dl t.dc], .int .i64 rel, .int .i64 cyc] W fun e w' => e = .returned (.agg #[.int .i64 n, .int .i64 rel, .int .i64 (wrap64 (rel + t.p)), .int .i64 t.c, .int .i64 cyc, .bool false]) ∧ Kp W w') := fun W => new_any n t rel cyc W
  have EQ : ∀ W, (Op.equalIn 10000 28 (.agg #[.int .i64 n, .int .i64 rel, .int .i64 (wrap64 (rel + t.p)), .int .i64 t.c, .int .i64 cyc, .bool false]) (.agg #[.int .i64 n, .int .i64 rel, .int .i64 (wrap64 (rel + t.p)), .int .i64 t.c, .int .i64 cyc, .bool false])).run Try.prog W = .ok true W := fun W => eqJ ⟨n, rel, wrap64 (rel + t.p), t.c, cyc, false⟩ W
  obtain ⟨x0, x1, x2, x3⟩ := X0.all
  unfold Tk.v
  clear X0 K0 JV hs hc
  cases gd with
  | false =>
    clear EQ HJ HC HV
    go_enter Try.func3, Try.ntmps3
    go_wp2_with fail
    rw [← HW.out]
    refine HN.out.mono ?_
    rintro e w1 ⟨rfl, rfl⟩
    go_wp2_with fail
    refine (janswers_any _).mono ?_
    rintro e w2 ⟨rfl, k2⟩
    go_wp2
    go_ret
    exact ⟨rfl, HE.out _ (HK.out.trans k2)⟩
  | true =>
    go_enter Try.func3, Try.ntmps3
    go_wp2_with fail
    rw [← HW.out]
    clear HW
    refine HN.out.mono ?_
    rintro e w1 ⟨rfl, rfl⟩
    go_wp2_with fail
    rw [HS.out, ← HV.out]
    clear HV HN
    clear x0 x1 x2 x3
    obtain ⟨x0, x1, x2, x3⟩ := (HX.out _ KV.out).all
    obtain ⟨j0, j1, j2, j3, j4, j5⟩ := (HJ.out _ (Kp.refl _)).all
    go_region_held3 (fun w' => w'.cell? ⟨w.heap.size, 0, none⟩ = some (.int .i64 t.p) ∧ w'.cell? ⟨w.heap.size, 1, none⟩ = some (.int .i64 t.c) ∧ w'.cell? ⟨w.heap.size, 2, none⟩ = some (.slice t.sa t.sl t.sc) ∧ w'.cell? ⟨w.heap.size, 3, none⟩ = some (.slice t.da t.dl t.dc) ∧ w'.cell? ⟨w.heap.size + 1 + 1, 0, none⟩ = some (.int .i64 n) ∧ w'.cell? ⟨w.heap.size + 1 + 1, 1, none⟩ = some (.int .i64 rel) ∧ w'.cell? ⟨w.heap.size + 1 + 1, 2, none⟩ = some (.int .i64 (wrap64 (rel + t.p))) ∧ w'.cell? ⟨w.heap.size + 1 + 1, 3, none⟩ = some (.int .i64 t.c) ∧ w'.cell? ⟨w.heap.size + 1 + 1, 4, none⟩ = some (.int .i64 cyc) ∧ w'.cell? ⟨w.heap.size + 1 + 1, 5, none⟩ = some (.bool false)) (go_keep) (first
      | (go_at_call 9; refine (janswers_any _).mono ?_; rintro e w2 ⟨rfl, k2⟩; have K2 : Kp V0 w2 := (by first | exact (kp_drew _).trans k2 | exact k2); clear k2; obtain ⟨y0, y1, y2, y3⟩ := (HX.out _ (KV.out.trans K2)).all; obtain ⟨i0, i1, i2, i3, i4, i5⟩ := (HJ.out _ K2).all)
      | (go_at_call 10; refine (HC.out _).mono ?_; rintro e w3 ⟨rfl, k3⟩; have K3 : Kp V0 w3 := (by first | exact (K2.trans (kp_drew _)).trans k3 | exact K2.trans k3); clear k3; obtain ⟨y0, y1, y2, y3⟩ := (HX.out _ (KV.out.trans K3)).all; obtain ⟨i0, i1, i2, i3, i4, i5⟩ := (HJ.out _ K3).all)
      | fail)
    all_goals
      go_wp2
      go_ret
      exact ⟨rfl, HE.out _ ((HK.out.trans KV.out).trans K3)⟩

theorem jobNew_walk (n : Int) (t : Tk) (rel cyc : Int) (w : World) (_ : (Lit.int .i64 n).wf = true) (_ : TAt w t) (_ : (Lit.int .i64 rel).wf = true) (_ : (Lit.int .i64 cyc).wf = true) :
    Calls Try.prog 3 #[.int .i64 n, t.v, .int .i64 rel, .int .i64 cyc] w fun e w' => e = .returned (.bool true) ∧ Below w.heap.size w w' :=
  jobNew_go n t rel cyc w

end Go.Proofs.Ytfkefhilkfnffaa.JB
