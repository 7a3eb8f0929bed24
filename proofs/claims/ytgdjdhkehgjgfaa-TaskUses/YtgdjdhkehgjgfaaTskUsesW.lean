/- What any task uses, and needs. -/
import Derived.Test.YtgdjdhkehgjgfaaTskAns
namespace Go.Proofs.Ytgdjdhkehgjgfaa.TK
open Go.ChangeShapes Go.WideShapes Go.ChangeAt Go.RowKit Go.Proofs.Ytgdjdhkehgjgfaa.AR Go.Proofs.Ytgdjdhkehgjgfaa.TB

set_option maxHeartbeats 8000000 in
theorem taskUses_walk (t : Tk) (n : Int) (w : World) (h : TAt w t) (_ : (Lit.int .i64 n).wf = true) :
    Calls Try.prog 4 #[t.v, .int .i64 n] w fun e w' => e = .returned (.bool true) ∧ Below w.heap.size w w' := by
  have HE : Hid (∀ w', Kp w w' → Below w.heap.size w w') := fun w' q => q
  have H1 : Hid (∀ W, Kp w W → Calls Try.prog 12 #[t.v, .int .i64 n] W fun e w'' => e = .returned (.bool (usB t n)) ∧ Kp W w'') := fun W k => uses_any t n W (h.kept k)
  have H2 : Hid (∀ W, Kp w W → Calls Try.prog 13 #[t.v, .int .i64 n] W fun e w'' => e = .returned (.bool (usB t n)) ∧ Kp W w'') := fun W k => ruses_any t n W (h.kept k)
  have H3 : Hid (∀ W, Kp w W → Calls Try.prog 14 #[t.v, .int .i64 n] W fun e w'' => e = .returned (.bool (ndB t n)) ∧ Kp W w'') := fun W k => needs_any t n W (h.kept k)
  have H4 : Hid (∀ W, Kp w W → Calls Try.prog 15 #[t.v, .int .i64 n] W fun e w'' => e = .returned (.bool (ndB t n)) ∧ Kp W w'') := fun W k => rneeds_any t n W (h.kept k)
  obtain ⟨W0, HW⟩ : ∃ W0, Hid (W0 = w.alloc (.cells #[.int .i64 t.p, .int .i64 t.c, .slice t.sa t.sl t.sc, .slice t.da t.dl t.dc] 29)) := ⟨_, rfl⟩
  have K0 : Kp w W0 := by rw [HW.out]; exact (Kp.refl _).alloc _
  have X0 : TB4 W0 w.heap.size t := by rw [HW.out]; exact b4_new (Kp.refl _)
  unfold Tk.v at *
  generalize usB t n = b1 at *
  generalize ndB t n = b2 at *
  clear h
  obtain ⟨x0, x1, x2, x3⟩ := X0.all
  go_enter Try.func4, Try.ntmps4
  go_wp2_with fail
  rw [← HW.out]
  clear HW
  go_region_held3 (fun w' => w'.cell? ⟨w.heap.size, 0, none⟩ = some (.int .i64 t.p) ∧ w'.cell? ⟨w.heap.size, 1, none⟩ = some (.int .i64 t.c) ∧ w'.cell? ⟨w.heap.size, 2, none⟩ = some (.slice t.sa t.sl t.sc) ∧ w'.cell? ⟨w.heap.size, 3, none⟩ = some (.slice t.da t.dl t.dc)) (go_keep) (first
    | (go_at_call 9; refine (tanswers_any _).mono ?_; rintro e w3 ⟨rfl, k3⟩; have K3 : Kp W0 w3 := (by first | exact (tkp_drew _).trans k3 | exact k3); clear k3; obtain ⟨z0, z1, z2, z3⟩ := (X0.kp K3).all)
    | (go_at_call 12; refine (H1.out _ (by first | exact (K0.trans K3).trans (tkp_drew _) | exact K0.trans K3)).mono ?_; rintro e w3 ⟨rfl, k3⟩; have K3 : Kp W0 w3 := (by first | exact (K3.trans (tkp_drew _)).trans k3 | exact K3.trans k3); clear k3; obtain ⟨z0, z1, z2, z3⟩ := (X0.kp K3).all)
    | (go_at_call 13; refine (H2.out _ (by first | exact (K0.trans K3).trans (tkp_drew _) | exact K0.trans K3)).mono ?_; rintro e w3 ⟨rfl, k3⟩; have K3 : Kp W0 w3 := (by first | exact (K3.trans (tkp_drew _)).trans k3 | exact K3.trans k3); clear k3; obtain ⟨z0, z1, z2, z3⟩ := (X0.kp K3).all)
    | (go_at_call 14; refine (H3.out _ (by first | exact (K0.trans K3).trans (tkp_drew _) | exact K0.trans K3)).mono ?_; rintro e w3 ⟨rfl, k3⟩; have K3 : Kp W0 w3 := (by first | exact (K3.trans (tkp_drew _)).trans k3 | exact K3.trans k3); clear k3; obtain ⟨z0, z1, z2, z3⟩ := (X0.kp K3).all)
    | (go_at_call 15; refine (H4.out _ (by first | exact (K0.trans K3).trans (tkp_drew _) | exact K0.trans K3)).mono ?_; rintro e w3 ⟨rfl, k3⟩; have K3 : Kp W0 w3 := (by first | exact (K3.trans (tkp_drew _)).trans k3 | exact K3.trans k3); clear k3; obtain ⟨z0, z1, z2, z3⟩ := (X0.kp K3).all)
    | fail)
  all_goals
    go_wp2
    go_ret
    exact ⟨by simp, HE.out _ (K0.trans K3)⟩

end Go.Proofs.Ytgdjdhkehgjgfaa.TK
