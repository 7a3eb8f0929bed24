/- What the statements ask of every program: that it answers at all. -/
import Derived.Test.YtoinbdjjimfdgaaMetAdd
import Derived.BigRegion
namespace Go.Proofs.Ytoinbdjjimfdgaa.MT
open Go.ChangeShapes Go.WideShapes Go.ChangeAt Go.RowKit Go.Proofs.Ytoinbdjjimfdgaa.AR Go.Proofs.Ytoinbdjjimfdgaa.TB

theorem no_rows (w : World) (k : Nat) (ao : Option Addr) : RecAt w k ao 0 [] := ⟨rfl, fun r hr => by simp at hr, .inl rfl⟩

theorem ans_level {w w' : World} (k : Kp (w.alloc (.cells #[.int .i64 1, .int .i64 5] 47)) w') : Mach w' (some ⟨w.heap.size, 0, none⟩) 1 [[1, 5]] none 0 [] none 0 [] := by
  refine ⟨⟨rfl, ?_, .inr ⟨w.heap.size, 0, rfl, ?_, ?_⟩⟩, no_rows _ _ _, no_rows _ _ _, by omega, by omega, by omega⟩
  · intro r hr
    simp at hr
    subst hr
    refine ⟨rfl, fun y hy => ?_⟩
    simp at hy
    unfold I64
    omega
  · have := k.size
    simp at this
    omega
  · intro i j hi hj
    obtain rfl : i = 0 := by omega
    rw [k.cell (by simp)]
    match j, hj with
    | 0, _ => simp
    | 1, _ => simp

theorem cost_ans1 : cost 1 [[1, 5]] 0 [] 3 0 1 0 0 2 = 10 := by
  have e : sel 1 [[1, 5]] 0 1 = 5 := by decide
  unfold cost
  rw [if_pos rfl, e]
  exact IntWalk.wrap64_in _ (by omega)

theorem cost_ans2 : cost 1 [[1, 5]] 0 [] 3 0 2 2 0 0 = 6 := by
  unfold cost
  rw [if_neg (by omega), if_pos rfl]
  exact IntWalk.wrap64_in _ (by omega)

theorem bump_ans : bump 1 10 0 0 = 10 ∧ bump 1 10 1 0 = 0 ∧ bump 1 10 2 0 = 0 ∧ bump 1 10 3 0 = 0 ∧ bump 2 6 0 10 = 10 ∧ bump 2 6 1 0 = 6 ∧ bump 2 6 2 0 = 0 ∧ bump 2 6 3 0 = 0 := by
  refine ⟨?_, rfl, rfl, rfl, rfl, ?_, rfl, rfl⟩
  · unfold bump; rw [if_pos (by decide)]; exact IntWalk.wrap64_in _ (by omega)
  · unfold bump; rw [if_pos (by decide)]; exact IntWalk.wrap64_in _ (by omega)

theorem ans_add {w w' : World} (k : Kp (w.alloc (.cells #[.int .i64 1, .int .i64 5] 47)) w') (a b c d kind frm len arg task cyc : Int) :
    Calls Try.prog 12 #[mv a b c d, pv (some ⟨w.heap.size, 0, none⟩) 1 1 none 0 0 none 0 0 3 0 0 0 0 0, iv kind frm len arg task cyc] w' fun e w'' => e = .returned (mv (bump kind (cost 1 [[1, 5]] 0 [] 3 0 kind len arg cyc) 0 a) (bump kind (cost 1 [[1, 5]] 0 [] 3 0 kind len arg cyc) 1 b) (bump kind (cost 1 [[1, 5]] 0 [] 3 0 kind len arg cyc) 2 c) (bump kind (cost 1 [[1, 5]] 0 [] 3 0 kind len arg cyc) 3 d)) ∧ Kp w' w'' :=
  add_any a b c d (some ⟨w.heap.size, 0, none⟩) 1 1 [[1, 5]] none 0 0 [] none 0 0 [] 3 0 0 0 0 0 kind frm len arg task cyc w' (ans_level k)

theorem ans_total (w : World) : Calls Try.prog 15 #[mv 10 6 0 0] w fun e w' => e = .returned (.int .i64 16) ∧ Kp w w' := by
  have := total_any 10 6 0 0 w
  have e : tot 10 6 0 0 = 16 := by unfold tot; rw [IntWalk.wrap64_in (10 + 6) (by omega), IntWalk.wrap64_in (10 + 6 + 0) (by omega), IntWalk.wrap64_in (10 + 6 + 0 + 0) (by omega)]; rfl
  rw [e] at this
  exact this

theorem new4 {X w' : World} {a b c d : Int} {t : TypeId} (k : Kp (X.alloc (.cells #[.int .i64 a, .int .i64 b, .int .i64 c, .int .i64 d] t)) w') : B4 w' X.heap.size t a b c d := (b4_mk (heap_alloc_at X _)).kept k

theorem ans_box {w W W' : World} {c0 c1 c2 c3 c4 c5 c6 c7 c8 : Value} {o : Obj} (e : W = (w.alloc o).alloc (.cells #[c0, c1, c2, c3, c4, c5, c6, c7, c8] 26)) (k : Kp W W') :
    W'.cell? ⟨w.heap.size + 1, 0, none⟩ = some c0 ∧ W'.cell? ⟨w.heap.size + 1, 1, none⟩ = some c1 ∧ W'.cell? ⟨w.heap.size + 1, 2, none⟩ = some c2 ∧ W'.cell? ⟨w.heap.size + 1, 3, none⟩ = some c3 ∧ W'.cell? ⟨w.heap.size + 1, 4, none⟩ = some c4 ∧
      W'.cell? ⟨w.heap.size + 1, 5, none⟩ = some c5 ∧ W'.cell? ⟨w.heap.size + 1, 6, none⟩ = some c6 ∧ W'.cell? ⟨w.heap.size + 1, 7, none⟩ = some c7 ∧ W'.cell? ⟨w.heap.size + 1, 8, none⟩ = some c8 := by
  subst e
  have q : (w.alloc o).heap.size = w.heap.size + 1 := by simp only [World.size_alloc]
  have := box_cells (w := w.alloc o) k
  rw [q] at this
  exact this

set_option maxHeartbeats 4000000 in
theorem manswers_any (w : World) :
    Calls Try.prog 9 #[] w fun e w' => e = .returned (.bool true) ∧ Kp w w' := by
  obtain ⟨W0, HW⟩ : ∃ W0, Hid (W0 = (w.alloc (.cells #[.int .i64 1, .int .i64 5] 47)).alloc (.cells #[.slice (some ⟨w.heap.size, 0, none⟩) 1 1, .slice none 0 0, .slice none 0 0, .int .i64 3, .int .i64 0, .int .i64 0, .int .i64 0, .int .i64 0, .int .i64 0] 26)) := ⟨_, rfl⟩
  have HL : Hid (Kp (w.alloc (.cells #[.int .i64 1, .int .i64 5] 47)) W0) := by show Kp _ _; rw [HW.out]; exact (Kp.refl _).alloc _
  have HK : Hid (Kp w W0) := by show Kp _ _; rw [HW.out]; exact ((Kp.refl _).alloc _).alloc _
  obtain ⟨d0, d1, d2, d3, d4, d5, d6, d7, d8⟩ := ans_box HW.out (Kp.refl W0)
  have HB : Hid (∀ W', Kp W0 W' → _) := fun W' k => ans_box HW.out k
  have HA : Hid (∀ W', Kp W0 W' → ∀ a b c d kind frm len arg task cyc, _) := fun W' k a b c d kind frm len arg task cyc => ans_add (HL.out.trans k) a b c d kind frm len arg task cyc
  unfold pv iv mv at *
  go_enter Try.func9, Try.ntmps9
  go_wp2_with fail
  rw [← HW.out]
  clear HW
  have s0 : Hid (w.heap.size ≤ W0.heap.size) := HK.out.size
  have n0 := World.new_ne W0 ⟨w.heap.size + 1, 0, none⟩ d0
  go_region_held3 (fun w' => w'.cell? ⟨w.heap.size + 1, 0, none⟩ = some (.slice (some ⟨w.heap.size, 0, none⟩) 1 1) ∧ w'.cell? ⟨w.heap.size + 1, 1, none⟩ = some (.slice none 0 0) ∧ w'.cell? ⟨w.heap.size + 1, 2, none⟩ = some (.slice none 0 0) ∧ w'.cell? ⟨w.heap.size + 1, 3, none⟩ = some (.int .i64 3) ∧ w'.cell? ⟨w.heap.size + 1, 4, none⟩ = some (.int .i64 0) ∧ w'.cell? ⟨w.heap.size + 1, 5, none⟩ = some (.int .i64 0) ∧ w'.cell? ⟨w.heap.size + 1, 6, none⟩ = some (.int .i64 0) ∧ w'.cell? ⟨w.heap.size + 1, 7, none⟩ = some (.int .i64 0) ∧ w'.cell? ⟨w.heap.size + 1, 8, none⟩ = some (.int .i64 0)) (go_keep) (first
    | (go_at_call 12; refine (HA.out _ ?_ _ _ _ _ _ _ _ _ _ _).mono ?_; (first | exact K3 | exact K3.alloc _ | exact kp_drew _ | exact (kp_drew _).alloc _ | exact Kp.refl _); rintro e w3 ⟨he, k3⟩; simp only [cost_ans1, cost_ans2, bump_ans] at he; subst he; have K3 : Kp W0 w3 := (by first | exact K3.trans k3 | exact (K3.alloc _).trans k3 | exact (kp_drew _).trans k3 | exact ((kp_drew _).alloc _).trans k3); (first | have N3 := N3.kept k3 | have N3 : B4 w3 W0.heap.size _ _ _ _ _ := new4 k3 | have N3 := new4 k3 | have N3 := new4 ((kp_drew _).trans k3) | skip); clear k3; obtain ⟨z0, z1, z2, z3, z4, z5, z6, z7, z8⟩ := HB.out _ K3; have n3 := World.new_ne w3 ⟨w.heap.size + 1, 0, none⟩ z0; have s3 : Hid (w.heap.size ≤ w3.heap.size) := (HK.out.trans K3).size; (first | (have N4 := N3; obtain ⟨_, lm, m0, m1, m2, m3, g0, g1, g2, g3⟩ := N4) | skip))
    | fail)
  all_goals
    clear z0 z1 z2 z3 z4 z5 z6 z7 z8
    go_wp2_with (first
      | (go_at_call 15; refine (ans_total _).mono ?_; rintro e w4 ⟨rfl, k4⟩)
      | fail)
    go_ret
    refine ⟨rfl, Kp.trans ?_ k4⟩
    first
      | exact (HK.out.trans K3).alloc _
      | exact ((((HK.out.trans K3).setCell (p := ⟨_, 0, none⟩) (Hid.out (by assumption)) _).setCell (p := ⟨_, 1, none⟩) (Hid.out (by assumption)) _).setCell (p := ⟨_, 2, none⟩) (Hid.out (by assumption)) _).setCell (p := ⟨_, 3, none⟩) (Hid.out (by assumption)) _

end Go.Proofs.Ytoinbdjjimfdgaa.MT
