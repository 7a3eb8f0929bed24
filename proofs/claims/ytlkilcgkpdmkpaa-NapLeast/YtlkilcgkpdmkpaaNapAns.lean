/- What the statements ask of every program: that it answers at all. -/
import Derived.Test.YtlkilcgkpdmkpaaNapRef
namespace Go.Proofs.Ytlkilcgkpdmkpaa.NP
open Go.ChangeShapes Go.WideShapes Go.ChangeAt Go.RowKit Go.Proofs.Ytlkilcgkpdmkpaa.AR Go.Proofs.Ytlkilcgkpdmkpaa.TB

theorem cw_small {power enter exit enterE exitE stay : Int} (h1 : 0 ≤ power ∧ power ≤ 65536) (h2 : 0 ≤ enter ∧ enter ≤ 256) (h3 : 0 ≤ exit ∧ exit ≤ 256) (h4 : 0 ≤ enterE ∧ enterE ≤ 65536) (h5 : 0 ≤ exitE ∧ exitE ≤ 65536) (h6 : 0 ≤ stay ∧ stay ≤ 1073741824) :
    cw power enter exit enterE exitE stay = enterE + exitE + power * max 0 (stay - enter - exit) := by
  unfold cw slpt
  rw [IntWalk.wrap64_in (enterE + exitE) (by omega), IntWalk.wrap64_in (stay - enter) (by omega), IntWalk.wrap64_in (stay - enter - exit) (by omega)]
  have m := mul_bound (a := power) (b := max 0 (stay - enter - exit)) (A := 65536) (B := 1073741824) h1.1 h1.2 (by omega) (by omega)
  rw [IntWalk.wrap64_in (power * max 0 (stay - enter - exit)) (by omega), IntWalk.wrap64_in _ (by omega)]

/-- the two states that are asked -/
abbrev ans2 : List (List Int) := [[5, 0, 0, 0, 0, 1], [1, 0, 0, 3, 0, 2]]

theorem ans_c0 : ck ans2 2 0 = 10 := by
  unfold ck
  rw [cw_small] <;> first | (simp [fd]; done) | (simp [fd]; omega)
theorem ans_c1 : ck ans2 2 1 = 5 := by
  unfold ck
  rw [cw_small] <;> first | (simp [fd]; done) | (simp [fd]; omega)
theorem ans_cw : cw 1 0 0 3 0 2 = 5 := ans_c1

theorem ans_b2 : bst ans2 2 2 = (1, true) := by
  have h1 : bst ans2 2 1 = (0, true) := bst_first (k := 0) (b := 0) rfl (by simp [fd])
  exact bst_turn h1 (by simp [fd]) (by rw [ans_c0, ans_c1]; omega)
theorem ans_b0 : bst ans2 0 2 = (0, false) := by
  have h1 : bst ans2 0 1 = (0, false) := bst_late (k := 0) rfl (by simp [fd])
  exact bst_late h1 (by simp [fd])

theorem ans_rec {w W W' : World} {o o2 : Obj} (e : W = ((w.alloc o).alloc (.cells #[.int .i64 5, .int .i64 0, .int .i64 0, .int .i64 0, .int .i64 0, .int .i64 1, .int .i64 1, .int .i64 0, .int .i64 0, .int .i64 3, .int .i64 0, .int .i64 2] 23)).alloc o2) (k : Kp W W') :
    RecAt W' 6 (some ⟨w.heap.size + 1, 0, none⟩) 2 ans2 := by
  subst e
  have k' : Kp ((w.alloc o).alloc (.cells #[.int .i64 5, .int .i64 0, .int .i64 0, .int .i64 0, .int .i64 0, .int .i64 1, .int .i64 1, .int .i64 0, .int .i64 0, .int .i64 3, .int .i64 0, .int .i64 2] 23)) W' := ((Kp.refl _).alloc _).trans k
  refine ⟨rfl, ?_, .inr ⟨w.heap.size + 1, 0, rfl, ?_, ?_⟩⟩
  · intro r hr
    simp at hr
    rcases hr with rfl | rfl
    · refine ⟨rfl, fun y hy => ?_⟩
      simp at hy
      unfold I64
      omega
    · refine ⟨rfl, fun y hy => ?_⟩
      simp at hy
      unfold I64
      omega
  · have := k'.size
    simp at this
    omega
  · intro i j hi hj
    rw [k'.cell (by simp)]
    match i, hi, j, hj with
    | 0, _, 0, _ => simp
    | 0, _, 1, _ => simp
    | 0, _, 2, _ => simp
    | 0, _, 3, _ => simp
    | 0, _, 4, _ => simp
    | 0, _, 5, _ => simp
    | 1, _, 0, _ => simp
    | 1, _, 1, _ => simp
    | 1, _, 2, _ => simp
    | 1, _, 3, _ => simp
    | 1, _, 4, _ => simp
    | 1, _, 5, _ => simp

theorem ans_box {w W W' : World} {c0 c1 c2 c3 c4 c5 c6 c7 c8 : Value} {o o2 : Obj} (e : W = ((w.alloc o).alloc o2).alloc (.cells #[c0, c1, c2, c3, c4, c5, c6, c7, c8] 32)) (k : Kp W W') :
    W'.cell? ⟨w.heap.size + 2, 0, none⟩ = some c0 ∧ W'.cell? ⟨w.heap.size + 2, 1, none⟩ = some c1 ∧ W'.cell? ⟨w.heap.size + 2, 2, none⟩ = some c2 ∧ W'.cell? ⟨w.heap.size + 2, 3, none⟩ = some c3 ∧ W'.cell? ⟨w.heap.size + 2, 4, none⟩ = some c4 ∧
      W'.cell? ⟨w.heap.size + 2, 5, none⟩ = some c5 ∧ W'.cell? ⟨w.heap.size + 2, 6, none⟩ = some c6 ∧ W'.cell? ⟨w.heap.size + 2, 7, none⟩ = some c7 ∧ W'.cell? ⟨w.heap.size + 2, 8, none⟩ = some c8 := by
  subst e
  have q : ((w.alloc o).alloc o2).heap.size = w.heap.size + 2 := by simp only [World.size_alloc]
  have := box_cells (w := (w.alloc o).alloc o2) k
  rw [q] at this
  exact this

theorem ans_best {w W W' : World} {o o2 : Obj} (e : W = ((w.alloc o).alloc (.cells #[.int .i64 5, .int .i64 0, .int .i64 0, .int .i64 0, .int .i64 0, .int .i64 1, .int .i64 1, .int .i64 0, .int .i64 0, .int .i64 3, .int .i64 0, .int .i64 2] 23)).alloc o2) (k : Kp W W') (aL : Option Addr) (lL cL cS : Nat) (aD : Option Addr) (lD cD : Nat) (idle crit sw swe sems hor : Int) :
    (Calls Try.prog 12 #[pv aL lL cL (some ⟨w.heap.size + 1, 0, none⟩) 2 cS aD lD cD idle crit sw swe sems hor, .int .i64 2] W' fun e w' => e = .returned (.tuple #[.int .i64 1, .bool true]) ∧ Kp W' w') ∧
    (Calls Try.prog 12 #[pv aL lL cL (some ⟨w.heap.size + 1, 0, none⟩) 2 cS aD lD cD idle crit sw swe sems hor, .int .i64 0] W' fun e w' => e = .returned (.tuple #[.int .i64 0, .bool false]) ∧ Kp W' w') := by
  have q2 := best_any aL lL cL (some ⟨w.heap.size + 1, 0, none⟩) 2 cS ans2 aD lD cD idle crit sw swe sems hor 2 W' (ans_rec e k) (by omega)
  have q0 := best_any aL lL cL (some ⟨w.heap.size + 1, 0, none⟩) 2 cS ans2 aD lD cD idle crit sw swe sems hor 0 W' (ans_rec e k) (by omega)
  rw [ans_b2] at q2
  rw [ans_b0] at q0
  exact ⟨q2, q0⟩

theorem ans_cost (w : World) : Calls Try.prog 9 #[.agg #[.int .i64 1, .int .i64 0, .int .i64 0, .int .i64 3, .int .i64 0, .int .i64 2], .int .i64 2] w fun e w' => e = .returned (.int .i64 5) ∧ Kp w w' := by
  have q := cost_any 1 0 0 3 0 2 2 w
  rw [ans_cw] at q
  exact q

set_option maxHeartbeats 4000000 in
theorem nanswers_any (w : World) :
    Calls Try.prog 8 #[] w fun e w' => e = .returned (.bool true) ∧ Kp w w' := by
  obtain ⟨W0, HW⟩ : ∃ W0, Hid (W0 = ((w.alloc (.cells #[.int .i64 1, .int .i64 0] 41)).alloc (.cells #[.int .i64 5, .int .i64 0, .int .i64 0, .int .i64 0, .int .i64 0, .int .i64 1, .int .i64 1, .int .i64 0, .int .i64 0, .int .i64 3, .int .i64 0, .int .i64 2] 23)).alloc (.cells #[.slice (some ⟨w.heap.size, 0, none⟩) 1 1, .slice (some ⟨w.heap.size + 1, 0, none⟩) 2 2, .slice none 0 0, .int .i64 9, .int .i64 0, .int .i64 0, .int .i64 0, .int .i64 0, .int .i64 1] 32)) := ⟨_, rfl⟩
  have HK : Hid (Kp w W0) := by show Kp _ _; rw [HW.out]; exact (((Kp.refl _).alloc _).alloc _).alloc _
  have HB : Hid (∀ W', Kp W0 W' → _) := fun W' k => ans_box HW.out k
  have HA : Hid (∀ W', Kp W0 W' → ∀ aL lL cL cS aD lD cD idle crit sw swe sems hor, _) := fun W' k aL lL cL cS aD lD cD idle crit sw swe sems hor => ans_best HW.out k aL lL cL cS aD lD cD idle crit sw swe sems hor
  have HR : Hid (∀ W', Kp W0 W' → RecAt W' 6 (some ⟨w.heap.size + 1, 0, none⟩) 2 ans2) := fun W' k => ans_rec HW.out k
  unfold pv at *
  go_enter Try.func8, Try.ntmps8
  go_wp2_with fail
  rw [← HW.out]
  clear HW
  obtain ⟨d0, d1, d2, d3, d4, d5, d6, d7, d8⟩ := HB.out _ (Kp.refl W0)
  go_wp2_with fail
  refine (HA.out _ (Kp.refl W0) _ _ _ _ _ _ _ _ _ _ _ _ _).1.mono ?_
  rintro e w1 ⟨rfl, k1⟩
  clear d0 d1 d2 d3 d4 d5 d6 d7 d8
  obtain ⟨d0, d1, d2, d3, d4, d5, d6, d7, d8⟩ := HB.out _ k1
  go_wp2_with fail
  refine (HA.out _ k1 _ _ _ _ _ _ _ _ _ _ _ _ _).2.mono ?_
  rintro e w2 ⟨rfl, k2⟩
  have K2 := k1.trans k2
  clear d0 d1 d2 d3 d4 d5 d6 d7 d8 k1 k2
  obtain ⟨d0, d1, d2, d3, d4, d5, d6, d7, d8⟩ := HB.out _ K2
  obtain ⟨_, hc⟩ := fd_in (k := 1) (HR.out _ K2) (by omega) (Kp.refl _)
  have e0 := hc 0 (by omega)
  have e1 := hc 1 (by omega)
  have e2 := hc 2 (by omega)
  have e3 := hc 3 (by omega)
  have e4 := hc 4 (by omega)
  have e5 := hc 5 (by omega)
  clear hc HR
  simp [fd] at e0 e1 e2 e3 e4 e5
  go_wp2_with fail
  refine (ans_cost _).mono ?_
  rintro e w3 ⟨rfl, k3⟩
  go_wp2
  go_ret
  exact ⟨rfl, HK.out.trans (K2.trans k3)⟩

end Go.Proofs.Ytlkilcgkpdmkpaa.NP
