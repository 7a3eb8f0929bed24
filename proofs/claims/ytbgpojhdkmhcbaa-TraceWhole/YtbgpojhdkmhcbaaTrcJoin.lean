/- What Join answers. -/
import Derived.Test.YtbgpojhdkmhcbaaTrcFun
namespace Go.Proofs.Ytbgpojhdkmhcbaa.TC
open Go.ChangeShapes Go.WideShapes Go.ChangeAt Go.RowKit Go.Proofs.Ytbgpojhdkmhcbaa.AR

/-- a block that has one interval -/
structure B6 (w : World) (g : Nat) (x : I6) : Prop where
  blk : w.heap[g]? = some (.cells #[.int .i64 x.k, .int .i64 x.f, .int .i64 x.l, .int .i64 x.a, .int .i64 x.t, .int .i64 x.c] 27 (0, 0))

theorem B6.lt {w : World} {g : Nat} {x : I6} (h : B6 w g x) : g < w.heap.size := lt_blk h.blk
theorem B6.c6 {w : World} {g : Nat} {x : I6} (h : B6 w g x) : C6 w g 0 x := c6_block h.blk
theorem B6.cl {w : World} {g : Nat} {x : I6} (h : B6 w g x) : w.cell? ⟨g, 0, none⟩ = some (.int .i64 x.k) ∧ w.cell? ⟨g, 1, none⟩ = some (.int .i64 x.f) ∧ w.cell? ⟨g, 2, none⟩ = some (.int .i64 x.l) ∧ w.cell? ⟨g, 3, none⟩ = some (.int .i64 x.a) ∧ w.cell? ⟨g, 4, none⟩ = some (.int .i64 x.t) ∧ w.cell? ⟨g, 5, none⟩ = some (.int .i64 x.c) := by
  have q := h.c6
  obtain ⟨d0, d1, d2, d3, d4, d5, _⟩ := q
  simp only [Nat.zero_add] at d1 d2 d3 d4 d5
  exact ⟨d0, d1, d2, d3, d4, d5⟩
theorem B6.fr {w : World} {g : Nat} {x : I6} (h : B6 w g x) (j : Nat) : w.frozen? ⟨g, j, none⟩ = false := by simp [World.frozen?, h.blk]
theorem B6.kept {A : Nat → Prop} {w w' : World} {g : Nat} {x : I6} (h : B6 w g x) (s : Step A w w') (hA : ¬ A g) : B6 w' g x := ⟨(s.block g h.lt hA).trans h.blk⟩
theorem B6.kp {w w' : World} {g : Nat} {x : I6} (h : B6 w g x) (s : Kp w w') : B6 w' g x := h.kept s (fun q => q)
theorem b6_new {w w' : World} {x : I6} (s : Kp (w.alloc (.cells #[.int .i64 x.k, .int .i64 x.f, .int .i64 x.l, .int .i64 x.a, .int .i64 x.t, .int .i64 x.c] 27)) w') : B6 w' w.heap.size x :=
  B6.kp ⟨alloc_at w _⟩ s

theorem three_new {w W : World} {x y : I6} (e : W = ((w.alloc (.cells #[.int .i64 x.k, .int .i64 x.f, .int .i64 x.l, .int .i64 x.a, .int .i64 x.t, .int .i64 x.c] 27)).alloc (.cells #[.int .i64 y.k, .int .i64 y.f, .int .i64 y.l, .int .i64 y.a, .int .i64 y.t, .int .i64 y.c] 27)).alloc (.cells #[.int .i64 0, .int .i64 0, .int .i64 0, .int .i64 0, .int .i64 0, .int .i64 0] 27)) :
    Kp w W ∧ B6 W w.heap.size x ∧ B6 W (w.heap.size + 1) y ∧ B6 W (w.heap.size + 2) zI := by
  subst e
  refine ⟨(((Step.refl _ w).alloc _).alloc _).alloc _, b6_new (((Step.refl _ _).alloc _).alloc _), ?_, ?_⟩
  · have q := b6_new (w := w.alloc (.cells #[.int .i64 x.k, .int .i64 x.f, .int .i64 x.l, .int .i64 x.a, .int .i64 x.t, .int .i64 x.c] 27)) (x := y) ((Step.refl _ _).alloc (.cells #[.int .i64 0, .int .i64 0, .int .i64 0, .int .i64 0, .int .i64 0, .int .i64 0] 27))
    simp only [World.size_alloc] at q
    exact q
  · have q := b6_new (w := (w.alloc (.cells #[.int .i64 x.k, .int .i64 x.f, .int .i64 x.l, .int .i64 x.a, .int .i64 x.t, .int .i64 x.c] 27)).alloc (.cells #[.int .i64 y.k, .int .i64 y.f, .int .i64 y.l, .int .i64 y.a, .int .i64 y.t, .int .i64 y.c] 27)) (x := zI) (Step.refl _ _)
    simp only [World.size_alloc] at q
    exact q

theorem results_join (tmps : Array Value) (w : World) (b : Nat) (x : I6) (ok : Bool) (hp : tmps[4]?.getD undef = .pointer (some ⟨b, 0, none⟩)) (hq : tmps[5]?.getD undef = .bool ok) (z : C6 w b 0 x) :
    (results Try.f16 tmps).run Try.prog w = .ok (.tuple #[x.v, .bool ok]) w := by
  obtain ⟨z0, z1, z2, z3, z4, z5, _⟩ := z
  simp only [Nat.zero_add] at z1 z2 z3 z4 z5
  simp [results, Try.results16, go_sem, hp, hq, z0, z1, z2, z3, z4, z5]

/-- an interval is stored into its block -/
theorem B6.set {w : World} {g : Nat} {x : I6} (h : B6 w g x) (y : I6) : B6 ((((((w.setCell ⟨g, 0, none⟩ (.int .i64 y.k)).setCell ⟨g, 1, none⟩ (.int .i64 y.f)).setCell ⟨g, 2, none⟩ (.int .i64 y.l)).setCell ⟨g, 3, none⟩ (.int .i64 y.a)).setCell ⟨g, 4, none⟩ (.int .i64 y.t)).setCell ⟨g, 5, none⟩ (.int .i64 y.c)) g y := by
  have s0 := heap_setCell_same w g 0 _ _ (.int .i64 y.k) h.blk
  have s1 := heap_setCell_same _ g 1 _ _ (.int .i64 y.f) s0
  have s2 := heap_setCell_same _ g 2 _ _ (.int .i64 y.l) s1
  have s3 := heap_setCell_same _ g 3 _ _ (.int .i64 y.a) s2
  have s4 := heap_setCell_same _ g 4 _ _ (.int .i64 y.t) s3
  have s5 := heap_setCell_same _ g 5 _ _ (.int .i64 y.c) s4
  exact ⟨s5.trans rfl⟩
theorem B6.setl {w : World} {g : Nat} {x : I6} (h : B6 w g x) (y : Int) : B6 (w.setCell ⟨g, 2, none⟩ (.int .i64 y)) g { x with l := y } := ⟨(heap_setCell_same w g 2 _ _ (.int .i64 y) h.blk).trans rfl⟩
theorem B6.setc {w : World} {g : Nat} {x : I6} (h : B6 w g x) (y : Int) : B6 (w.setCell ⟨g, 5, none⟩ (.int .i64 y)) g { x with c := y } := ⟨(heap_setCell_same w g 5 _ _ (.int .i64 y) h.blk).trans rfl⟩
theorem B6.setf {w : World} {g : Nat} {x : I6} (h : B6 w g x) (y : Int) : B6 (w.setCell ⟨g, 1, none⟩ (.int .i64 y)) g { x with f := y } := ⟨(heap_setCell_same w g 1 _ _ (.int .i64 y) h.blk).trans rfl⟩
theorem B6.other {w : World} {g : Nat} {x : I6} (h : B6 w g x) {p : Addr} (hp : g ≠ p.block) (v : Value) : B6 (w.setCell p v) g x := ⟨(heap_setCell_other w p g v hp).trans h.blk⟩

/-- six stores into a block that is new -/
theorem set6_new {w W : World} {g : Nat} (k : Kp w W) (hg : w.heap.size ≤ g) (y : I6) : Kp w ((((((W.setCell ⟨g, 0, none⟩ (.int .i64 y.k)).setCell ⟨g, 1, none⟩ (.int .i64 y.f)).setCell ⟨g, 2, none⟩ (.int .i64 y.l)).setCell ⟨g, 3, none⟩ (.int .i64 y.a)).setCell ⟨g, 4, none⟩ (.int .i64 y.t)).setCell ⟨g, 5, none⟩ (.int .i64 y.c)) :=
  (((((k.setNew (p := ⟨g, 0, none⟩) hg _).setNew (p := ⟨g, 1, none⟩) hg _).setNew (p := ⟨g, 2, none⟩) hg _).setNew (p := ⟨g, 3, none⟩) hg _).setNew (p := ⟨g, 4, none⟩) hg _).setNew (p := ⟨g, 5, none⟩) hg _

theorem B6.zero {w : World} {g : Nat} {x : I6} (h : B6 w g x) : B6 ((((((w.setCell ⟨g, 0, none⟩ (.int .i64 0)).setCell ⟨g, 1, none⟩ (.int .i64 0)).setCell ⟨g, 2, none⟩ (.int .i64 0)).setCell ⟨g, 3, none⟩ (.int .i64 0)).setCell ⟨g, 4, none⟩ (.int .i64 0)).setCell ⟨g, 5, none⟩ (.int .i64 0)) g zI := h.set zI
theorem zero6_new {w W : World} {g : Nat} (k : Kp w W) (hg : w.heap.size ≤ g) : Kp w ((((((W.setCell ⟨g, 0, none⟩ (.int .i64 0)).setCell ⟨g, 1, none⟩ (.int .i64 0)).setCell ⟨g, 2, none⟩ (.int .i64 0)).setCell ⟨g, 3, none⟩ (.int .i64 0)).setCell ⟨g, 4, none⟩ (.int .i64 0)).setCell ⟨g, 5, none⟩ (.int .i64 0)) := set6_new k hg zI
theorem kp_drewN (w : World) (n : Nat) : Kp w (w.drewN n) := (Step.refl _ w).drewN n

set_option maxHeartbeats 4000000 in
theorem join_any (x y : I6) (w : World) :
    Calls Try.prog 16 #[x.v, y.v] w fun e w' => e = .returned (.tuple #[(joined x y).v, .bool (joB x y)]) ∧ Kp w w' := by
  obtain ⟨W0, HW⟩ : ∃ W0, Hid (W0 = ((w.alloc (.cells #[.int .i64 x.k, .int .i64 x.f, .int .i64 x.l, .int .i64 x.a, .int .i64 x.t, .int .i64 x.c] 27)).alloc (.cells #[.int .i64 y.k, .int .i64 y.f, .int .i64 y.l, .int .i64 y.a, .int .i64 y.t, .int .i64 y.c] 27)).alloc (.cells #[.int .i64 0, .int .i64 0, .int .i64 0, .int .i64 0, .int .i64 0, .int .i64 0] 27)) := ⟨_, rfl⟩
  obtain ⟨k0, bx, yb, bz⟩ := three_new HW.out
  by_cases hal : x.k = y.k ∧ x.a = y.a ∧ x.t = y.t
  · obtain ⟨q1, q2, q3⟩ := hal
    have b1 : (x.k == y.k) = true := by simpa using q1
    have b2 : (x.a == y.a) = true := by simpa using q2
    have b3 : (x.t == y.t) = true := by simpa using q3
    cases hl : lastsB x.k
    · have HJ : Hid (joB x y = false) := joB_f.2 (fun q => lastsB_f.1 hl q.2.1)
      have HE : Hid (joined x y = zI) := by show _ = _; unfold joined; rw [HJ.out]; rfl
      rw [HJ.out, HE.out]
      clear HJ HE q1 q2 q3
      have HL : Hid (∀ W, Calls Try.prog 18 #[.int .i64 x.k] W fun e w' => e = .returned (.bool false) ∧ w' = W) := fun W => (lasting_any x.k W).mono (fun e w' q => ⟨by rw [← hl]; exact q.1, q.2.symm⟩)
      generalize HZ : I6.v zI = zv
      unfold I6.v
      go_enter Try.func16, Try.ntmps16
      go_wp2_with fail
      rw [← HW.out]
      have d0 := bx.c6.c0
      go_quiet (first | (go_at_call 18; exact Calls.quiet_of_same (HL.out _)) | fail)
      generalize hwq : World.drewN W0 _ = w2
      have k2 : Kp w w2 := by rw [← hwq]; exact k0.trans (kp_drewN _ _)
      have z2 : B6 w2 (w.heap.size + 1 + 1) zI := by rw [← hwq]; exact bz.kp (kp_drewN _ _)
      clear hwq d0
      obtain ⟨d0, d1, d2, d3, d4, d5⟩ := z2.cl
      have f0 := z2.fr 0
      have f1 := z2.fr 1
      have f2 := z2.fr 2
      have f3 := z2.fr 3
      have f4 := z2.fr 4
      have f5 := z2.fr 5
      go_wp2
      subst HZ
      exact bodyPost_ret (results_join _ _ (w.heap.size + 1 + 1) zI false rfl rfl z2.zero.c6) rfl ⟨rfl, zero6_new k2 (by omega)⟩
    · have HL : Hid (∀ W, Calls Try.prog 18 #[.int .i64 x.k] W fun e w' => e = .returned (.bool true) ∧ w' = W) := fun W => (lasting_any x.k W).mono (fun e w' q => ⟨by rw [← hl]; exact q.1, q.2.symm⟩)
      have HN : Hid (∀ W, Calls Try.prog 17 #[.agg #[.int .i64 x.k, .int .i64 x.f, .int .i64 x.l, .int .i64 x.a, .int .i64 x.t, .int .i64 x.c]] W fun e w' => e = .returned (.int .i64 (en x)) ∧ Kp W w') := fun W => end_any x W
      by_cases he : y.f = en x
      · have HJ : Hid (joB x y = true) := joB_t.2 ⟨⟨q1, q2, q3⟩, lastsB_t.1 hl, he⟩
        have HE : Hid (joined x y = jn x y) := by show _ = _; unfold joined; rw [HJ.out]; rfl
        rw [HJ.out, HE.out]
        clear HJ HE q1 q2 q3
        have hb : (y.f != en x) = false := by simpa using he
        clear he
        generalize en x = ex at *
        generalize HZ : I6.v (jn x y) = zv
        unfold I6.v
        go_enter Try.func16, Try.ntmps16
        go_wp2_with fail
        rw [← HW.out]
        obtain ⟨d0, d1, d2, d3, d4, d5⟩ := bx.cl
        have e1 := yb.cl.2.1
        go_region_held3 (fun w' => w'.cell? ⟨w.heap.size, 0, none⟩ = some (.int .i64 x.k) ∧ w'.cell? ⟨w.heap.size, 1, none⟩ = some (.int .i64 x.f) ∧ w'.cell? ⟨w.heap.size, 2, none⟩ = some (.int .i64 x.l) ∧ w'.cell? ⟨w.heap.size, 3, none⟩ = some (.int .i64 x.a) ∧ w'.cell? ⟨w.heap.size, 4, none⟩ = some (.int .i64 x.t) ∧ w'.cell? ⟨w.heap.size, 5, none⟩ = some (.int .i64 x.c) ∧ w'.cell? ⟨w.heap.size + 1, 1, none⟩ = some (.int .i64 y.f)) (go_keep) (first
          | (go_at_call 18; refine (HL.out _).mono ?_; rintro e w3 ⟨rfl, rfl⟩)
          | (go_at_call 17; refine (HN.out _).mono ?_; rintro e w3 ⟨rfl, k3⟩; have K3 : Kp W0 w3 := (by first | exact (kp_drewN _ _).trans k3 | exact (Step.refl _ _).drew.trans k3 | exact k3); clear k3; obtain ⟨z0, z1, z2, z3, z4, z5⟩ := (bx.kp K3).cl; have y1 := (yb.kp K3).cl.2.1)
          | fail)
        all_goals
          clear d0 d1 d2 d3 d4 d5 e1 y1 z0 z1 z2 z3 z4 z5
          have k2 : Kp w w3 := k0.trans K3
          have z2 : B6 w3 (w.heap.size + 1 + 1) zI := bz.kp K3
          obtain ⟨d0, d1, d2, d3, d4, d5⟩ := z2.cl
          have f0 := z2.fr 0
          have f1 := z2.fr 1
          have f2 := z2.fr 2
          have f3 := z2.fr 3
          have f4 := z2.fr 4
          have f5 := z2.fr 5
          have x2 : B6 w3 w.heap.size x := bx.kp K3
          obtain ⟨x0, x1, x2', x3, x4, x5⟩ := x2.cl
          have y2 : B6 w3 (w.heap.size + 1) y := yb.kp K3
          obtain ⟨y0, y1, y2', y3, y4, y5⟩ := y2.cl
          have g2 := x2.fr 2
          have g5 := x2.fr 5
          go_wp2
          subst HZ
          exact bodyPost_ret (results_join _ _ (w.heap.size + 1 + 1) (jn x y) true rfl rfl (((z2.other (p := ⟨w.heap.size, 2, none⟩) (by show _ ≠ w.heap.size; omega) _).other (p := ⟨w.heap.size, 5, none⟩) (by show _ ≠ w.heap.size; omega) _).set (jn x y)).c6) rfl ⟨rfl, set6_new ((k2.setNew (p := ⟨w.heap.size, 2, none⟩) (Nat.le_refl _) _).setNew (p := ⟨w.heap.size, 5, none⟩) (Nat.le_refl _) _) (by omega) (jn x y)⟩
      · have HJ : Hid (joB x y = false) := joB_f.2 (fun q => he q.2.2)
        have HE : Hid (joined x y = zI) := by show _ = _; unfold joined; rw [HJ.out]; rfl
        rw [HJ.out, HE.out]
        clear HJ HE q1 q2 q3
        have hb : (y.f != en x) = true := by simpa using he
        clear he
        generalize en x = ex at *
        generalize HZ : I6.v zI = zv
        unfold I6.v
        go_enter Try.func16, Try.ntmps16
        go_wp2_with fail
        rw [← HW.out]
        obtain ⟨d0, d1, d2, d3, d4, d5⟩ := bx.cl
        have e1 := yb.cl.2.1
        go_region_held3 (fun w' => w'.cell? ⟨w.heap.size, 0, none⟩ = some (.int .i64 x.k) ∧ w'.cell? ⟨w.heap.size, 1, none⟩ = some (.int .i64 x.f) ∧ w'.cell? ⟨w.heap.size, 2, none⟩ = some (.int .i64 x.l) ∧ w'.cell? ⟨w.heap.size, 3, none⟩ = some (.int .i64 x.a) ∧ w'.cell? ⟨w.heap.size, 4, none⟩ = some (.int .i64 x.t) ∧ w'.cell? ⟨w.heap.size, 5, none⟩ = some (.int .i64 x.c) ∧ w'.cell? ⟨w.heap.size + 1, 1, none⟩ = some (.int .i64 y.f)) (go_keep) (first
          | (go_at_call 18; refine (HL.out _).mono ?_; rintro e w3 ⟨rfl, rfl⟩)
          | (go_at_call 17; refine (HN.out _).mono ?_; rintro e w3 ⟨rfl, k3⟩; have K3 : Kp W0 w3 := (by first | exact (kp_drewN _ _).trans k3 | exact (Step.refl _ _).drew.trans k3 | exact k3); clear k3; obtain ⟨z0, z1, z2, z3, z4, z5⟩ := (bx.kp K3).cl; have y1 := (yb.kp K3).cl.2.1)
          | fail)
        all_goals
          clear d0 d1 d2 d3 d4 d5 e1 y1 z0 z1 z2 z3 z4 z5
          have k2 : Kp w w3 := k0.trans K3
          have z2 : B6 w3 (w.heap.size + 1 + 1) zI := bz.kp K3
          obtain ⟨d0, d1, d2, d3, d4, d5⟩ := z2.cl
          have f0 := z2.fr 0
          have f1 := z2.fr 1
          have f2 := z2.fr 2
          have f3 := z2.fr 3
          have f4 := z2.fr 4
          have f5 := z2.fr 5
          go_wp2
          subst HZ
          exact bodyPost_ret (results_join _ _ (w.heap.size + 1 + 1) zI false rfl rfl z2.zero.c6) rfl ⟨rfl, zero6_new k2 (by omega)⟩
  · have HJ : Hid (joB x y = false) := joB_f.2 (fun q => hal q.1)
    have HE : Hid (joined x y = zI) := by show _ = _; unfold joined; rw [HJ.out]; rfl
    rw [HJ.out, HE.out]
    clear HJ HE
    have hcases : (x.k == y.k) = false ∨ ((x.k == y.k) = true ∧ (x.a == y.a) = false) ∨ ((x.k == y.k) = true ∧ (x.a == y.a) = true ∧ (x.t == y.t) = false) := by
      simp only [beq_eq_false_iff_ne, beq_iff_eq]
      by_cases q1 : x.k = y.k
      · by_cases q2 : x.a = y.a
        · exact .inr (.inr ⟨q1, q2, fun q3 => hal ⟨q1, q2, q3⟩⟩)
        · exact .inr (.inl ⟨q1, q2⟩)
      · exact .inl q1
    clear hal
    generalize HZ : I6.v zI = zv
    unfold I6.v
    rcases hcases with b1 | ⟨b1, b2⟩ | ⟨b1, b2, b3⟩
    all_goals
      go_enter Try.func16, Try.ntmps16
      go_wp2_with fail
      rw [← HW.out]
      go_quiet (fail)
      generalize hwq : World.drewN W0 _ = w2
      have k2 : Kp w w2 := by rw [← hwq]; exact k0.trans (kp_drewN _ _)
      have z2 : B6 w2 (w.heap.size + 1 + 1) zI := by rw [← hwq]; exact bz.kp (kp_drewN _ _)
      clear hwq
      obtain ⟨d0, d1, d2, d3, d4, d5⟩ := z2.cl
      have f0 := z2.fr 0
      have f1 := z2.fr 1
      have f2 := z2.fr 2
      have f3 := z2.fr 3
      have f4 := z2.fr 4
      have f5 := z2.fr 5
      go_wp2
      subst HZ
      exact bodyPost_ret (results_join _ _ (w.heap.size + 1 + 1) zI false rfl rfl z2.zero.c6) rfl ⟨rfl, zero6_new k2 (by omega)⟩

end Go.Proofs.Ytbgpojhdkmhcbaa.TC
