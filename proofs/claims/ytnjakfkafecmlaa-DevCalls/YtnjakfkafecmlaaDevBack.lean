/- A device that is called back. -/
import Derived.Test.YtnjakfkafecmlaaDevCall
import Derived.Lib.MinMax
namespace Go.Proofs.Ytnjakfkafecmlaa.DV
open Go.ChangeShapes Go.WideShapes Go.ChangeAt Go.RowKit Go.Proofs.Ytnjakfkafecmlaa.AR Go.Proofs.Ytnjakfkafecmlaa.TB

theorem results_call (tmps : Array Value) (w : World) (b : Nat) (f u : Int) (hp : tmps[6]?.getD undef = .pointer (some ⟨b, 0, none⟩))
    (z0 : w.cell? ⟨b, 0, none⟩ = some (.int .i64 f)) (z1 : w.cell? ⟨b, 1, none⟩ = some (.int .i64 u)) :
    (results Try.f17 tmps).run Try.prog w = .ok (.agg #[.int .i64 f, .int .i64 u]) w := by
  simp [results, Try.results17, go_sem, hp, z0, z1]

theorem results_rcall (tmps : Array Value) (w : World) (b : Nat) (f u : Int) (hp : tmps[6]?.getD undef = .pointer (some ⟨b, 0, none⟩))
    (z0 : w.cell? ⟨b, 0, none⟩ = some (.int .i64 f)) (z1 : w.cell? ⟨b, 1, none⟩ = some (.int .i64 u)) :
    (results Try.f18 tmps).run Try.prog w = .ok (.agg #[.int .i64 f, .int .i64 u]) w := by
  simp [results, Try.results18, go_sem, hp, z0, z1]

theorem B2.sets {w : World} {g : Nat} {t : TypeId} {a b : Int} (h : B2 w g t a b) (y : Int) : B2 (w.setCell ⟨g, 1, none⟩ (.int .i64 y)) g t a y := ⟨(heap_setCell_same w g 1 _ _ (.int .i64 y) h.blk).trans rfl⟩
theorem B2.other {w : World} {g : Nat} {t : TypeId} {a b : Int} (h : B2 w g t a b) {p : Addr} (hp : g ≠ p.block) (v : Value) : B2 (w.setCell p v) g t a b := ⟨(heap_setCell_other w p g v hp).trans h.blk⟩

theorem box3 (w : World) (o p : Obj) (t : TypeId) (f u : Int) : B2 (((w.alloc o).alloc p).alloc (.cells #[.int .i64 f, .int .i64 u] t)) (w.heap.size + 1 + 1) t f u := by
  have q := b2_new (w := (w.alloc o).alloc p) (t := t) (a := f) (b := u) (Kp.refl _)
  simp only [World.size_alloc] at q
  exact q

theorem run_max_3 (ts : Array TypeId) (t : TypeId) (x y z : Int) (w : World) : (Builtin.max_ ts t #[.int .i64 x, .int .i64 y, .int .i64 z]).run Try.prog w = .ok (.int .i64 (max (max x y) z)) w := by
  have e1 : (if y > x then y else x) = max x y := by split <;> omega
  have e2 : (if z > max x y then z else max x y) = max (max x y) z := by split <;> omega
  simp [Builtin.max_, Builtin.max2]
  split <;> split <;> omega

set_option maxHeartbeats 4000000 in
theorem call_any (on off down up downE upE even f u now : Int) (w : World) (hd : 0 ≤ down ∧ down ≤ 256) (hu : 0 ≤ up ∧ up ≤ 256) (he : 0 ≤ even ∧ even ≤ 65536) (hf : Mo f) (hn : Mo now) :
    Calls Try.prog 17 #[.agg #[.int .i64 on, .int .i64 off, .int .i64 down, .int .i64 up, .int .i64 downE, .int .i64 upE, .int .i64 even], .agg #[.int .i64 f, .int .i64 u], .int .i64 now] w
      fun e w' => e = .returned (.agg #[.int .i64 f, .int .i64 (clI down up even f u now)]) ∧ Kp w w' := by
  obtain ⟨W0, HW⟩ : ∃ W0, Hid (W0 = ((w.alloc (.cells #[.int .i64 on, .int .i64 off, .int .i64 down, .int .i64 up, .int .i64 downE, .int .i64 upE, .int .i64 even] 23)).alloc (.cells #[.int .i64 f, .int .i64 u] 30)).alloc (.cells #[.int .i64 0, .int .i64 0] 30)) := ⟨_, rfl⟩
  obtain ⟨k0, D0, X0, R0⟩ := three_boxes HW.out
  have HK : Hid (∀ o p q, Kp w (((w.alloc o).alloc p).alloc q)) := fun o p q => (((Kp.refl w).alloc o).alloc p).alloc q
  obtain ⟨f1, f2⟩ := hf
  obtain ⟨n1, n2⟩ := hn
  obtain ⟨e1, e2⟩ := he
  obtain ⟨d1, d2⟩ := hd
  obtain ⟨p1, p2⟩ := hu
  have HC : Hid (clI down up even f u now = if u = 1099511627776 then max (max (f + even) (now + up)) (f + down + up) else u) := rfl
  generalize clI down up even f u now = c at *
  by_cases h : u = 1099511627776
  · subst h
    have HD : Hid (c = max (max (f + even) (now + up)) (f + down + up)) := HC.out.trans (if_pos rfl)
    have MX : ∀ ts t w, (Builtin.max_ ts t #[.int .i64 (f + even), .int .i64 (now + up), .int .i64 (f + down + up)]).run Try.prog w = .ok (.int .i64 c) w := fun ts t w => by rw [run_max_3, ← HD.out]
    clear HC HD HW
    go_enter Try.func17, Try.ntmps17
    go_wp2
    exact bodyPost_ret (results_call _ _ (w.heap.size + 1 + 1) f c rfl (box3 _ _ _ _ _ _).c0 (box3 _ _ _ _ _ _).c1) rfl ⟨rfl, HK.out _ _ _⟩
  · have HD : Hid (c = u) := HC.out.trans (if_neg h)
    clear HC
    have hb : (u == 1099511627776) = false := by simpa using h
    clear h
    go_enter Try.func17, Try.ntmps17
    go_wp2
    exact bodyPost_ret (results_call _ _ (w.heap.size + 1 + 1) f u rfl (box3 _ _ _ _ _ _).c0 (box3 _ _ _ _ _ _).c1) rfl ⟨congrArg (fun x => Ending.returned (Value.agg #[.int .i64 f, .int .i64 x])) HD.out.symm, HK.out _ _ _⟩

set_option maxHeartbeats 4000000 in
theorem rcall_any (on off down up downE upE even f u now : Int) (w : World) (hd : 0 ≤ down ∧ down ≤ 256) (hu : 0 ≤ up ∧ up ≤ 256) (he : 0 ≤ even ∧ even ≤ 65536) (hf : Mo f) (hn : Mo now) :
    Calls Try.prog 18 #[.agg #[.int .i64 on, .int .i64 off, .int .i64 down, .int .i64 up, .int .i64 downE, .int .i64 upE, .int .i64 even], .agg #[.int .i64 f, .int .i64 u], .int .i64 now] w
      fun e w' => e = .returned (.agg #[.int .i64 f, .int .i64 (clI down up even f u now)]) ∧ Kp w w' := by
  obtain ⟨W0, HW⟩ : ∃ W0, Hid (W0 = ((w.alloc (.cells #[.int .i64 on, .int .i64 off, .int .i64 down, .int .i64 up, .int .i64 downE, .int .i64 upE, .int .i64 even] 23)).alloc (.cells #[.int .i64 f, .int .i64 u] 25)).alloc (.cells #[.int .i64 0, .int .i64 0] 25)) := ⟨_, rfl⟩
  obtain ⟨k0, D0, X0, R0⟩ := three_boxes HW.out
  have HK : Hid (∀ o p q, Kp w (((w.alloc o).alloc p).alloc q)) := fun o p q => (((Kp.refl w).alloc o).alloc p).alloc q
  have d2 := D0.c2
  have d3 := D0.c3
  have d6 := D0.c6
  have x0 := X0.c0
  have x1 := X0.c1
  have g1 := X0.fr 1
  have HC : Hid (clI down up even f u now = if u = 1099511627776 then max (max (f + even) (now + up)) (f + down + up) else u) := rfl
  generalize clI down up even f u now = c at *
  by_cases h : u = 1099511627776
  · have HD : Hid (c = max (max (f + even) (now + up)) (f + down + up)) := HC.out.trans (if_pos h)
    clear HC
    have v1 : wrap64 (f + even) = f + even := IntWalk.wrap64_in _ (by unfold Mo at *; omega)
    have v2 : wrap64 (now + up) = now + up := IntWalk.wrap64_in _ (by unfold Mo at *; omega)
    have v3 : wrap64 (f + down) = f + down := IntWalk.wrap64_in _ (by unfold Mo at *; omega)
    have v4 : wrap64 (f + down + up) = f + down + up := IntWalk.wrap64_in _ (by unfold Mo at *; omega)
    have w1 : IntKind.i64.wrap (f + even) = f + even := (IntWalk.i64_left _).trans v1
    have w2 : IntKind.i64.wrap (now + up) = now + up := (IntWalk.i64_left _).trans v2
    have w3 : IntKind.i64.wrap (f + down) = f + down := (IntWalk.i64_left _).trans v3
    have w4 : IntKind.i64.wrap (f + down + up) = f + down + up := (IntWalk.i64_left _).trans v4
    have HM2 : Hid (∀ W, Calls Try.prog 23 #[.int .i64 (max (f + even) (now + up)), .int .i64 (f + down + up)] W fun e w' => e = .returned (.int .i64 c) ∧ w' = W) := fun W => by rw [HD.out]; exact max_any _ _ W
    have HM1 : Hid (∀ W, Calls Try.prog 23 #[.int .i64 (f + even), .int .i64 (now + up)] W fun e w' => e = .returned (.int .i64 (max (f + even) (now + up))) ∧ w' = W) := fun W => max_any _ _ W
    generalize max (f + even) (now + up) = m at *
    subst h
    clear hf hn he hd hu HD
    have y0 : ∀ v : Int, (W0.setCell ⟨w.heap.size + 1, 1, none⟩ (.int .i64 v)).cell? ⟨w.heap.size + 1, 0, none⟩ = some (.int .i64 f) := fun v => (X0.sets v).c0
    go_enter Try.func18, Try.ntmps18
    go_wp2_with fail
    rw [← HW.out]
    clear HW
    go_region_held3 (fun w' => w'.cell? ⟨w.heap.size, 2, none⟩ = some (.int .i64 down) ∧ w'.cell? ⟨w.heap.size, 3, none⟩ = some (.int .i64 up) ∧ w'.cell? ⟨w.heap.size, 6, none⟩ = some (.int .i64 even) ∧ w'.cell? ⟨w.heap.size + 1, 0, none⟩ = some (.int .i64 f)) (go_keep) (first
      | (go_at_call 23; refine (HM1.out _).mono ?_; rintro e w3 ⟨rfl, rfl⟩; clear HM1)
      | (go_at_call 23; refine (HM2.out _).mono ?_; rintro e w3 ⟨rfl, rfl⟩)
      | fail)
    all_goals
      have X1 : B2 ((W0.setCell ⟨w.heap.size + 1, 1, none⟩ (.int .i64 c)).drew) (w.heap.size + 1) 25 f c := ⟨(X0.sets c).blk⟩
      have R1 : B2 ((W0.setCell ⟨w.heap.size + 1, 1, none⟩ (.int .i64 c)).drew) (w.heap.size + 1 + 1) 25 0 0 := ⟨(R0.other (p := ⟨w.heap.size + 1, 1, none⟩) (by show _ ≠ w.heap.size + 1; omega) _).blk⟩
      have K1 : Kp w ((W0.setCell ⟨w.heap.size + 1, 1, none⟩ (.int .i64 c)).drew) := (k0.setCell (p := ⟨w.heap.size + 1, 1, none⟩) (by show w.heap.size ≤ w.heap.size + 1; omega) _).drew
      generalize (W0.setCell ⟨w.heap.size + 1, 1, none⟩ (.int .i64 c)).drew = W1 at *
      have a0 := X1.c0
      have a1 := X1.c1
      have b0 := R1.c0
      have b1 := R1.c1
      have h0 := R1.fr 0
      have h1 := R1.fr 1
      go_wp2
      exact bodyPost_ret (results_rcall _ _ (w.heap.size + 1 + 1) f c rfl (R1.set f c).c0 (R1.set f c).c1) rfl ⟨rfl, set2_new K1 (by omega) f c⟩
  · have HD : Hid (c = u) := HC.out.trans (if_neg h)
    clear HC
    have hb : (u == 1099511627776) = false := by simpa using h
    clear h
    go_enter Try.func18, Try.ntmps18
    go_wp2
    exact bodyPost_ret (results_rcall _ _ (w.heap.size + 1 + 1) f u rfl (box3 _ _ _ _ _ _).c0 (box3 _ _ _ _ _ _).c1) rfl ⟨congrArg (fun x => Ending.returned (Value.agg #[.int .i64 f, .int .i64 x])) HD.out.symm, HK.out _ _ _⟩

end Go.Proofs.Ytnjakfkafecmlaa.DV
