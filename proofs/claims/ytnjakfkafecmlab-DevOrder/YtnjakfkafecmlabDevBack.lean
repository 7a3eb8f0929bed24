/- A device that is called back. -/
import Derived.Test.YtnjakfkafecmlabDevCall
import Derived.Lib.MinMax
namespace Go.Proofs.Ytnjakfkafecmlab.DV
open Go.ChangeShapes Go.WideShapes Go.ChangeAt Go.RowKit Go.Proofs.Ytnjakfkafecmlab.AR Go.Proofs.Ytnjakfkafecmlab.TB

theorem results_call (tmps : Array Value) (w : World) (b : Nat) (f u : Int) (hp : tmps[6]?.getD undef = .pointer (some ⟨b, 0, none⟩))
    (z0 : w.cell? ⟨b, 0, none⟩ = some (.int .i64 f)) (z1 : w.cell? ⟨b, 1, none⟩ = some (.int .i64 u)) :
    (results Try.f10 tmps).run Try.prog w = .ok (.agg #[.int .i64 f, .int .i64 u]) w := by
  simp [results, Try.results10, go_sem, hp, z0, z1]

theorem B2.sets {w : World} {g : Nat} {t : TypeId} {a b : Int} (h : B2 w g t a b) (y : Int) : B2 (w.setCell ⟨g, 1, none⟩ (.int .i64 y)) g t a y := ⟨(heap_setCell_same w g 1 _ _ (.int .i64 y) h.blk).trans rfl⟩
theorem B2.other {w : World} {g : Nat} {t : TypeId} {a b : Int} (h : B2 w g t a b) {p : Addr} (hp : g ≠ p.block) (v : Value) : B2 (w.setCell p v) g t a b := ⟨(heap_setCell_other w p g v hp).trans h.blk⟩

theorem box3 (w : World) (o p : Obj) (t : TypeId) (f u : Int) : B2 (((w.alloc o).alloc p).alloc (.cells #[.int .i64 f, .int .i64 u] t)) (w.heap.size + 1 + 1) t f u := by
  have q := b2_new (w := (w.alloc o).alloc p) (t := t) (a := f) (b := u) (Kp.refl _)
  simp only [World.size_alloc] at q
  exact q

theorem run_max_3 (ts : Array TypeId) (t : TypeId) (x y z : Int) (w : World) : (Builtin.max_ ts t #[.int .i64 x, .int .i64 y, .int .i64 z]).run Try.prog w = .ok (.int .i64 (max (max x y) z)) w := by
  have e1 : (if y > x then y else x) = max x y := by split <;> omega
  have e2 : (if z > max x y then z else max x y) = max (max x y) z := by split <;> omega
  simp [Builtin.max_, Builtin.max2]
  split <;> split <;> omega

set_option maxHeartbeats 4000000 in
theorem call_any (on off down up downE upE even f u now : Int) (w : World) (hd : 0 ≤ down ∧ down ≤ 256) (hu : 0 ≤ up ∧ up ≤ 256) (he : 0 ≤ even ∧ even ≤ 65536) (hf : Mo f) (hn : Mo now) :
    Calls Try.prog 10 #[.agg #[.int .i64 on, .int .i64 off, .int .i64 down, .int .i64 up, .int .i64 downE, .int .i64 upE, .int .i64 even], .agg #[.int .i64 f, .int .i64 u], .int .i64 now] w
      fun e w' => e = .returned (.agg #[.int .i64 f, .int .i64 (clI down up even f u now)]) ∧ Kp w w' := by
  obtain ⟨W0, HW⟩ : ∃ W0, Hid (W0 = ((w.alloc (.cells #[.int .i64 on, .int .i64 off, .int .i64 down, .int .i64 up, .int .i64 downE, .int .i64 upE, .int .i64 even] 23)).alloc (.cells #[.int .i64 f, .int .i64 u] 28)).alloc (.cells #[.int .i64 0, .int .i64 0] 28)) := ⟨_, rfl⟩
  obtain ⟨k0, D0, X0, R0⟩ := three_boxes HW.out
  have HK : Hid (∀ o p q, Kp w (((w.alloc o).alloc p).alloc q)) := fun o p q => (((Kp.refl w).alloc o).alloc p).alloc q
  obtain ⟨f1, f2⟩ := hf
  obtain ⟨n1, n2⟩ := hn
  obtain ⟨e1, e2⟩ := he
  obtain ⟨d1, d2⟩ := hd
  obtain ⟨p1, p2⟩ := hu
  have HC : Hid (clI down up even f u now = if u = 1099511627776 then max (max (f + even) (now + up)) (f + down + up) else u) := rfl
  generalize clI down up even f u now = c at *
  by_cases h : u = 1099511627776
  · subst h
    have HD : Hid (c = max (max (f + even) (now + up)) (f + down + up)) := HC.out.trans (if_pos rfl)
    have MX : ∀ ts t w, (Builtin.max_ ts t #[.int .i64 (f + even), .int .i64 (now + up), .int .i64 (f + down + up)]).run Try.prog w = .ok (.int .i64 c) w := fun ts t w => by rw [run_max_3, ← HD.out]
    clear HC HD HW
    go_enter Try.func10, Try.ntmps10
    go_wp2
    exact bodyPost_ret (results_call _ _ (w.heap.size + 1 + 1) f c rfl (box3 _ _ _ _ _ _).c0 (box3 _ _ _ _ _ _).c1) rfl ⟨rfl, HK.out _ _ _⟩
  · have HD : Hid (c = u) := HC.out.trans (if_neg h)
    clear HC
    have hb : (u == 1099511627776) = false := by simpa using h
    clear h
    go_enter Try.func10, Try.ntmps10
    go_wp2
    exact bodyPost_ret (results_call _ _ (w.heap.size + 1 + 1) f u rfl (box3 _ _ _ _ _ _).c0 (box3 _ _ _ _ _ _).c1) rfl ⟨congrArg (fun x => Ending.returned (Value.agg #[.int .i64 f, .int .i64 x])) HD.out.symm, HK.out _ _ _⟩

end Go.Proofs.Ytnjakfkafecmlab.DV
