/- A device that goes away, and one that is called back. -/
import Derived.Test.YtnjakfkafecmlabDevState
namespace Go.Proofs.Ytnjakfkafecmlab.DV
open Go.ChangeShapes Go.WideShapes Go.ChangeAt Go.RowKit Go.Proofs.Ytnjakfkafecmlab.AR Go.Proofs.Ytnjakfkafecmlab.TB

/-- P7.2: does it go? -/
def goB (down up even f u now til : Int) : Bool := decide (stI down up f u now = 1 ∧ even ≤ til - now)
theorem goB_t {down up even f u now til : Int} : goB down up even f u now til = true ↔ stI down up f u now = 1 ∧ even ≤ til - now := by simp [goB]
theorem goB_f {down up even f u now til : Int} : goB down up even f u now til = false ↔ ¬ (stI down up f u now = 1 ∧ even ≤ til - now) := by rw [← goB_t]; simp

/-- one of two -/
def pk (b : Bool) (x y : Int) : Int := bif b then x else y

/-- P7.3 -/
def clI (down up even f u now : Int) : Int := if u = 1099511627776 then max (max (f + even) (now + up)) (f + down + up) else u

theorem quanta_any (a b : Int) (w : World) (h : -9223372036854775808 ≤ b - a ∧ b - a ≤ 9223372036854775807) :
    Calls Try.prog 12 #[.int .i64 a, .int .i64 b] w fun e w' => e = .returned (.int .i64 (max 0 (b - a))) ∧ w' = w := by
  go_enter Try.func12, Try.ntmps12
  go_wp2
  all_goals
    go_ret
    exact ⟨congrArg (fun x => Ending.returned (Value.int .i64 x)) (by omega), rfl⟩

theorem results_away (tmps : Array Value) (w : World) (b : Nat) (f u : Int) (ok : Bool) (hp : tmps[8]?.getD undef = .pointer (some ⟨b, 0, none⟩)) (hq : tmps[9]?.getD undef = .bool ok)
    (z0 : w.cell? ⟨b, 0, none⟩ = some (.int .i64 f)) (z1 : w.cell? ⟨b, 1, none⟩ = some (.int .i64 u)) :
    (results Try.f8 tmps).run Try.prog w = .ok (.tuple #[.agg #[.int .i64 f, .int .i64 u], .bool ok]) w := by
  simp [results, Try.results8, go_sem, hp, hq, z0, z1]

/-- a block with two numbers -/
structure B2 (w : World) (g : Nat) (t : TypeId) (a b : Int) : Prop where
  blk : w.heap[g]? = some (.cells #[.int .i64 a, .int .i64 b] t (0, 0))
theorem B2.lt {w : World} {g : Nat} {t : TypeId} {a b : Int} (h : B2 w g t a b) : g < w.heap.size := (Array.getElem?_eq_some_iff.1 h.blk).1
theorem B2.c0 {w : World} {g : Nat} {t : TypeId} {a b : Int} (h : B2 w g t a b) : w.cell? ⟨g, 0, none⟩ = some (.int .i64 a) := by simp [World.cell?, h.blk]
theorem B2.c1 {w : World} {g : Nat} {t : TypeId} {a b : Int} (h : B2 w g t a b) : w.cell? ⟨g, 1, none⟩ = some (.int .i64 b) := by simp [World.cell?, h.blk]
theorem B2.fr {w : World} {g : Nat} {t : TypeId} {a b : Int} (h : B2 w g t a b) (j : Nat) : w.frozen? ⟨g, j, none⟩ = false := by simp [World.frozen?, h.blk]
theorem B2.kp {w w' : World} {g : Nat} {t : TypeId} {a b : Int} (h : B2 w g t a b) (k : Kp w w') : B2 w' g t a b := ⟨(k.block g h.lt).trans h.blk⟩
theorem B2.set {w : World} {g : Nat} {t : TypeId} {a b : Int} (h : B2 w g t a b) (x y : Int) : B2 ((w.setCell ⟨g, 0, none⟩ (.int .i64 x)).setCell ⟨g, 1, none⟩ (.int .i64 y)) g t x y := by
  have s0 := heap_setCell_same w g 0 _ _ (.int .i64 x) h.blk
  have s1 := heap_setCell_same _ g 1 _ _ (.int .i64 y) s0
  exact ⟨s1.trans rfl⟩
theorem set2_new {w W : World} {g : Nat} (k : Kp w W) (hg : w.heap.size ≤ g) (x y : Int) : Kp w ((W.setCell ⟨g, 0, none⟩ (.int .i64 x)).setCell ⟨g, 1, none⟩ (.int .i64 y)) := (k.setCell (p := ⟨g, 0, none⟩) hg _).setCell (p := ⟨g, 1, none⟩) hg _

/-- a block with a device -/
structure B7 (w : World) (g : Nat) (on off down up downE upE even : Int) : Prop where
  blk : w.heap[g]? = some (.cells #[.int .i64 on, .int .i64 off, .int .i64 down, .int .i64 up, .int .i64 downE, .int .i64 upE, .int .i64 even] 23 (0, 0))
theorem B7.lt {w : World} {g : Nat} {on off down up downE upE even : Int} (h : B7 w g on off down up downE upE even) : g < w.heap.size := (Array.getElem?_eq_some_iff.1 h.blk).1
theorem B7.c0 {w : World} {g : Nat} {on off down up downE upE even : Int} (h : B7 w g on off down up downE upE even) : w.cell? ⟨g, 0, none⟩ = some (.int .i64 on) := by simp [World.cell?, h.blk]
theorem B7.c1 {w : World} {g : Nat} {on off down up downE upE even : Int} (h : B7 w g on off down up downE upE even) : w.cell? ⟨g, 1, none⟩ = some (.int .i64 off) := by simp [World.cell?, h.blk]
theorem B7.c2 {w : World} {g : Nat} {on off down up downE upE even : Int} (h : B7 w g on off down up downE upE even) : w.cell? ⟨g, 2, none⟩ = some (.int .i64 down) := by simp [World.cell?, h.blk]
theorem B7.c3 {w : World} {g : Nat} {on off down up downE upE even : Int} (h : B7 w g on off down up downE upE even) : w.cell? ⟨g, 3, none⟩ = some (.int .i64 up) := by simp [World.cell?, h.blk]
theorem B7.c4 {w : World} {g : Nat} {on off down up downE upE even : Int} (h : B7 w g on off down up downE upE even) : w.cell? ⟨g, 4, none⟩ = some (.int .i64 downE) := by simp [World.cell?, h.blk]
theorem B7.c5 {w : World} {g : Nat} {on off down up downE upE even : Int} (h : B7 w g on off down up downE upE even) : w.cell? ⟨g, 5, none⟩ = some (.int .i64 upE) := by simp [World.cell?, h.blk]
theorem B7.c6 {w : World} {g : Nat} {on off down up downE upE even : Int} (h : B7 w g on off down up downE upE even) : w.cell? ⟨g, 6, none⟩ = some (.int .i64 even) := by simp [World.cell?, h.blk]
theorem B7.kp {w w' : World} {g : Nat} {on off down up downE upE even : Int} (h : B7 w g on off down up downE upE even) (k : Kp w w') : B7 w' g on off down up downE upE even := ⟨(k.block g h.lt).trans h.blk⟩
theorem B7.all {w : World} {g : Nat} {on off down up downE upE even : Int} (h : B7 w g on off down up downE upE even) : w.cell? ⟨g, 0, none⟩ = some (.int .i64 on) ∧ w.cell? ⟨g, 1, none⟩ = some (.int .i64 off) ∧ w.cell? ⟨g, 2, none⟩ = some (.int .i64 down) ∧ w.cell? ⟨g, 3, none⟩ = some (.int .i64 up) ∧ w.cell? ⟨g, 4, none⟩ = some (.int .i64 downE) ∧ w.cell? ⟨g, 5, none⟩ = some (.int .i64 upE) ∧ w.cell? ⟨g, 6, none⟩ = some (.int .i64 even) :=
  ⟨h.c0, h.c1, h.c2, h.c3, h.c4, h.c5, h.c6⟩
theorem B2.all {w : World} {g : Nat} {t : TypeId} {a b : Int} (h : B2 w g t a b) : w.cell? ⟨g, 0, none⟩ = some (.int .i64 a) ∧ w.cell? ⟨g, 1, none⟩ = some (.int .i64 b) := ⟨h.c0, h.c1⟩
theorem b7_new {w w' : World} {on off down up downE upE even : Int} (k : Kp (w.alloc (.cells #[.int .i64 on, .int .i64 off, .int .i64 down, .int .i64 up, .int .i64 downE, .int .i64 upE, .int .i64 even] 23)) w') : B7 w' w.heap.size on off down up downE upE even := B7.kp ⟨heap_alloc_at w _⟩ k
theorem b2_new {w w' : World} {t : TypeId} {a b : Int} (k : Kp (w.alloc (.cells #[.int .i64 a, .int .i64 b] t)) w') : B2 w' w.heap.size t a b := B2.kp ⟨heap_alloc_at w _⟩ k

/-- a device and a pair, boxed -/
theorem two_boxes {w W : World} {t1 : TypeId} {on off down up downE upE even f u : Int} (e : W = (w.alloc (.cells #[.int .i64 on, .int .i64 off, .int .i64 down, .int .i64 up, .int .i64 downE, .int .i64 upE, .int .i64 even] 23)).alloc (.cells #[.int .i64 f, .int .i64 u] t1)) :
    Kp w W ∧ B7 W w.heap.size on off down up downE upE even ∧ B2 W (w.heap.size + 1) t1 f u := by
  subst e
  refine ⟨((Kp.refl _).alloc _).alloc _, b7_new ((Kp.refl _).alloc _), ?_⟩
  have q := b2_new (w := w.alloc (.cells #[.int .i64 on, .int .i64 off, .int .i64 down, .int .i64 up, .int .i64 downE, .int .i64 upE, .int .i64 even] 23)) (t := t1) (a := f) (b := u) (Kp.refl _)
  simp only [World.size_alloc] at q
  exact q

/-- a device and two pairs, boxed -/
theorem three_boxes {w W : World} {t1 t2 : TypeId} {on off down up downE upE even f u a b : Int} (e : W = ((w.alloc (.cells #[.int .i64 on, .int .i64 off, .int .i64 down, .int .i64 up, .int .i64 downE, .int .i64 upE, .int .i64 even] 23)).alloc (.cells #[.int .i64 f, .int .i64 u] t1)).alloc (.cells #[.int .i64 a, .int .i64 b] t2)) :
    Kp w W ∧ B7 W w.heap.size on off down up downE upE even ∧ B2 W (w.heap.size + 1) t1 f u ∧ B2 W (w.heap.size + 2) t2 a b := by
  subst e
  obtain ⟨k, d, x⟩ := two_boxes (w := w) (t1 := t1) (on := on) (off := off) (down := down) (up := up) (downE := downE) (upE := upE) (even := even) (f := f) (u := u) rfl
  refine ⟨k.alloc _, d.kp ((Kp.refl _).alloc _), x.kp ((Kp.refl _).alloc _), ?_⟩
  have q := b2_new (w := (w.alloc (.cells #[.int .i64 on, .int .i64 off, .int .i64 down, .int .i64 up, .int .i64 downE, .int .i64 upE, .int .i64 even] 23)).alloc (.cells #[.int .i64 f, .int .i64 u] t1)) (t := t2) (a := a) (b := b) (Kp.refl _)
  simp only [World.size_alloc] at q
  exact q

set_option maxHeartbeats 4000000 in
theorem away_any (on off down up downE upE even f u now til : Int) (w : World) (hd : 0 ≤ down ∧ down ≤ 256) (hu : 0 ≤ up ∧ up ≤ 256) (hf : Mo f) (hv : Mo u) (hn : Mo now) (ht : Mo til) :
    Calls Try.prog 8 #[.agg #[.int .i64 on, .int .i64 off, .int .i64 down, .int .i64 up, .int .i64 downE, .int .i64 upE, .int .i64 even], .agg #[.int .i64 f, .int .i64 u], .int .i64 now, .int .i64 til] w
      fun e w' => e = .returned (.tuple #[.agg #[.int .i64 (pk (goB down up even f u now til) now f), .int .i64 (pk (goB down up even f u now til) til u)], .bool (goB down up even f u now til)]) ∧ Kp w w' := by
  obtain ⟨W0, HW⟩ : ∃ W0, Hid (W0 = ((w.alloc (.cells #[.int .i64 on, .int .i64 off, .int .i64 down, .int .i64 up, .int .i64 downE, .int .i64 upE, .int .i64 even] 23)).alloc (.cells #[.int .i64 f, .int .i64 u] 28)).alloc (.cells #[.int .i64 0, .int .i64 0] 28)) := ⟨_, rfl⟩
  obtain ⟨k0, D0, X0, R0⟩ := three_boxes HW.out
  have HS : Hid (∀ W, Calls Try.prog 6 #[.agg #[.int .i64 on, .int .i64 off, .int .i64 down, .int .i64 up, .int .i64 downE, .int .i64 upE, .int .i64 even], .agg #[.int .i64 f, .int .i64 u], .int .i64 now] W fun e w' => e = .returned (.int .i64 (stI down up f u now)) ∧ Kp W w') := fun W => state_any on off down up downE upE even f u now W hd hu hf hv
  have HG : Hid (goB down up even f u now til = decide (stI down up f u now = 1 ∧ even ≤ til - now)) := rfl
  obtain ⟨n1, n2⟩ := hn
  obtain ⟨t1, t2⟩ := ht
  clear hd hu hf hv
  generalize stI down up f u now = s at *
  generalize goB down up even f u now til = g at *
  by_cases hs : s = 1
  · subst hs
    by_cases he : even ≤ til - now
    · have e : g = true := by rw [HG.out]; exact decide_eq_true ⟨rfl, he⟩
      subst e
      clear HG
      unfold pk
      go_enter Try.func8, Try.ntmps8
      go_wp2_with (first
        | (go_at_call 6; rw [← HW.out]; refine (HS.out _).mono ?_; rintro e w1 ⟨rfl, k1⟩; have K1 : Kp w w1 := k0.trans k1; have D1 := D0.kp k1; have R1 := R0.kp k1; have d6 := D1.c6; have r0 := R1.c0; have r1 := R1.c1; have g0 := R1.fr 0; have g1 := R1.fr 1)
        | fail)
      exact bodyPost_ret (results_away _ _ (w.heap.size + 2) now til true rfl rfl (R1.set now til).c0 (R1.set now til).c1) rfl ⟨rfl, set2_new K1 (by omega) now til⟩
    · have e : g = false := by rw [HG.out]; exact decide_eq_false (fun q => he q.2)
      subst e
      clear HG
      unfold pk
      go_enter Try.func8, Try.ntmps8
      go_wp2_with (first
        | (go_at_call 6; rw [← HW.out]; refine (HS.out _).mono ?_; rintro e w1 ⟨rfl, k1⟩; have K1 : Kp w w1 := k0.trans k1; have D1 := D0.kp k1; have X1 := X0.kp k1; have R1 := R0.kp k1; have d6 := D1.c6; have x0 := X1.c0; have x1 := X1.c1; have r0 := R1.c0; have r1 := R1.c1; have g0 := R1.fr 0; have g1 := R1.fr 1)
        | fail)
      exact bodyPost_ret (results_away _ _ (w.heap.size + 2) f u false rfl rfl (R1.set f u).c0 (R1.set f u).c1) rfl ⟨rfl, set2_new K1 (by omega) f u⟩
  · have e : g = false := by rw [HG.out]; exact decide_eq_false (fun q => hs q.1)
    subst e
    have hb : (s != 1) = true := by simpa using hs
    clear HG hs
    unfold pk
    go_enter Try.func8, Try.ntmps8
    go_wp2_with (first
      | (go_at_call 6; rw [← HW.out]; refine (HS.out _).mono ?_; rintro e w1 ⟨rfl, k1⟩; have K1 : Kp w w1 := k0.trans k1; have X1 := X0.kp k1; have R1 := R0.kp k1; have x0 := X1.c0; have x1 := X1.c1; have r0 := R1.c0; have r1 := R1.c1; have g0 := R1.fr 0; have g1 := R1.fr 1)
      | fail)
    exact bodyPost_ret (results_away _ _ (w.heap.size + 2) f u false rfl rfl (R1.set f u).c0 (R1.set f u).c1) rfl ⟨rfl, set2_new K1 (by omega) f u⟩

end Go.Proofs.Ytnjakfkafecmlab.DV
