/- What Add and Total answer, and the small functions of the statements. -/
import Derived.Test.YtoinbdjjimfdgaaMetEn
namespace Go.Proofs.Ytoinbdjjimfdgaa.MT
open Go.ChangeShapes Go.WideShapes Go.ChangeAt Go.RowKit Go.Proofs.Ytoinbdjjimfdgaa.AR Go.Proofs.Ytoinbdjjimfdgaa.TB

/-- the place of a Kind in a meter: 0 to 3, or none (4) -/
def place (kind : Int) : Nat := if kind = 1 then 0 else if kind = 2 then 1 else if kind = 3 then 2 else if kind = 4 then 3 else if kind = 5 then 3 else if kind = 6 then 3 else 4

/-- one of a meter's numbers behind an interval -/
def bump (kind c : Int) (j : Nat) (a : Int) : Int := if place kind = j then wrap64 (a + c) else a

/-- all of a meter's numbers together -/
def tot (a b c d : Int) : Int := wrap64 (wrap64 (wrap64 (a + b) + c) + d)

/-- an interval of which the chapter speaks -/
def Small (len cyc : Int) : Prop := (0 ≤ len ∧ len ≤ 1073741824) ∧ (0 ≤ cyc ∧ cyc ≤ 1073741824)
def decSmall (a b : Int) : Decidable (Small a b) := by unfold Small; exact inferInstance
def smallB (len cyc : Int) : Bool := @decide (Small len cyc) (decSmall len cyc)
theorem smallB_t {a b : Int} : smallB a b = true ↔ Small a b := by simp [smallB]
theorem smallB_f {a b : Int} : smallB a b = false ↔ ¬ Small a b := by simp [smallB]

set_option maxHeartbeats 4000000 in
theorem small_any (kind frm len arg task cyc : Int) (w : World) :
    Calls Try.prog 8 #[iv kind frm len arg task cyc] w fun e w' => e = .returned (.bool (smallB len cyc)) ∧ Kp w w' := by
  have HA : Hid (∀ o, Kp w (w.alloc o)) := fun o => (Kp.refl w).alloc o
  have HR : Hid (smallB len cyc = decide ((0 ≤ len ∧ len ≤ 1073741824) ∧ (0 ≤ cyc ∧ cyc ≤ 1073741824))) := rfl
  generalize smallB len cyc = res at *
  unfold iv
  by_cases a1 : 0 ≤ len
  · by_cases a2 : len ≤ 1073741824
    · by_cases a3 : 0 ≤ cyc
      · by_cases a4 : cyc ≤ 1073741824
        · have HQ : Hid (true = res) := by show true = _; rw [HR.out]; exact (decide_eq_true ⟨⟨a1, a2⟩, a3, a4⟩).symm
          clear HR
          go_enter Try.func8, Try.ntmps8
          go_wp2
          go_ret
          exact ⟨congrArg (fun b => Ending.returned (Value.bool b)) HQ.out, HA.out _⟩
        · have HQ : Hid (false = res) := by show false = _; rw [HR.out]; exact (decide_eq_false (by omega)).symm
          clear HR
          go_enter Try.func8, Try.ntmps8
          go_wp2
          go_ret
          exact ⟨congrArg (fun b => Ending.returned (Value.bool b)) HQ.out, HA.out _⟩
      · have HQ : Hid (false = res) := by show false = _; rw [HR.out]; exact (decide_eq_false (by omega)).symm
        clear HR
        go_enter Try.func8, Try.ntmps8
        go_wp2
        go_ret
        exact ⟨congrArg (fun b => Ending.returned (Value.bool b)) HQ.out, HA.out _⟩
    · have HQ : Hid (false = res) := by show false = _; rw [HR.out]; exact (decide_eq_false (by omega)).symm
      clear HR
      go_enter Try.func8, Try.ntmps8
      go_wp2
      go_ret
      exact ⟨congrArg (fun b => Ending.returned (Value.bool b)) HQ.out, HA.out _⟩
  · have HQ : Hid (false = res) := by show false = _; rw [HR.out]; exact (decide_eq_false (by omega)).symm
    clear HR
    go_enter Try.func8, Try.ntmps8
    go_wp2
    go_ret
    exact ⟨congrArg (fun b => Ending.returned (Value.bool b)) HQ.out, HA.out _⟩

theorem total_any (a b c d : Int) (w : World) :
    Calls Try.prog 15 #[mv a b c d] w fun e w' => e = .returned (.int .i64 (tot a b c d)) ∧ Kp w w' := by
  have HA : Hid (∀ o, Kp w (w.alloc o)) := fun o => (Kp.refl w).alloc o
  unfold mv tot
  go_enter Try.func15, Try.ntmps15
  go_wp2
  go_ret
  exact ⟨rfl, HA.out _⟩

theorem results_four (tmps : Array Value) (w : World) (b : Nat) (x0 x1 x2 x3 : Int) (hp : tmps[2]?.getD undef = .pointer (some ⟨b, 0, none⟩)) (z0 : w.cell? ⟨b, 0, none⟩ = some (.int .i64 x0)) (z1 : w.cell? ⟨b, 1, none⟩ = some (.int .i64 x1)) (z2 : w.cell? ⟨b, 2, none⟩ = some (.int .i64 x2)) (z3 : w.cell? ⟨b, 3, none⟩ = some (.int .i64 x3)) :
    (results Try.f14 tmps).run Try.prog w = .ok (.agg #[.int .i64 x0, .int .i64 x1, .int .i64 x2, .int .i64 x3]) w := by
  simp [results, Try.results14, go_sem, hp, z0, z1, z2, z3]

theorem results_add (tmps : Array Value) (w : World) (b : Nat) (x0 x1 x2 x3 : Int) (hp : tmps[6]?.getD undef = .pointer (some ⟨b, 0, none⟩)) (z0 : w.cell? ⟨b, 0, none⟩ = some (.int .i64 x0)) (z1 : w.cell? ⟨b, 1, none⟩ = some (.int .i64 x1)) (z2 : w.cell? ⟨b, 2, none⟩ = some (.int .i64 x2)) (z3 : w.cell? ⟨b, 3, none⟩ = some (.int .i64 x3)) :
    (results Try.f12 tmps).run Try.prog w = .ok (.agg #[.int .i64 x0, .int .i64 x1, .int .i64 x2, .int .i64 x3]) w := by
  simp [results, Try.results12, go_sem, hp, z0, z1, z2, z3]

set_option maxHeartbeats 4000000 in
theorem four_any (a b c d : Int) (w : World) :
    Calls Try.prog 14 #[mv a b c d] w fun e w' => e = .returned (mv a b c d) ∧ Kp w w' := by
  have HA : Hid (∀ o o', Kp w ((w.alloc o).alloc o')) := fun o o' => ((Kp.refl w).alloc o).alloc o'
  unfold mv
  go_enter Try.func14, Try.ntmps14
  go_wp2
  exact bodyPost_ret (results_four _ _ (w.heap.size + 1) a b c d rfl (by simp) (by simp) (by simp) (by simp)) rfl ⟨rfl, HA.out _ _⟩

/-- a block of four numbers -/
structure B4 (W : World) (g : Nat) (t : TypeId) (a b c d : Int) : Prop where
  blk : W.heap[g]? = some (.cells #[.int .i64 a, .int .i64 b, .int .i64 c, .int .i64 d] t (0, 0))
  lt : g < W.heap.size
  c0 : W.cell? ⟨g, 0, none⟩ = some (.int .i64 a)
  c1 : W.cell? ⟨g, 1, none⟩ = some (.int .i64 b)
  c2 : W.cell? ⟨g, 2, none⟩ = some (.int .i64 c)
  c3 : W.cell? ⟨g, 3, none⟩ = some (.int .i64 d)
  f0 : W.frozen? ⟨g, 0, none⟩ = false
  f1 : W.frozen? ⟨g, 1, none⟩ = false
  f2 : W.frozen? ⟨g, 2, none⟩ = false
  f3 : W.frozen? ⟨g, 3, none⟩ = false

theorem b4_mk {W : World} {g : Nat} {t : TypeId} {a b c d : Int} (h : W.heap[g]? = some (.cells #[.int .i64 a, .int .i64 b, .int .i64 c, .int .i64 d] t (0, 0))) : B4 W g t a b c d := by
  refine ⟨h, ?_, ?_, ?_, ?_, ?_, ?_, ?_, ?_, ?_⟩
  · rcases Nat.lt_or_ge g W.heap.size with q | q
    · exact q
    · rw [Array.getElem?_eq_none q] at h; cases h
  all_goals simp [World.cell?, World.frozen?, h]

theorem B4.of_block {W W' : World} {g : Nat} {t : TypeId} {a b c d : Int} (h : B4 W g t a b c d) (e : W'.heap[g]? = W.heap[g]?) : B4 W' g t a b c d := b4_mk (e.trans h.blk)

theorem B4.kept {W W' : World} {g : Nat} {t : TypeId} {a b c d : Int} (h : B4 W g t a b c d) (k : Kp W W') : B4 W' g t a b c d := h.of_block (k.block g h.lt)

theorem B4.other {W : World} {g : Nat} {t : TypeId} {a b c d : Int} (h : B4 W g t a b c d) {p : Addr} (hp : p.block ≠ g) (v : Value) : B4 (W.setCell p v) g t a b c d := h.of_block (heap_setCell_other W p g v (fun e => hp e.symm))

theorem B4.set0 {W : World} {g : Nat} {t : TypeId} {a b c d : Int} (h : B4 W g t a b c d) (x : Int) : B4 (W.setCell ⟨g, 0, none⟩ (.int .i64 x)) g t x b c d := b4_mk ((heap_setCell_same W g 0 _ _ _ h.blk).trans rfl)
theorem B4.set1 {W : World} {g : Nat} {t : TypeId} {a b c d : Int} (h : B4 W g t a b c d) (x : Int) : B4 (W.setCell ⟨g, 1, none⟩ (.int .i64 x)) g t a x c d := b4_mk ((heap_setCell_same W g 1 _ _ _ h.blk).trans rfl)
theorem B4.set2 {W : World} {g : Nat} {t : TypeId} {a b c d : Int} (h : B4 W g t a b c d) (x : Int) : B4 (W.setCell ⟨g, 2, none⟩ (.int .i64 x)) g t a b x d := b4_mk ((heap_setCell_same W g 2 _ _ _ h.blk).trans rfl)
theorem B4.set3 {W : World} {g : Nat} {t : TypeId} {a b c d : Int} (h : B4 W g t a b c d) (x : Int) : B4 (W.setCell ⟨g, 3, none⟩ (.int .i64 x)) g t a b c x := b4_mk ((heap_setCell_same W g 3 _ _ _ h.blk).trans rfl)

/-- what lies there behind the call of Of: the meter's box, the results' box -/
theorem add_mid {w W w3 : World} {o1 o2 : Obj} {a b c d : Int} (e : W = (((w.alloc (.cells #[.int .i64 a, .int .i64 b, .int .i64 c, .int .i64 d] 36)).alloc o1).alloc o2).alloc (.cells #[.int .i64 0, .int .i64 0, .int .i64 0, .int .i64 0] 36)) (k : Kp W w3) :
    B4 w3 w.heap.size 36 a b c d ∧ B4 w3 (w.heap.size + 3) 36 0 0 0 0 := by
  subst e
  constructor
  · exact (b4_mk (heap_alloc_at w _)).kept (((((Kp.refl _).alloc _).alloc _).alloc _).trans k)
  · have q := (b4_mk (heap_alloc_at (((w.alloc (.cells #[.int .i64 a, .int .i64 b, .int .i64 c, .int .i64 d] 36)).alloc o1).alloc o2) (.cells #[.int .i64 0, .int .i64 0, .int .i64 0, .int .i64 0] 36))).kept k
    simp only [World.size_alloc] at q
    exact q

theorem cell_next (X : World) (v0 v1 v2 v3 v4 v5 : Value) (t : TypeId) (o3 : Obj) : ((X.alloc (.cells #[v0, v1, v2, v3, v4, v5] t)).alloc o3).cell? ⟨X.heap.size, 0, none⟩ = some v0 := by simp

theorem add_kind {w W w3 : World} {o0 o1 o3 : Obj} {v0 v1 v2 v3 v4 v5 : Value} {t : TypeId} (e : W = (((w.alloc o0).alloc o1).alloc (.cells #[v0, v1, v2, v3, v4, v5] t)).alloc o3) (k : Kp W w3) : w3.cell? ⟨w.heap.size + 2, 0, none⟩ = some v0 := by
  subst e
  have q : ((w.alloc o0).alloc o1).heap.size = w.heap.size + 2 := by simp only [World.size_alloc]
  rw [k.cell (show w.heap.size + 2 < _ by simp only [World.size_alloc]; omega), ← q]
  exact cell_next _ _ _ _ _ _ _ _ _

set_option maxHeartbeats 8000000 in
theorem add_any (a b c d : Int) (aL : Option Addr) (lL cL : Nat) (rL : List (List Int)) (aS : Option Addr) (lS cS : Nat) (rS : List (List Int)) (aD : Option Addr) (lD cD : Nat) (rD : List (List Int)) (idle crit sw swe sems hor : Int) (kind frm len arg task cyc : Int) (w : World)
    (h : Mach w aL lL rL aS lS rS aD lD rD) :
    Calls Try.prog 12 #[mv a b c d, pv aL lL cL aS lS cS aD lD cD idle crit sw swe sems hor, iv kind frm len arg task cyc] w
      fun e w' => e = .returned (mv (bump kind (cost lL rL lS rS idle swe kind len arg cyc) 0 a) (bump kind (cost lL rL lS rS idle swe kind len arg cyc) 1 b) (bump kind (cost lL rL lS rS idle swe kind len arg cyc) 2 c) (bump kind (cost lL rL lS rS idle swe kind len arg cyc) 3 d)) ∧ Kp w w' := by
  have HF : Hid (∀ w', Kp w w' → Calls Try.prog 10 #[pv aL lL cL aS lS cS aD lD cD idle crit sw swe sems hor, iv kind frm len arg task cyc] w' fun e w'' => e = .returned (.int .i64 (cost lL rL lS rS idle swe kind len arg cyc)) ∧ Kp w' w'') := fun w' k => of_any aL lL cL rL aS lS cS rS aD lD cD rD idle crit sw swe sems hor kind frm len arg task cyc w' (h.kept k)
  generalize cost lL rL lS rS idle swe kind len arg cyc = co at *
  have HA : Hid (∀ o1 o2 o3 o4, Kp w ((((w.alloc o1).alloc o2).alloc o3).alloc o4)) := fun o1 o2 o3 o4 => ((((Kp.refl w).alloc o1).alloc o2).alloc o3).alloc o4
  unfold pv iv mv at *
  by_cases c1 : kind = 1
  · subst c1
    go_enter Try.func12, Try.ntmps12
    go_wp2_with fail
    refine (HF.out _ (HA.out _ _ _ _)).mono ?_
    rintro e w3 ⟨rfl, k3⟩
    have i0 : w3.cell? ⟨w.heap.size + 2, 0, none⟩ = some (.int .i64 1) := add_kind rfl k3
    obtain ⟨M, R⟩ := add_mid rfl k3
    have K3 := (HA.out _ _ _ _).trans k3
    have HRr : Hid (B4 w3 (w.heap.size + 3) 36 0 0 0 0) := R
    obtain ⟨_, lm, m0, m1, m2, m3, g0, g1, g2, g3⟩ := M
    obtain ⟨_, lr, r0, r1, r2, r3, f0, f1, f2, f3⟩ := R
    clear k3
    go_wp2
    have Z := ((((HRr.out.other (p := ⟨w.heap.size, 0, none⟩) (by show w.heap.size ≠ w.heap.size + 3; omega) (.int .i64 (wrap64 (a + co)))).set0 (wrap64 (a + co))).set1 b).set2 c).set3 d
    exact bodyPost_ret (results_add _ _ (w.heap.size + 3) _ _ _ _ rfl Z.c0 Z.c1 Z.c2 Z.c3) rfl ⟨by simp [bump, place], (((((K3.setCell (p := ⟨w.heap.size, 0, none⟩) (Nat.le_refl _) _).setCell (p := ⟨w.heap.size + 3, 0, none⟩) (Nat.le_add_right _ _) _).setCell (p := ⟨w.heap.size + 3, 1, none⟩) (Nat.le_add_right _ _) _).setCell (p := ⟨w.heap.size + 3, 2, none⟩) (Nat.le_add_right _ _) _).setCell (p := ⟨w.heap.size + 3, 3, none⟩) (Nat.le_add_right _ _) _)⟩
  by_cases c2 : kind = 2
  · subst c2
    go_enter Try.func12, Try.ntmps12
    go_wp2_with fail
    refine (HF.out _ (HA.out _ _ _ _)).mono ?_
    rintro e w3 ⟨rfl, k3⟩
    have i0 : w3.cell? ⟨w.heap.size + 2, 0, none⟩ = some (.int .i64 2) := add_kind rfl k3
    obtain ⟨M, R⟩ := add_mid rfl k3
    have K3 := (HA.out _ _ _ _).trans k3
    have HRr : Hid (B4 w3 (w.heap.size + 3) 36 0 0 0 0) := R
    obtain ⟨_, lm, m0, m1, m2, m3, g0, g1, g2, g3⟩ := M
    obtain ⟨_, lr, r0, r1, r2, r3, f0, f1, f2, f3⟩ := R
    clear k3
    go_wp2
    have Z := ((((HRr.out.other (p := ⟨w.heap.size, 1, none⟩) (by show w.heap.size ≠ w.heap.size + 3; omega) (.int .i64 (wrap64 (b + co)))).set0 a).set1 (wrap64 (b + co))).set2 c).set3 d
    exact bodyPost_ret (results_add _ _ (w.heap.size + 3) _ _ _ _ rfl Z.c0 Z.c1 Z.c2 Z.c3) rfl ⟨by simp [bump, place], (((((K3.setCell (p := ⟨w.heap.size, 1, none⟩) (Nat.le_refl _) _).setCell (p := ⟨w.heap.size + 3, 0, none⟩) (Nat.le_add_right _ _) _).setCell (p := ⟨w.heap.size + 3, 1, none⟩) (Nat.le_add_right _ _) _).setCell (p := ⟨w.heap.size + 3, 2, none⟩) (Nat.le_add_right _ _) _).setCell (p := ⟨w.heap.size + 3, 3, none⟩) (Nat.le_add_right _ _) _)⟩
  by_cases c3 : kind = 3
  · subst c3
    go_enter Try.func12, Try.ntmps12
    go_wp2_with fail
    refine (HF.out _ (HA.out _ _ _ _)).mono ?_
    rintro e w3 ⟨rfl, k3⟩
    have i0 : w3.cell? ⟨w.heap.size + 2, 0, none⟩ = some (.int .i64 3) := add_kind rfl k3
    obtain ⟨M, R⟩ := add_mid rfl k3
    have K3 := (HA.out _ _ _ _).trans k3
    have HRr : Hid (B4 w3 (w.heap.size + 3) 36 0 0 0 0) := R
    obtain ⟨_, lm, m0, m1, m2, m3, g0, g1, g2, g3⟩ := M
    obtain ⟨_, lr, r0, r1, r2, r3, f0, f1, f2, f3⟩ := R
    clear k3
    go_wp2
    have Z := ((((HRr.out.other (p := ⟨w.heap.size, 2, none⟩) (by show w.heap.size ≠ w.heap.size + 3; omega) (.int .i64 (wrap64 (c + co)))).set0 a).set1 b).set2 (wrap64 (c + co))).set3 d
    exact bodyPost_ret (results_add _ _ (w.heap.size + 3) _ _ _ _ rfl Z.c0 Z.c1 Z.c2 Z.c3) rfl ⟨by simp [bump, place], (((((K3.setCell (p := ⟨w.heap.size, 2, none⟩) (Nat.le_refl _) _).setCell (p := ⟨w.heap.size + 3, 0, none⟩) (Nat.le_add_right _ _) _).setCell (p := ⟨w.heap.size + 3, 1, none⟩) (Nat.le_add_right _ _) _).setCell (p := ⟨w.heap.size + 3, 2, none⟩) (Nat.le_add_right _ _) _).setCell (p := ⟨w.heap.size + 3, 3, none⟩) (Nat.le_add_right _ _) _)⟩
  by_cases c4 : kind = 4
  · subst c4
    go_enter Try.func12, Try.ntmps12
    go_wp2_with fail
    refine (HF.out _ (HA.out _ _ _ _)).mono ?_
    rintro e w3 ⟨rfl, k3⟩
    have i0 : w3.cell? ⟨w.heap.size + 2, 0, none⟩ = some (.int .i64 4) := add_kind rfl k3
    obtain ⟨M, R⟩ := add_mid rfl k3
    have K3 := (HA.out _ _ _ _).trans k3
    have HRr : Hid (B4 w3 (w.heap.size + 3) 36 0 0 0 0) := R
    obtain ⟨_, lm, m0, m1, m2, m3, g0, g1, g2, g3⟩ := M
    obtain ⟨_, lr, r0, r1, r2, r3, f0, f1, f2, f3⟩ := R
    clear k3
    go_wp2
    have Z := ((((HRr.out.other (p := ⟨w.heap.size, 3, none⟩) (by show w.heap.size ≠ w.heap.size + 3; omega) (.int .i64 (wrap64 (d + co)))).set0 a).set1 b).set2 c).set3 (wrap64 (d + co))
    exact bodyPost_ret (results_add _ _ (w.heap.size + 3) _ _ _ _ rfl Z.c0 Z.c1 Z.c2 Z.c3) rfl ⟨by simp [bump, place], (((((K3.setCell (p := ⟨w.heap.size, 3, none⟩) (Nat.le_refl _) _).setCell (p := ⟨w.heap.size + 3, 0, none⟩) (Nat.le_add_right _ _) _).setCell (p := ⟨w.heap.size + 3, 1, none⟩) (Nat.le_add_right _ _) _).setCell (p := ⟨w.heap.size + 3, 2, none⟩) (Nat.le_add_right _ _) _).setCell (p := ⟨w.heap.size + 3, 3, none⟩) (Nat.le_add_right _ _) _)⟩
  by_cases c5 : kind = 5
  · subst c5
    go_enter Try.func12, Try.ntmps12
    go_wp2_with fail
    refine (HF.out _ (HA.out _ _ _ _)).mono ?_
    rintro e w3 ⟨rfl, k3⟩
    have i0 : w3.cell? ⟨w.heap.size + 2, 0, none⟩ = some (.int .i64 5) := add_kind rfl k3
    obtain ⟨M, R⟩ := add_mid rfl k3
    have K3 := (HA.out _ _ _ _).trans k3
    have HRr : Hid (B4 w3 (w.heap.size + 3) 36 0 0 0 0) := R
    obtain ⟨_, lm, m0, m1, m2, m3, g0, g1, g2, g3⟩ := M
    obtain ⟨_, lr, r0, r1, r2, r3, f0, f1, f2, f3⟩ := R
    clear k3
    go_wp2
    have Z := ((((HRr.out.other (p := ⟨w.heap.size, 3, none⟩) (by show w.heap.size ≠ w.heap.size + 3; omega) (.int .i64 (wrap64 (d + co)))).set0 a).set1 b).set2 c).set3 (wrap64 (d + co))
    exact bodyPost_ret (results_add _ _ (w.heap.size + 3) _ _ _ _ rfl Z.c0 Z.c1 Z.c2 Z.c3) rfl ⟨by simp [bump, place], (((((K3.setCell (p := ⟨w.heap.size, 3, none⟩) (Nat.le_refl _) _).setCell (p := ⟨w.heap.size + 3, 0, none⟩) (Nat.le_add_right _ _) _).setCell (p := ⟨w.heap.size + 3, 1, none⟩) (Nat.le_add_right _ _) _).setCell (p := ⟨w.heap.size + 3, 2, none⟩) (Nat.le_add_right _ _) _).setCell (p := ⟨w.heap.size + 3, 3, none⟩) (Nat.le_add_right _ _) _)⟩
  by_cases c6 : kind = 6
  · subst c6
    go_enter Try.func12, Try.ntmps12
    go_wp2_with fail
    refine (HF.out _ (HA.out _ _ _ _)).mono ?_
    rintro e w3 ⟨rfl, k3⟩
    have i0 : w3.cell? ⟨w.heap.size + 2, 0, none⟩ = some (.int .i64 6) := add_kind rfl k3
    obtain ⟨M, R⟩ := add_mid rfl k3
    have K3 := (HA.out _ _ _ _).trans k3
    have HRr : Hid (B4 w3 (w.heap.size + 3) 36 0 0 0 0) := R
    obtain ⟨_, lm, m0, m1, m2, m3, g0, g1, g2, g3⟩ := M
    obtain ⟨_, lr, r0, r1, r2, r3, f0, f1, f2, f3⟩ := R
    clear k3
    go_wp2
    have Z := ((((HRr.out.other (p := ⟨w.heap.size, 3, none⟩) (by show w.heap.size ≠ w.heap.size + 3; omega) (.int .i64 (wrap64 (d + co)))).set0 a).set1 b).set2 c).set3 (wrap64 (d + co))
    exact bodyPost_ret (results_add _ _ (w.heap.size + 3) _ _ _ _ rfl Z.c0 Z.c1 Z.c2 Z.c3) rfl ⟨by simp [bump, place], (((((K3.setCell (p := ⟨w.heap.size, 3, none⟩) (Nat.le_refl _) _).setCell (p := ⟨w.heap.size + 3, 0, none⟩) (Nat.le_add_right _ _) _).setCell (p := ⟨w.heap.size + 3, 1, none⟩) (Nat.le_add_right _ _) _).setCell (p := ⟨w.heap.size + 3, 2, none⟩) (Nat.le_add_right _ _) _).setCell (p := ⟨w.heap.size + 3, 3, none⟩) (Nat.le_add_right _ _) _)⟩
  go_enter Try.func12, Try.ntmps12
  go_wp2_with fail
  refine (HF.out _ (HA.out _ _ _ _)).mono ?_
  rintro e w3 ⟨rfl, k3⟩
  have i0 : w3.cell? ⟨w.heap.size + 2, 0, none⟩ = some (.int .i64 kind) := add_kind rfl k3
  obtain ⟨M, R⟩ := add_mid rfl k3
  have K3 := (HA.out _ _ _ _).trans k3
  have HRr : Hid (B4 w3 (w.heap.size + 3) 36 0 0 0 0) := R
  obtain ⟨_, lm, m0, m1, m2, m3, g0, g1, g2, g3⟩ := M
  obtain ⟨_, lr, r0, r1, r2, r3, f0, f1, f2, f3⟩ := R
  clear k3
  go_wp2
  have Z := (((HRr.out.set0 a).set1 b).set2 c).set3 d
  exact bodyPost_ret (results_add _ _ (w.heap.size + 3) _ _ _ _ rfl Z.c0 Z.c1 Z.c2 Z.c3) rfl ⟨by simp [bump, place, c1, c2, c3, c4, c5, c6], ((((K3.setCell (p := ⟨w.heap.size + 3, 0, none⟩) (Nat.le_add_right _ _) _).setCell (p := ⟨w.heap.size + 3, 1, none⟩) (Nat.le_add_right _ _) _).setCell (p := ⟨w.heap.size + 3, 2, none⟩) (Nat.le_add_right _ _) _).setCell (p := ⟨w.heap.size + 3, 3, none⟩) (Nat.le_add_right _ _) _)⟩

end Go.Proofs.Ytoinbdjjimfdgaa.MT
