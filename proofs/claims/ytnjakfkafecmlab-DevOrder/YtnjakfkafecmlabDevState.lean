/- A device's state, as the program and the document tell it. -/
import Derived.Test.YtnjakfkafecmlabDevFun
namespace Go.Proofs.Ytnjakfkafecmlab.DV
open Go.ChangeShapes Go.WideShapes Go.ChangeAt Go.RowKit Go.Proofs.Ytnjakfkafecmlab.AR Go.Proofs.Ytnjakfkafecmlab.TB

theorem box2_kp (w : World) (o p : Obj) : Kp w ((w.alloc o).alloc p) := ((Kp.refl _).alloc _).alloc _

/-- two boxes stay -/
theorem box2_cells {w w' : World} {on off down up downE upE even f u : Int} {t2 : TypeId} (k : Kp ((w.alloc (.cells #[.int .i64 on, .int .i64 off, .int .i64 down, .int .i64 up, .int .i64 downE, .int .i64 upE, .int .i64 even] 23)).alloc (.cells #[.int .i64 f, .int .i64 u] t2)) w') :
    w'.cell? ⟨w.heap.size + 1, 0, none⟩ = some (.int .i64 f) ∧ w'.cell? ⟨w.heap.size + 1, 1, none⟩ = some (.int .i64 u) ∧ w'.cell? ⟨w.heap.size, 2, none⟩ = some (.int .i64 down) ∧ w'.cell? ⟨w.heap.size, 3, none⟩ = some (.int .i64 up) ∧ w'.cell? ⟨w.heap.size, 6, none⟩ = some (.int .i64 even) := by
  rw [k.cell (by simp), k.cell (by simp), k.cell (by simp; omega), k.cell (by simp; omega), k.cell (by simp; omega)]
  simp

set_option maxHeartbeats 4000000 in
theorem state_any (on off down up downE upE even f u now : Int) (w : World) (hd : 0 ≤ down ∧ down ≤ 256) (hu : 0 ≤ up ∧ up ≤ 256) (hf : Mo f) (hv : Mo u) :
    Calls Try.prog 6 #[.agg #[.int .i64 on, .int .i64 off, .int .i64 down, .int .i64 up, .int .i64 downE, .int .i64 upE, .int .i64 even], .agg #[.int .i64 f, .int .i64 u], .int .i64 now] w
      fun e w' => e = .returned (.int .i64 (stI down up f u now)) ∧ Kp w w' := by
  have HB : Hid (∀ o p, Kp w ((w.alloc o).alloc p)) := box2_kp w
  have HC : Hid (∀ t2 w', _ → _) := fun t2 w' k => box2_cells (w := w) (w' := w') (on := on) (off := off) (down := down) (up := up) (downE := downE) (upE := upE) (even := even) (f := f) (u := u) (t2 := t2) k
  have HN : Hid (∀ W, Calls Try.prog 11 #[.agg #[.int .i64 f, .int .i64 u]] W fun e w' => e = .returned (.bool (nvB f u)) ∧ Kp W w') := fun W => never_any f u W
  obtain ⟨f1, f2⟩ := hf
  obtain ⟨u1, u2⟩ := hv
  obtain ⟨d1, d2⟩ := hd
  obtain ⟨p1, p2⟩ := hu
  by_cases hn : f = 0 ∧ u = 0
  · have HR : Hid (stI down up f u now = 1) := if_pos (.inl hn)
    rw [HR.out]; clear HR
    rw [nvB_t.2 hn] at HN
    clear hn
    go_enter Try.func6, Try.ntmps6
    go_wp2_with (first
      | (go_at_call 11; refine (HN.out _).mono ?_; rintro e w1 ⟨rfl, k1⟩; have K1 := (HB.out _ _).trans k1; obtain ⟨c0, c1, c2, c3, c4⟩ := HC.out _ _ k1)
      | fail)
    go_ret
    exact ⟨rfl, K1⟩
  · rw [nvB_f.2 hn] at HN
    by_cases a0 : now < f
    · have HR : Hid (stI down up f u now = 1) := if_pos (.inr (.inl a0))
      rw [HR.out]; clear HR
      go_enter Try.func6, Try.ntmps6
      go_wp2_with (first
        | (go_at_call 11; refine (HN.out _).mono ?_; rintro e w1 ⟨rfl, k1⟩; have K1 := (HB.out _ _).trans k1; obtain ⟨c0, c1, c2, c3, c4⟩ := HC.out _ _ k1)
        | fail)
      go_ret
      exact ⟨rfl, K1⟩
    · by_cases a1 : u ≤ now
      · have HR : Hid (stI down up f u now = 1) := if_pos (.inr (.inr a1))
        rw [HR.out]; clear HR
        go_enter Try.func6, Try.ntmps6
        go_wp2_with (first
          | (go_at_call 11; refine (HN.out _).mono ?_; rintro e w1 ⟨rfl, k1⟩; have K1 := (HB.out _ _).trans k1; obtain ⟨c0, c1, c2, c3, c4⟩ := HC.out _ _ k1)
          | fail)
        go_ret
        exact ⟨rfl, K1⟩
      · by_cases a2 : now < f + down
        · have HR : Hid (stI down up f u now = 3) := (if_neg (by omega)).trans (if_pos a2)
          rw [HR.out]; clear HR
          go_enter Try.func6, Try.ntmps6
          go_wp2_with (first
            | (go_at_call 11; refine (HN.out _).mono ?_; rintro e w1 ⟨rfl, k1⟩; have K1 := (HB.out _ _).trans k1; obtain ⟨c0, c1, c2, c3, c4⟩ := HC.out _ _ k1)
            | fail)
          go_ret
          exact ⟨rfl, K1⟩
        · by_cases a3 : now < u - up
          · have HR : Hid (stI down up f u now = 2) := (if_neg (by omega)).trans ((if_neg a2).trans (if_pos a3))
            rw [HR.out]; clear HR
            go_enter Try.func6, Try.ntmps6
            go_wp2_with (first
              | (go_at_call 11; refine (HN.out _).mono ?_; rintro e w1 ⟨rfl, k1⟩; have K1 := (HB.out _ _).trans k1; obtain ⟨c0, c1, c2, c3, c4⟩ := HC.out _ _ k1)
              | fail)
            go_ret
            exact ⟨rfl, K1⟩
          · have HR : Hid (stI down up f u now = 4) := (if_neg (by omega)).trans ((if_neg a2).trans (if_neg a3))
            rw [HR.out]; clear HR
            go_enter Try.func6, Try.ntmps6
            go_wp2_with (first
              | (go_at_call 11; refine (HN.out _).mono ?_; rintro e w1 ⟨rfl, k1⟩; have K1 := (HB.out _ _).trans k1; obtain ⟨c0, c1, c2, c3, c4⟩ := HC.out _ _ k1)
              | fail)
            go_ret
            exact ⟨rfl, K1⟩

end Go.Proofs.Ytnjakfkafecmlab.DV
