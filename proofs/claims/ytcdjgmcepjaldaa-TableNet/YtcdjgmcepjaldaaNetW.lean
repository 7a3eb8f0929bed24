/- In a machine that may be, of two levels up to Crit the slower one takes no more energy for a cycle, but for what the CPU would cost idle meanwhile. -/
import Derived.Test.YtcdjgmcepjaldaaAns
import Derived.BigRegion
namespace Go.Proofs.Ytcdjgmcepjaldaa.TB
open Go.ChangeShapes Go.WideShapes Go.ChangeAt Go.RowKit Go.Proofs.Ytcdjgmcepjaldaa.AR

theorem net_falls {n : Nat} {r : List (List Int)} {idle crit : Int} (h : Slow n r idle crit) (hc : crit ≤ (n : Int) - 1) {m : Nat} : ∀ {k : Nat}, m ≤ k → (k : Int) ≤ crit → net r idle k ≤ net r idle m
  | 0, h1, h2 => by obtain rfl : m = 0 := by omega
                    exact Int.le_refl _
  | k + 1, h1, h2 => by
    by_cases e : m = k + 1
    · subst e; exact Int.le_refl _
    · have a := net_falls h hc (m := m) (k := k) (by omega) (by omega)
      have b := h (k + 1) (by omega) (by omega) h2
      simp only [Nat.add_sub_cancel] at b
      omega

theorem lev_rises {n : Nat} {r : List (List Int)} (h : ∀ i, i < n → Lev r i) {m : Nat} : ∀ {k : Nat}, m < k → k < n → fd r m 0 < fd r k 0
  | 0, h1, _ => by omega
  | k + 1, h1, h2 => by
    have a := (h (k + 1) h2).1.1
    simp only [ahd] at a
    by_cases e : m = k
    · subst e; omega
    · have b := lev_rises h (m := m) (k := k) (by omega) (by omega)
      omega

/-- what the statement says of two levels -/
theorem net_said {lL : Nat} {rL : List (List Int)} {lS : Nat} {rS : List (List Int)} {lD : Nat} {rD : List (List Int)} {idle crit sw swe sems hor : Int} {m k : Nat}
    (h : mayB lL rL lS rS lD rD idle crit sw swe sems hor = true) (hmk : m ≤ k) (hk : (k : Int) ≤ crit) :
    k < lL ∧ net rL idle k ≤ net rL idle m ∧ fd rL m 0 ≤ fd rL k 0 ∧ (m = k ∨ fd rL m 0 < fd rL k 0) ∧
      wrap64 (fd rL k 1 - wrap64 (fd rL k 0 * idle)) = net rL idle k ∧ wrap64 (fd rL m 1 - wrap64 (fd rL m 0 * idle)) = net rL idle m := by
  obtain ⟨q1, q2, q3, q4, q5⟩ := mayB_t.1 h
  have hc := q1.2.1
  have hl : k < lL := by omega
  refine ⟨hl, net_falls q3 hc.2 hmk hk, ?_, ?_, net_bound q2.2 hl q1.1, net_bound q2.2 (by omega) q1.1⟩
  · by_cases e : m = k
    · subst e; exact Int.le_refl _
    · exact Int.le_of_lt (lev_rises q2.2 (by omega) hl)
  · by_cases e : m = k
    · exact .inl e
    · exact .inr (lev_rises q2.2 (by omega) hl)

/-- two new records stay as they are -/
theorem two_new {w1 w2 : World} {a1 a2 b1 b2 : Value} (k : Kp ((w1.alloc (.cells #[a1, a2] 38)).alloc (.cells #[b1, b2] 38)).drew w2) :
    w2.cell? ⟨w1.heap.size, 0, none⟩ = some a1 ∧ w2.cell? ⟨w1.heap.size, 1, none⟩ = some a2 ∧ w2.cell? ⟨w1.heap.size + 1, 0, none⟩ = some b1 ∧ w2.cell? ⟨w1.heap.size + 1, 1, none⟩ = some b2 ∧ Kp w1 w2 := by
  have k' : Kp ((w1.alloc (.cells #[a1, a2] 38)).alloc (.cells #[b1, b2] 38)) w2 := (kp_drew _).trans k
  have h0 : ∀ i, w2.cell? ⟨w1.heap.size, i, none⟩ = (w1.alloc (.cells #[a1, a2] 38)).cell? ⟨w1.heap.size, i, none⟩ := fun i => by
    rw [k'.cell (by simp; omega)]
    exact World.cell?_alloc_lt _ _ _ (by simp)
  have h1 : ∀ i, w2.cell? ⟨w1.heap.size + 1, i, none⟩ = #[b1, b2][i]? := fun i => by
    rw [k'.cell (by simp)]
    have := World.cell?_alloc_new (w1.alloc (.cells #[a1, a2] 38)) #[b1, b2] 38 i
    rw [World.size_alloc] at this
    exact this
  refine ⟨?_, ?_, ?_, ?_, (((Kp.refl w1).alloc _).alloc _).trans k'⟩
  · rw [h0]; simp
  · rw [h0]; simp
  · rw [h1]; simp
  · rw [h1]; simp

theorem mod4 {a : Int} (h : (Lit.int .u8 a).wf = true) : ∃ x : Nat, x < 4 ∧ wrap64 (a.tmod 4) = x := by
  simp [Lit.wf, IntKind.min, IntKind.max, IntKind.signed, IntKind.bits] at h
  have e : a.tmod 4 = a % 4 := Int.tmod_eq_emod_of_nonneg (by omega)
  refine ⟨(a % 4).toNat, by omega, ?_⟩
  rw [e, IntWalk.wrap64_in _ (by omega)]
  omega

set_option maxHeartbeats 4000000 in
theorem tableNet_walk (aL : Option Addr) (lL cL : Nat) (rL : List (List Int)) (aS : Option Addr) (lS cS : Nat) (rS : List (List Int)) (aD : Option Addr) (lD cD : Nat) (rD : List (List Int)) (idle crit sw swe sems hor : Int) (a b : Int) (w : World)
    (h : Mach w aL lL rL aS lS rS aD lD rD) (ha : (Lit.int .u8 a).wf = true) (hb : (Lit.int .u8 b).wf = true) :
    Calls Try.prog 5 #[pv aL lL cL aS lS cS aD lD cD idle crit sw swe sems hor, .int .u8 a, .int .u8 b] w
      fun e w' => e = .returned (.bool true) ∧ Below w.heap.size w w' := by
  have HB : Hid (∀ o, Kp w (w.alloc o)) := fun o => (Kp.refl w).alloc o
  have HE : Hid (∀ w', Kp w w' → Below w.heap.size w w') := fun w' q => q
  have et : Hid (erc true = 0) := rfl
  have ef : Hid (erc false = 2) := rfl
  obtain ⟨x, hx, ex⟩ := mod4 ha
  obtain ⟨y, hy, ey⟩ := mod4 hb
  clear ha hb
  have EX : Hid (wrap64 (a.tmod 4) = x) := ex
  have EY : Hid (wrap64 (b.tmod 4) = y) := ey
  clear ex ey
  unfold pv
  by_cases g : wrap64 (b.tmod 4) < wrap64 (a.tmod 4)
  · have hcmp : y < x := by rw [EX.out, EY.out] at g; omega
    go_enter Try.func5, Try.ntmps5
    try dsimp only [List.append]
    go_wp2_with fail
    clear g
    rw [EX.out, EY.out]
    refine (check_any aL lL cL rL aS lS cS rS aD lD cD rD _ _ _ _ _ _ _ (h.kept (HB.out _))).mono ?_
    rintro e w1 ⟨rfl, k1⟩
    obtain ⟨d0, d1, d2, d3, d4, d5, d6, d7, d8⟩ := box_cells k1
    have hsz : w.heap.size < w1.heap.size := by have := k1.size; simp at this; omega
    have hne : w.heap.size ≠ w1.heap.size := Nat.ne_of_lt hsz
    have K1 := (HB.out _).trans k1
    clear k1 d1 d2 d5 d6 d7 d8
    cases hm : mayB lL rL lS rS lD rD idle crit sw swe sems hor with
    | false =>
      rw [ef.out]
      go_wp2_with fail
      refine (tanswers_any _).mono ?_
      rintro e w2 ⟨rfl, k2⟩
      go_wp2
      go_ret
      exact ⟨rfl, HE.out _ (K1.trans k2)⟩
    | true =>
      rw [et.out]
      by_cases hc : (x : Int) ≤ crit
      · obtain ⟨hl, n1, n2, n3, n4, n5⟩ := net_said (m := y) (k := x) hm (by omega) hc
        clear hm
        have N : Hid (net rL idle x ≤ net rL idle y ∧ fd rL y 0 ≤ fd rL x 0 ∧ (y = x ∨ fd rL y 0 < fd rL x 0) ∧ wrap64 (fd rL x 1 - wrap64 (fd rL x 0 * idle)) = net rL idle x ∧ wrap64 (fd rL y 1 - wrap64 (fd rL y 0 * idle)) = net rL idle y) := ⟨n1, n2, n3, n4, n5⟩
        clear n1 n2 n3 n4 n5
        obtain ⟨bk, off, rfl, hbk, hcc⟩ := fd_at h.lev hl K1
        have c0 := hcc 0 (by omega)
        have c1 := hcc 1 (by omega)
        obtain ⟨_, hcc'⟩ := fd_in (k := y) h.lev (by omega) K1
        have e0 := hcc' 0 (by omega)
        have e1 := hcc' 1 (by omega)
        clear hcc hcc'
        simp only [Nat.add_zero] at c0 e0
        have hx1 : (x : Int) < lL := by omega
        have hx2 : (y : Int) < lL := by omega
        generalize fd rL x 0 = pk at *
        generalize fd rL x 1 = ek at *
        generalize fd rL y 0 = pm at *
        generalize fd rL y 1 = em at *
        go_wp2_with fail
        go_region
        all_goals
          go_wp2_with fail
          refine (tanswers_any _).mono ?_
          rintro e w2 ⟨rfl, k2⟩
          obtain ⟨z0, z1, z2, z3, z4⟩ := two_new k2
          have z5 := (z4.cell (p := ⟨w.heap.size, 3, none⟩) hsz).trans d3
          have K2 := K1.trans z4
          clear k2 z4 d0 d3 d4 c0 c1 e0 e1
          obtain ⟨n1, n2, n3, n4, n5⟩ := N.out
          rw [← n4, ← n5] at n1
          clear n4 n5
          by_cases hmk : y = x
          · have hq : ((y : Int) == (x : Int)) = true := by simp [hmk]
            have HK : Hid (y = x) := hmk
            clear hmk n3
            go_wp2
            go_ret
            exact ⟨rfl, HE.out _ K2⟩
          · have hq : ((y : Int) == (x : Int)) = false := by simp; omega
            have n6 : pm < pk := n3.resolve_left hmk
            clear n3
            go_wp2
            go_ret
            exact ⟨rfl, HE.out _ K2⟩
      · go_wp2_with fail
        refine (tanswers_any _).mono ?_
        rintro e w2 ⟨rfl, k2⟩
        go_wp2
        go_ret
        exact ⟨rfl, HE.out _ (K1.trans k2)⟩
  · have hcmp : x ≤ y := by rw [EX.out, EY.out] at g; omega
    go_enter Try.func5, Try.ntmps5
    try dsimp only [List.append]
    go_wp2_with fail
    clear g
    rw [EX.out, EY.out]
    refine (check_any aL lL cL rL aS lS cS rS aD lD cD rD _ _ _ _ _ _ _ (h.kept (HB.out _))).mono ?_
    rintro e w1 ⟨rfl, k1⟩
    obtain ⟨d0, d1, d2, d3, d4, d5, d6, d7, d8⟩ := box_cells k1
    have hsz : w.heap.size < w1.heap.size := by have := k1.size; simp at this; omega
    have hne : w.heap.size ≠ w1.heap.size := Nat.ne_of_lt hsz
    have K1 := (HB.out _).trans k1
    clear k1 d1 d2 d5 d6 d7 d8
    cases hm : mayB lL rL lS rS lD rD idle crit sw swe sems hor with
    | false =>
      rw [ef.out]
      go_wp2_with fail
      refine (tanswers_any _).mono ?_
      rintro e w2 ⟨rfl, k2⟩
      go_wp2
      go_ret
      exact ⟨rfl, HE.out _ (K1.trans k2)⟩
    | true =>
      rw [et.out]
      by_cases hc : (y : Int) ≤ crit
      · obtain ⟨hl, n1, n2, n3, n4, n5⟩ := net_said (m := x) (k := y) hm (by omega) hc
        clear hm
        have N : Hid (net rL idle y ≤ net rL idle x ∧ fd rL x 0 ≤ fd rL y 0 ∧ (x = y ∨ fd rL x 0 < fd rL y 0) ∧ wrap64 (fd rL y 1 - wrap64 (fd rL y 0 * idle)) = net rL idle y ∧ wrap64 (fd rL x 1 - wrap64 (fd rL x 0 * idle)) = net rL idle x) := ⟨n1, n2, n3, n4, n5⟩
        clear n1 n2 n3 n4 n5
        obtain ⟨bk, off, rfl, hbk, hcc⟩ := fd_at h.lev hl K1
        have c0 := hcc 0 (by omega)
        have c1 := hcc 1 (by omega)
        obtain ⟨_, hcc'⟩ := fd_in (k := x) h.lev (by omega) K1
        have e0 := hcc' 0 (by omega)
        have e1 := hcc' 1 (by omega)
        clear hcc hcc'
        simp only [Nat.add_zero] at c0 e0
        have hx1 : (y : Int) < lL := by omega
        have hx2 : (x : Int) < lL := by omega
        generalize fd rL y 0 = pk at *
        generalize fd rL y 1 = ek at *
        generalize fd rL x 0 = pm at *
        generalize fd rL x 1 = em at *
        go_wp2_with fail
        go_region
        all_goals
          go_wp2_with fail
          refine (tanswers_any _).mono ?_
          rintro e w2 ⟨rfl, k2⟩
          obtain ⟨z0, z1, z2, z3, z4⟩ := two_new k2
          have z5 := (z4.cell (p := ⟨w.heap.size, 3, none⟩) hsz).trans d3
          have K2 := K1.trans z4
          clear k2 z4 d0 d3 d4 c0 c1 e0 e1
          obtain ⟨n1, n2, n3, n4, n5⟩ := N.out
          rw [← n4, ← n5] at n1
          clear n4 n5
          by_cases hmk : x = y
          · have hq : ((x : Int) == (y : Int)) = true := by simp [hmk]
            have HK : Hid (x = y) := hmk
            clear hmk n3
            go_wp2
            go_ret
            exact ⟨rfl, HE.out _ K2⟩
          · have hq : ((x : Int) == (y : Int)) = false := by simp; omega
            have n6 : pm < pk := n3.resolve_left hmk
            clear n3
            go_wp2
            go_ret
            exact ⟨rfl, HE.out _ K2⟩
      · go_wp2_with fail
        refine (tanswers_any _).mono ?_
        rintro e w2 ⟨rfl, k2⟩
        go_wp2
        go_ret
        exact ⟨rfl, HE.out _ (K1.trans k2)⟩

end Go.Proofs.Ytcdjgmcepjaldaa.TB
