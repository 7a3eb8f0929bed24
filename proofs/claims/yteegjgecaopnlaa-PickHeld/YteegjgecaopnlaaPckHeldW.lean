/- A job that is not started, of a period that is not below the ceiling, waits for whoever was started last. -/
import Derived.Test.YteegjgecaopnlaaPckAns
namespace Go.Proofs.Yteegjgecaopnlaa.PK
open Go.ChangeShapes Go.WideShapes Go.ChangeAt Go.RowKit Go.Proofs.Yteegjgecaopnlaa.AR Go.Proofs.Yteegjgecaopnlaa.TB Go.Proofs.Yteegjgecaopnlaa.TK Go.Proofs.Yteegjgecaopnlaa.JB Go.Proofs.Yteegjgecaopnlaa.RW

set_option maxHeartbeats 8000000 in
theorem pickHeld_walk (ao : Option Addr) (len cap : Nat) (L : List Tk) (jo : Option Addr) (jl jc : Nat) (J : List Jb) (zo : Option Addr) (zl zc : Nat) (Z : List Int) (c : Int) (w : World) (h : LAt w ao len L) (_ : len * 64 ≤ 140737488351232) (hj : JsAt w jo jl J) (hz1 : IntsAt w zo zl Z) (hz2 : zl * 8 ≤ 140737488351232) (_ : (Lit.int .i64 c).wf = true) :
    Calls Try.prog 6 #[.slice ao len cap, .slice jo jl jc, .slice zo zl zc, .int .i64 c] w fun e w' => e = .returned (.bool true) ∧ Below w.heap.size w w' := by
  have hz : NAt w zo zl Z := ⟨hz1, hz2⟩
  have HE : Hid (∀ w', Kp w w' → Below w.heap.size w w') := fun w' q => q
  by_cases h0 : jl = 0
  · subst h0
    clear h hj hz hz1 hz2
    go_enter Try.func6, Try.ntmps6
    try dsimp only [List.append]
    go_wp2_with (first
      | (go_at_call 9; refine (panswers_any _).mono ?_; rintro e w3 ⟨rfl, k3⟩)
      | fail)
    go_ret
    exact ⟨rfl, HE.out _ k3⟩
  · obtain ⟨b, off, j, rfl, hb, hg, hi, c0, c1, c2, c3, c4, c5⟩ := hj.one (k := 0) (by omega)
    simp only [Nat.zero_mul, Nat.add_zero] at c0 c1 c2 c3 c4 c5
    have hd : decide (0 < jl) = true := by simp; omega
    have hjl : ((jl : Int) == 0) = false := by simp; omega
    have hjl2 : (0 : Int) < (jl : Int) := by omega
    have HC : Hid (∀ W, Kp w W → W.cell? ⟨b, off, none⟩ = some (.int .i64 j.t)) := fun W k => (k.cell (by exact hb)).trans c0
    cases hzl : zl with
    | zero =>
      subst hzl
      clear h hj hz hz1 hz2 hg hi
      go_enter Try.func6, Try.ntmps6
      try dsimp only [List.append]
      go_wp2_with (first
        | (go_at_call 9; refine (panswers_any _).mono ?_; rintro e w3 ⟨rfl, k3⟩)
        | fail)
      go_ret
      exact ⟨rfl, HE.out _ k3⟩
    | succ z =>
      subst hzl
      obtain ⟨bz, oz, rfl, hbz, cz⟩ := hz.one (k := z) (by omega)
      have hZ := hz.at'.1
      have HZ : Hid (∀ W, Kp w W → W.cell? ⟨bz, oz + z, none⟩ = some (.int .i64 (Z.getD z 0))) := fun W k => (k.cell (by exact hbz)).trans cz
      have z1 : ((z : Int) + 1 == 0) = false := by simp; omega
      have z2 : wrap64 (z : Int) = (z : Int) := IntWalk.wrap64_in _ (by omega)
      have z3 : IntKind.i64.wrap (z : Int) = (z : Int) := by rw [IntWalk.i64_left, z2]
      cases hs : j.s with
      | true =>
        rw [hs] at c5
        clear h hj hz hz1 hz2 hg hi hs
        go_enter Try.func6, Try.ntmps6
        try dsimp only [List.append]
        go_wp2_with (first
          | (go_at_call 9; refine (panswers_any _).mono ?_; rintro e w3 ⟨rfl, k3⟩)
          | fail)
        go_ret
        exact ⟨rfl, HE.out _ k3⟩
      | false =>
        rw [hs] at c5
        have H0 : ¬ perI L j.t < c → Hid (∀ W, Kp w W → Calls Try.prog 7 #[.slice ao len cap, .slice (some ⟨b, off, none⟩) jl jc, .slice (some ⟨bz, oz, none⟩) (z + 1) zc, .int .i64 c] W fun e w'' => e = .returned (.tuple #[.int .i64 (Z.getD z 0), .bool true]) ∧ Kp W w'') := fun hp W k => by
          have := choose_any ao len cap L _ jl jc J _ (z + 1) zc Z c W (h.kept k) (hj.kept k) (hz.kept k)
          rw [hd, chI_last hg hs hp (by omega), hZ] at this
          exact this
        have HT := num_ways j.t h
        clear h hj hz hz1 hz2 hg hi hs hZ
        generalize Z.getD z 0 = zz at *
        generalize hx : j.t = x at *
        generalize hpx : perI L x = y at *
        clear hx hpx
        rcases HT with ⟨g1, rfl⟩ | ⟨g1, g2, rfl⟩ | ⟨k, b', o', g1, rfl, rfl, hb', d0'⟩
        · clear H0
          go_enter Try.func6, Try.ntmps6
          try dsimp only [List.append]
          go_wp2_with (first
            | (go_at_call 9; refine (panswers_any _).mono ?_; rintro e w3 ⟨rfl, k3⟩)
            | fail)
          go_ret
          exact ⟨rfl, HE.out _ k3⟩
        · clear H0
          go_enter Try.func6, Try.ntmps6
          try dsimp only [List.append]
          go_wp2_with (first
            | (go_at_call 9; refine (panswers_any _).mono ?_; rintro e w3 ⟨rfl, k3⟩)
            | fail)
          go_ret
          exact ⟨rfl, HE.out _ k3⟩
        · have g2 : ¬ (k : Int) < 0 := by omega
          have g3 : (k : Int) < (len : Int) := by omega
          by_cases hp : y < c
          · clear H0
            go_enter Try.func6, Try.ntmps6
            try dsimp only [List.append]
            go_wp2_with (first
              | (go_at_call 9; refine (panswers_any _).mono ?_; rintro e w3 ⟨rfl, k3⟩)
              | fail)
            go_ret
            exact ⟨rfl, HE.out _ k3⟩
          · have H1 := H0 hp
            have hp2 : decide (y < c) = false := by simp only [decide_eq_false_iff_not]; exact hp
            clear H0
            go_enter Try.func6, Try.ntmps6
            try dsimp only [List.append]
            go_wp2_with (first
              | (go_at_call 7; refine (H1.out _ (Kp.refl _)).mono ?_; rintro e w1 ⟨rfl, k1⟩)
              | (go_at_call 9; refine (panswers_any _).mono ?_; rintro e w3 ⟨rfl, k3⟩; have d0 := HZ.out _ (k1.trans k3))
              | fail)
            go_ret
            exact ⟨by simp, HE.out _ (k1.trans k3)⟩

end Go.Proofs.Yteegjgecaopnlaa.PK
