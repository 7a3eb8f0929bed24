/- If nothing is held the first job runs. -/
import Derived.Test.YteegjgecaopnlaaPckAns
namespace Go.Proofs.Yteegjgecaopnlaa.PK
open Go.ChangeShapes Go.WideShapes Go.ChangeAt Go.RowKit Go.Proofs.Yteegjgecaopnlaa.AR Go.Proofs.Yteegjgecaopnlaa.TB Go.Proofs.Yteegjgecaopnlaa.TK Go.Proofs.Yteegjgecaopnlaa.JB Go.Proofs.Yteegjgecaopnlaa.RW

set_option maxHeartbeats 8000000 in
theorem pickFree_walk (ao : Option Addr) (len cap : Nat) (L : List Tk) (jo : Option Addr) (jl jc : Nat) (J : List Jb) (zo : Option Addr) (zl zc : Nat) (Z : List Int) (w : World) (h : LAt w ao len L) (_ : len * 64 ≤ 140737488351232) (hj : JsAt w jo jl J) (hz1 : IntsAt w zo zl Z) (hz2 : zl * 8 ≤ 140737488351232) :
    Calls Try.prog 5 #[.slice ao len cap, .slice jo jl jc, .slice zo zl zc] w fun e w' => e = .returned (.bool true) ∧ Below w.heap.size w w' := by
  have hz : NAt w zo zl Z := ⟨hz1, hz2⟩
  have HE : Hid (∀ w', Kp w w' → Below w.heap.size w w') := fun w' q => q
  by_cases h0 : jl = 0
  · subst h0
    clear h hj hz hz1 hz2
    go_enter Try.func5, Try.ntmps5
    try dsimp only [List.append]
    go_wp2_with (first
      | (go_at_call 9; refine (panswers_any _).mono ?_; rintro e w3 ⟨rfl, k3⟩)
      | fail)
    go_ret
    exact ⟨rfl, HE.out _ k3⟩
  · obtain ⟨b, off, j, rfl, hb, hg, hi, c0, c1, c2, c3, c4, c5⟩ := hj.one (k := 0) (by omega)
    simp only [Nat.zero_mul, Nat.add_zero] at c0 c1 c2 c3 c4 c5
    have hd : decide (0 < jl) = true := by simp; omega
    have hjl : ((jl : Int) == 0) = false := by simp; omega
    have hjl2 : (0 : Int) < (jl : Int) := by omega
    have HC : Hid (∀ W, Kp w W → W.cell? ⟨b, off, none⟩ = some (.int .i64 j.t)) := fun W k => (k.cell (by exact hb)).trans c0
    have H0 : perI L j.t < 1099511627776 → Hid (∀ W, Kp w W → Calls Try.prog 7 #[.slice ao len cap, .slice (some ⟨b, off, none⟩) jl jc, .slice zo zl zc, .int .i64 1099511627776] W fun e w'' => e = .returned (.tuple #[.int .i64 j.t, .bool true]) ∧ Kp W w'') := fun hp W k => by
      have := choose_any ao len cap L _ jl jc J zo zl zc Z 1099511627776 W (h.kept k) (hj.kept k) (hz.kept k)
      rw [hd, chI_below hg hp] at this
      exact this
    have HT := num_ways j.t h
    clear h hj hz hz1 hz2 hg hi
    generalize hx : j.t = x at *
    generalize hpx : perI L x = y at *
    clear hx hpx
    rcases HT with ⟨g1, rfl⟩ | ⟨g1, g2, rfl⟩ | ⟨k, b', o', g1, rfl, rfl, hb', d0'⟩
    · have H1 := H0 (by omega)
      clear H0
      go_enter Try.func5, Try.ntmps5
      try dsimp only [List.append]
      go_wp2_with (first
        | (go_at_call 7; refine (H1.out _ (Kp.refl _)).mono ?_; rintro e w1 ⟨rfl, k1⟩)
        | (go_at_call 9; refine (panswers_any _).mono ?_; rintro e w3 ⟨rfl, k3⟩; have d0 := HC.out _ (k1.trans k3))
        | fail)
      go_ret
      exact ⟨by simp, HE.out _ (k1.trans k3)⟩
    · have H1 := H0 (by omega)
      clear H0
      go_enter Try.func5, Try.ntmps5
      try dsimp only [List.append]
      go_wp2_with (first
        | (go_at_call 7; refine (H1.out _ (Kp.refl _)).mono ?_; rintro e w1 ⟨rfl, k1⟩)
        | (go_at_call 9; refine (panswers_any _).mono ?_; rintro e w3 ⟨rfl, k3⟩; have d0 := HC.out _ (k1.trans k3))
        | fail)
      go_ret
      exact ⟨by simp, HE.out _ (k1.trans k3)⟩
    · have g2 : ¬ (k : Int) < 0 := by omega
      have g3 : (k : Int) < (len : Int) := by omega
      by_cases hp : y < 1099511627776
      · have H1 := H0 hp
        have hp2 : ¬ 1099511627776 ≤ y := by omega
        clear H0
        go_enter Try.func5, Try.ntmps5
        try dsimp only [List.append]
        go_wp2_with (first
          | (go_at_call 7; refine (H1.out _ (Kp.refl _)).mono ?_; rintro e w1 ⟨rfl, k1⟩)
          | (go_at_call 9; refine (panswers_any _).mono ?_; rintro e w3 ⟨rfl, k3⟩; have d0 := HC.out _ (k1.trans k3))
          | fail)
        go_ret
        exact ⟨by simp, HE.out _ (k1.trans k3)⟩
      · have hp2 : 1099511627776 ≤ y := by omega
        clear H0
        go_enter Try.func5, Try.ntmps5
        try dsimp only [List.append]
        go_wp2_with (first
          | (go_at_call 9; refine (panswers_any _).mono ?_; rintro e w3 ⟨rfl, k3⟩)
          | fail)
        go_ret
        exact ⟨rfl, HE.out _ k3⟩

end Go.Proofs.Yteegjgecaopnlaa.PK
