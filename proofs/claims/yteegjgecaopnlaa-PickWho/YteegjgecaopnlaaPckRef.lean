/- Who runs: the document's own, walked. -/
import Derived.Test.YteegjgecaopnlaaPckFun
namespace Go.Proofs.Yteegjgecaopnlaa.PK
open Go.ChangeShapes Go.WideShapes Go.ChangeAt Go.RowKit Go.Proofs.Yteegjgecaopnlaa.AR Go.Proofs.Yteegjgecaopnlaa.TB Go.Proofs.Yteegjgecaopnlaa.TK Go.Proofs.Yteegjgecaopnlaa.JB

set_option maxHeartbeats 8000000 in
theorem rchoose_any (ao : Option Addr) (len cap : Nat) (L : List Tk) (jo : Option Addr) (jl jc : Nat) (J : List Jb) (zo : Option Addr) (zl zc : Nat) (Z : List Int) (c : Int) (w : World) (h : LAt w ao len L) (hj : JsAt w jo jl J) (hz : NAt w zo zl Z) :
    Calls Try.prog 8 #[.slice ao len cap, .slice jo jl jc, .slice zo zl zc, .int .i64 c] w fun e w' => e = .returned (.tuple #[.int .i64 (chI L J Z c), .bool (decide (0 < jl))]) ∧ w = w' := by
  by_cases h0 : jl = 0
  · subst h0
    have e : J[0]? = none := List.getElem?_eq_none (by have := hj.ln; omega)
    rw [chI_none e]
    go_enter Try.func8, Try.ntmps8
    go_wp2
    go_ret2
    exact ⟨rfl, rfl⟩
  · obtain ⟨b, off, j, rfl, hb, hg, hi, c0, c1, c2, c3, c4, c5⟩ := hj.one (k := 0) (by omega)
    simp only [Nat.zero_mul, Nat.add_zero] at c0 c1 c2 c3 c4 c5
    have hd : decide (0 < jl) = true := by simp; omega
    have hjl : ((jl : Int) == 0) = false := by simp; omega
    have hjl2 : (0 : Int) < (jl : Int) := by omega
    rw [hd]
    have hZ := hz.at'.1
    obtain ⟨res, hres⟩ : ∃ res, chI L J Z c = res := ⟨_, rfl⟩
    rw [hres]
    have R1 : j.s = true → Hid (j.t = res) := fun hs => (chI_started hg hs).symm.trans hres
    have R2 : zl = 0 → Hid (j.t = res) := fun h1 => (chI_free hg (by omega)).symm.trans hres
    have R3 : perI L j.t < c → Hid (j.t = res) := fun hp => (chI_below hg hp).symm.trans hres
    have R4 : ∀ z, zl = z + 1 → j.s = false → ¬ perI L j.t < c → Hid (Z.getD z 0 = res) := fun z hz' hs hp => by
      have e := (chI_last hg hs hp (by omega)).symm.trans hres
      rw [hZ, hz'] at e
      exact e
    have HT := num_ways j.t h
    have HZ : zl = 0 ∨ ∃ z bz oz, zl = z + 1 ∧ zo = some ⟨bz, oz, none⟩ ∧ bz < w.heap.size ∧ w.cell? ⟨bz, oz + z, none⟩ = some (.int .i64 (Z.getD z 0)) ∧ ((z : Int) + 1 == 0) = false ∧ wrap64 (z : Int) = (z : Int) ∧ IntKind.i64.wrap (z : Int) = (z : Int) := by
      cases hq : zl with
      | zero => exact .inl rfl
      | succ z =>
        rw [hq] at hz
        obtain ⟨bz, oz, e, hbz, cz⟩ := hz.one (k := z) (by omega)
        have h3 : wrap64 (z : Int) = (z : Int) := IntWalk.wrap64_in _ (by have := hz.by'; omega)
        exact .inr ⟨z, bz, oz, rfl, e, hbz, cz, by simp; omega, h3, by rw [IntWalk.i64_left, h3]⟩
    clear h hj hz hres hg hi hZ
    generalize hx : j.t = x at *
    generalize hpx : perI L x = y at *
    clear hx hpx
    generalize j.s = s at *
    rcases HT with ⟨g1, rfl⟩ | ⟨g1, g2, rfl⟩ | ⟨k, b', o', g1, rfl, rfl, hb', d0⟩
    · skip
      cases s with
      | true =>
        have HR := R1 rfl
        clear R1 R2 R3 R4 HZ
        go_enter Try.func8, Try.ntmps8
        try dsimp only [List.append]
        go_wp2
        go_ret2
        exact ⟨by first | rfl | (rw [HR.out]; rfl), rfl⟩
      | false =>
        rcases HZ with rfl | ⟨z, bz, oz, rfl, rfl, hbz, cz, z1, z2, z3⟩
        · have HR := R2 rfl
          clear R1 R2 R3 R4
          go_enter Try.func8, Try.ntmps8
          try dsimp only [List.append]
          go_wp2
          go_ret2
          exact ⟨by first | rfl | (rw [HR.out]; rfl), rfl⟩
        · by_cases hp : 0 < c
          · have HR := R3 hp
            clear R1 R2 R3 R4
            go_enter Try.func8, Try.ntmps8
            try dsimp only [List.append]
            go_wp2
            go_ret2
            exact ⟨by first | rfl | (rw [HR.out]; rfl), rfl⟩
          · have HR := R4 z rfl rfl hp
            have hp2 : decide (0 < c) = false := by simp only [decide_eq_false_iff_not]; exact hp
            clear R1 R2 R3 R4
            generalize Z.getD z 0 = zz at *
            go_enter Try.func8, Try.ntmps8
            try dsimp only [List.append]
            go_wp2
            go_ret2
            exact ⟨by first | rfl | (rw [HR.out]; rfl), rfl⟩
    · skip
      cases s with
      | true =>
        have HR := R1 rfl
        clear R1 R2 R3 R4 HZ
        go_enter Try.func8, Try.ntmps8
        try dsimp only [List.append]
        go_wp2
        go_ret2
        exact ⟨by first | rfl | (rw [HR.out]; rfl), rfl⟩
      | false =>
        rcases HZ with rfl | ⟨z, bz, oz, rfl, rfl, hbz, cz, z1, z2, z3⟩
        · have HR := R2 rfl
          clear R1 R2 R3 R4
          go_enter Try.func8, Try.ntmps8
          try dsimp only [List.append]
          go_wp2
          go_ret2
          exact ⟨by first | rfl | (rw [HR.out]; rfl), rfl⟩
        · by_cases hp : 0 < c
          · have HR := R3 hp
            clear R1 R2 R3 R4
            go_enter Try.func8, Try.ntmps8
            try dsimp only [List.append]
            go_wp2
            go_ret2
            exact ⟨by first | rfl | (rw [HR.out]; rfl), rfl⟩
          · have HR := R4 z rfl rfl hp
            have hp2 : decide (0 < c) = false := by simp only [decide_eq_false_iff_not]; exact hp
            clear R1 R2 R3 R4
            generalize Z.getD z 0 = zz at *
            go_enter Try.func8, Try.ntmps8
            try dsimp only [List.append]
            go_wp2
            go_ret2
            exact ⟨by first | rfl | (rw [HR.out]; rfl), rfl⟩
    · have g2 : ¬ (k : Int) < 0 := by omega
      have g3 : (k : Int) < (len : Int) := by omega
      cases s with
      | true =>
        have HR := R1 rfl
        clear R1 R2 R3 R4 HZ
        go_enter Try.func8, Try.ntmps8
        try dsimp only [List.append]
        go_wp2
        go_ret2
        exact ⟨by first | rfl | (rw [HR.out]; rfl), rfl⟩
      | false =>
        rcases HZ with rfl | ⟨z, bz, oz, rfl, rfl, hbz, cz, z1, z2, z3⟩
        · have HR := R2 rfl
          clear R1 R2 R3 R4
          go_enter Try.func8, Try.ntmps8
          try dsimp only [List.append]
          go_wp2
          go_ret2
          exact ⟨by first | rfl | (rw [HR.out]; rfl), rfl⟩
        · by_cases hp : y < c
          · have HR := R3 hp
            clear R1 R2 R3 R4
            go_enter Try.func8, Try.ntmps8
            try dsimp only [List.append]
            go_wp2
            go_ret2
            exact ⟨by first | rfl | (rw [HR.out]; rfl), rfl⟩
          · have HR := R4 z rfl rfl hp
            have hp2 : decide (y < c) = false := by simp only [decide_eq_false_iff_not]; exact hp
            clear R1 R2 R3 R4
            generalize Z.getD z 0 = zz at *
            go_enter Try.func8, Try.ntmps8
            try dsimp only [List.append]
            go_wp2
            go_ret2
            exact ⟨by first | rfl | (rw [HR.out]; rfl), rfl⟩

end Go.Proofs.Yteegjgecaopnlaa.PK
