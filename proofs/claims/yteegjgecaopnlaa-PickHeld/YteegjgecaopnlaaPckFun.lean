/- Who runs: the program's and the document's own, walked. -/
import Derived.Test.YteegjgecaopnlaaJobLst
import Derived.Test.YteegjgecaopnlaaTskAt
import Derived.OwnWalk
import Derived.BigRegion
import Derived.BigQuiet
namespace Go.Proofs.Yteegjgecaopnlaa.PK
open Go.ChangeShapes Go.WideShapes Go.ChangeAt Go.RowKit Go.Proofs.Yteegjgecaopnlaa.AR Go.Proofs.Yteegjgecaopnlaa.TB Go.Proofs.Yteegjgecaopnlaa.TK Go.Proofs.Yteegjgecaopnlaa.JB

/-- the Period of the task of that number; 0, if there is none -/
def perI (L : List Tk) (n : Int) : Int := if 0 ≤ n then (match L[n.toNat]? with | some t => t.p | none => 0) else 0
theorem perI_neg {L : List Tk} {n : Int} (h : ¬ 0 ≤ n) : perI L n = 0 := by simp [perI, h]
theorem perI_none {L : List Tk} {n : Int} (h : (L.length : Int) ≤ n) : perI L n = 0 := by
  unfold perI
  rw [if_pos (by omega), List.getElem?_eq_none (by omega)]
theorem perI_some {L : List Tk} {k : Nat} {t : Tk} (h : L[k]? = some t) : perI L (k : Int) = t.p := by
  unfold perI
  rw [if_pos (by omega)]
  simp [h]

/-- who runs -/
def chI (L : List Tk) (J : List Jb) (Z : List Int) (c : Int) : Int :=
  match J[0]? with
  | none => 0
  | some j => bif j.s || decide (perI L j.t < c) || decide (Z.length = 0) then j.t else Z.getD (Z.length - 1) 0

/-- a task's number: below 0, beyond, or of one that there is -/
theorem num_ways {w : World} {ao : Option Addr} {len : Nat} {L : List Tk} (n : Int) (h : LAt w ao len L) :
    (n < 0 ∧ perI L n = 0) ∨ (¬ n < 0 ∧ (len : Int) ≤ n ∧ perI L n = 0) ∨ ∃ (k : Nat) (b' o' : Nat), k < len ∧ n = (k : Int) ∧ ao = some ⟨b', o', none⟩ ∧ b' < w.heap.size ∧ w.cell? ⟨b', o' + k * 4, none⟩ = some (.int .i64 (perI L n)) := by
  by_cases g1 : n < 0
  · exact .inl ⟨g1, perI_neg (by omega)⟩
  · by_cases g2 : (len : Int) ≤ n
    · exact .inr (.inl ⟨g1, g2, perI_none (by have := h.ln; omega)⟩)
    · have hk : n.toNat < len := by omega
      obtain ⟨b', o', t, e, hb', hg', ht, d0, _⟩ := h.one hk
      have ek : n = (n.toNat : Int) := by omega
      refine .inr (.inr ⟨n.toNat, b', o', hk, ek, e, hb', ?_⟩)
      rw [ek, perI_some hg']
      have : ((n.toNat : Int)).toNat = n.toNat := by omega
      rw [this]; exact d0

/-- the period of a task by its number -/
theorem period_any (ao : Option Addr) (len cap : Nat) (L : List Tk) (n : Int) (w : World) (h : LAt w ao len L) :
    Calls Try.prog 10 #[.slice ao len cap, .int .i64 n] w fun e w' => e = .returned (.int .i64 (perI L n)) ∧ w = w' := by
  by_cases h1 : n < 0
  · rw [perI_neg (by omega)]
    go_enter Try.func10, Try.ntmps10
    go_wp2
    go_ret
    exact ⟨rfl, rfl⟩
  · by_cases h2 : (len : Int) ≤ n
    · have := h.ln
      rw [perI_none (by omega)]
      go_enter Try.func10, Try.ntmps10
      go_wp2
      go_ret
      exact ⟨rfl, rfl⟩
    · obtain ⟨k, rfl⟩ : ∃ k : Nat, n = (k : Int) := ⟨n.toNat, by omega⟩
      have hk : k < len := by omega
      have hlt' : (k : Int) < (len : Int) := by omega
      obtain ⟨b, off, t, rfl, hb, hg, ht, c0, c1, c2, c3⟩ := h.one hk
      rw [perI_some hg]
      clear h hg ht
      have h2' : ¬ (k : Int) < 0 := by omega
      go_enter Try.func10, Try.ntmps10
      go_wp2
      go_ret
      exact ⟨rfl, rfl⟩

theorem job_box (w : World) (j : Jb) : ∃ W0, Hid (W0 = w.alloc (.cells #[.int .i64 j.t, .int .i64 j.r, .int .i64 j.d, .int .i64 j.l, .int .i64 j.x, .bool j.s] 30)) ∧ Kp w W0 ∧ BJ W0 w.heap.size j := ⟨_, rfl, (Kp.refl _).alloc _, bj_new w j⟩

theorem chI_none {L : List Tk} {J : List Jb} {Z : List Int} {c : Int} (h : J[0]? = none) : chI L J Z c = 0 := by unfold chI; rw [h]
theorem chI_started {L : List Tk} {J : List Jb} {Z : List Int} {c : Int} {j : Jb} (h : J[0]? = some j) (hs : j.s = true) : chI L J Z c = j.t := by unfold chI; rw [h]; simp [hs]
theorem chI_below {L : List Tk} {J : List Jb} {Z : List Int} {c : Int} {j : Jb} (h : J[0]? = some j) (hp : perI L j.t < c) : chI L J Z c = j.t := by unfold chI; rw [h]; simp [hp]
theorem chI_free {L : List Tk} {J : List Jb} {Z : List Int} {c : Int} {j : Jb} (h : J[0]? = some j) (hz : Z.length = 0) : chI L J Z c = j.t := by unfold chI; rw [h]; simp [hz]
theorem chI_last {L : List Tk} {J : List Jb} {Z : List Int} {c : Int} {j : Jb} (h : J[0]? = some j) (hs : j.s = false) (hp : ¬ perI L j.t < c) (hz : Z.length ≠ 0) : chI L J Z c = Z.getD (Z.length - 1) 0 := by unfold chI; rw [h]; simp [hs, hp, hz]

set_option maxHeartbeats 4000000 in
theorem choose_any (ao : Option Addr) (len cap : Nat) (L : List Tk) (jo : Option Addr) (jl jc : Nat) (J : List Jb) (zo : Option Addr) (zl zc : Nat) (Z : List Int) (c : Int) (w : World) (h : LAt w ao len L) (hj : JsAt w jo jl J) (hz : NAt w zo zl Z) :
    Calls Try.prog 7 #[.slice ao len cap, .slice jo jl jc, .slice zo zl zc, .int .i64 c] w fun e w' => e = .returned (.tuple #[.int .i64 (chI L J Z c), .bool (decide (0 < jl))]) ∧ Kp w w' := by
  by_cases h0 : jl = 0
  · subst h0
    have e : J[0]? = none := List.getElem?_eq_none (by have := hj.ln; omega)
    rw [chI_none e]
    go_enter Try.func7, Try.ntmps7
    go_wp2
    go_ret2
    exact ⟨rfl, Kp.refl _⟩
  · obtain ⟨b, off, j, rfl, hb, hg, hi, c0, c1, c2, c3, c4, c5⟩ := hj.one (k := 0) (by omega)
    simp only [Nat.zero_mul, Nat.add_zero] at c0 c1 c2 c3 c4 c5
    have hd : decide (0 < jl) = true := by simp; omega
    have hjl : ((jl : Int) == 0) = false := by simp; omega
    have hjl2 : (0 : Int) < (jl : Int) := by omega
    rw [hd]
    have HP : Hid (∀ W, Kp w W → Calls Try.prog 10 #[.slice ao len cap, .int .i64 j.t] W fun e w' => e = .returned (.int .i64 (perI L j.t)) ∧ W = w') := fun W k => period_any ao len cap L j.t W (h.kept k)
    have hZ := hz.at'.1
    obtain ⟨W0, HW, K0, J0⟩ := job_box w j
    have HK : Hid (Kp w W0) := K0
    obtain ⟨p0, p1, p2, p3, p4, p5⟩ := J0.all
    obtain ⟨res, hres⟩ : ∃ res, chI L J Z c = res := ⟨_, rfl⟩
    rw [hres]
    cases hs : j.s with
    | true =>
      have HR : Hid (j.t = res) := (chI_started hg hs).symm.trans hres
      rw [hs] at c5 p5 HW
      clear h hj hz hZ hres hg hi HP J0 K0 hs
      go_enter Try.func7, Try.ntmps7
      go_wp2_with fail
      rw [← HW.out]
      clear HW
      go_wp2
      go_ret2
      exact ⟨by first | rfl | (rw [HR.out]; rfl), HK.out⟩
    | false =>
      rw [hs] at c5 p5 HW
      by_cases hp : perI L j.t < c
      · have HR : Hid (j.t = res) := (chI_below hg hp).symm.trans hres
        generalize perI L j.t = y at *
        clear h hj hz hZ hres hg hi J0 K0 hs
        go_enter Try.func7, Try.ntmps7
        go_wp2_with fail
        rw [← HW.out]
        clear HW
        refine (HP.out _ HK.out).mono ?_
        rintro e w1 ⟨rfl, rfl⟩
        go_wp2
        go_ret2
        exact ⟨by first | rfl | (rw [HR.out]; rfl), HK.out⟩
      · by_cases h1 : zl = 0
        · have HR : Hid (j.t = res) := (chI_free hg (by omega)).symm.trans hres
          generalize perI L j.t = y at *
          subst h1
          clear h hj hz hZ hres hg hi J0 K0 hs
          go_enter Try.func7, Try.ntmps7
          go_wp2_with fail
          rw [← HW.out]
          clear HW
          refine (HP.out _ HK.out).mono ?_
          rintro e w1 ⟨rfl, rfl⟩
          go_wp2
          go_ret2
          exact ⟨by first | rfl | (rw [HR.out]; rfl), HK.out⟩
        · obtain ⟨z, rfl⟩ : ∃ z, zl = z + 1 := ⟨zl - 1, by omega⟩
          obtain ⟨bz, oz, rfl, hbz, cz⟩ := (hz.kept K0).one (k := z) (by omega)
          have HR : Hid (Z.getD z 0 = res) := by
            have e := (chI_last hg hs hp (by omega)).symm.trans hres
            rw [hZ] at e
            exact e
          have hz1 : ((z : Int) + 1 == 0) = false := by simp; omega
          have hp2 : decide (perI L j.t < c) = false := by simp only [decide_eq_false_iff_not]; exact hp
          have hz2 : ((z + 1 : Nat) : Int) - 1 = (z : Int) := by omega
          have hz3 : wrap64 (z : Int) = (z : Int) := IntWalk.wrap64_in _ (by have := hz.by'; omega)
          have hz4 : IntKind.i64.wrap (z : Int) = (z : Int) := by rw [IntWalk.i64_left, hz3]
          generalize Z.getD z 0 = zz at *
          generalize perI L j.t = y at *
          clear h hj hz hZ hres hg hi J0 K0 hs
          go_enter Try.func7, Try.ntmps7
          go_wp2_with fail
          rw [← HW.out]
          clear HW
          refine (HP.out _ HK.out).mono ?_
          rintro e w1 ⟨rfl, rfl⟩
          go_wp2
          go_ret2
          exact ⟨by first | rfl | (rw [HR.out]; rfl), HK.out⟩

end Go.Proofs.Yteegjgecaopnlaa.PK
