/- What a task uses, and needs: the program's and the document's own, walked. -/
import Derived.Test.YtnpbdcnogeohdaaTskAt
import Derived.OwnWalk
import Derived.BigRegion
import Derived.BigQuiet
import Derived.StillTailTactics
import Derived.Deep.LoopGhost
import Derived.Deep.RegionHeld3
namespace Go.Proofs.Ytnpbdcnogeohdaa.TK
open Go.ChangeShapes Go.WideShapes Go.ChangeAt Go.RowKit Go.Proofs.Ytnpbdcnogeohdaa.AR Go.Proofs.Ytnpbdcnogeohdaa.TB

theorem twithin_any (x lo hi : Int) (w : World) :
    Calls Try.prog 64 #[.int .i64 x, .int .i64 lo, .int .i64 hi] w fun e w' => e = .returned (.bool (inB x lo hi)) ∧ w = w' := by
  by_cases h1 : lo ≤ x
  · by_cases h2 : x ≤ hi
    · have hq : inB x lo hi = true := inB_t.2 ⟨h1, h2⟩
      rw [hq]; clear hq
      go_enter Try.func64, Try.ntmps64
      go_wp2
      go_ret
      exact ⟨rfl, rfl⟩
    · have hq : inB x lo hi = false := inB_f.2 (by omega)
      rw [hq]; clear hq
      go_enter Try.func64, Try.ntmps64
      go_wp2
      go_ret
      exact ⟨rfl, rfl⟩
  · have hq : inB x lo hi = false := inB_f.2 (by omega)
    rw [hq]; clear hq
    go_enter Try.func64, Try.ntmps64
    go_wp2
    go_ret
    exact ⟨rfl, rfl⟩

/-- does t use s? -/
def usB (t : Tk) (s : Int) : Bool := decide (0 ≤ s ∧ s < (t.sl : Int) ∧ 0 < t.sz.getD s.toNat 0)
theorem usB_t {t : Tk} {s : Int} : usB t s = true ↔ 0 ≤ s ∧ s < (t.sl : Int) ∧ 0 < t.sz.getD s.toNat 0 := by simp [usB]
theorem usB_f {t : Tk} {s : Int} : usB t s = false ↔ ¬ (0 ≤ s ∧ s < (t.sl : Int) ∧ 0 < t.sz.getD s.toNat 0) := by simp [usB]

set_option maxHeartbeats 4000000 in
theorem uses_any (t : Tk) (s : Int) (w : World) (h : TAt w t) :
    Calls Try.prog 61 #[t.v, .int .i64 s] w fun e w' => e = .returned (.bool (usB t s)) ∧ Kp w w' := by
  have hby := h.s.by'
  unfold Tk.v
  by_cases hs : 0 ≤ s ∧ s < (t.sl : Int)
  · obtain ⟨k, rfl⟩ : ∃ k : Nat, s = (k : Int) := ⟨s.toNat, by omega⟩
    have hk : k < t.sl := by omega
    obtain ⟨b, off, hsa, hlt, hc⟩ := h.s.one hk
    have hus : usB t (k : Int) = decide (0 < t.sz.getD k 0) := by
      unfold usB
      apply decide_eq_decide.2
      simp only [Int.toNat_natCast]
      exact ⟨fun q => q.2.2, fun q => ⟨by omega, by omega, q⟩⟩
    have hin : inB (k : Int) 0 ((t.sl : Int) - 1) = true := inB_t.2 (by omega)
    rw [hus, hsa]
    generalize t.sz.getD k 0 = x at *
    go_enter Try.func61, Try.ntmps61
    go_wp2_with (first
      | (go_at_call 64; refine (twithin_any _ _ _ _).mono ?_; rintro e w1 ⟨rfl, rfl⟩)
      | fail)
    all_goals
      go_ret
      exact ⟨by simp_all, (Kp.refl _).alloc _⟩
  · have hus : usB t s = false := usB_f.2 (fun q => hs ⟨q.1, q.2.1⟩)
    have hin : inB s 0 ((t.sl : Int) - 1) = false := inB_f.2 (by omega)
    rw [hus]
    go_enter Try.func61, Try.ntmps61
    go_wp2_with (first
      | (go_at_call 64; refine (twithin_any _ _ _ _).mono ?_; rintro e w1 ⟨rfl, rfl⟩)
      | fail)
    all_goals
      go_ret
      exact ⟨by simp_all, (Kp.refl _).alloc _⟩

set_option maxHeartbeats 4000000 in
theorem ruses_any (t : Tk) (s : Int) (w : World) (h : TAt w t) :
    Calls Try.prog 57 #[t.v, .int .i64 s] w fun e w' => e = .returned (.bool (usB t s)) ∧ Kp w w' := by
  have hby := h.s.by'
  unfold Tk.v
  by_cases hs0 : 0 ≤ s
  · by_cases hs1 : s < (t.sl : Int)
    · obtain ⟨k, rfl⟩ : ∃ k : Nat, s = (k : Int) := ⟨s.toNat, by omega⟩
      have hk : k < t.sl := by omega
      obtain ⟨b, off, hsa, hlt, hc⟩ := h.s.one hk
      have hus : usB t (k : Int) = decide (0 < t.sz.getD k 0) := by
        unfold usB
        apply decide_eq_decide.2
        simp only [Int.toNat_natCast]
        exact ⟨fun q => q.2.2, fun q => ⟨by omega, by omega, q⟩⟩
      rw [hus, hsa]
      generalize t.sz.getD k 0 = x at *
      go_enter Try.func57, Try.ntmps57
      go_wp2
      all_goals
        go_ret
        exact ⟨by simp_all, (Kp.refl _).alloc _⟩
    · have hus : usB t s = false := usB_f.2 (fun q => hs1 q.2.1)
      rw [hus]
      go_enter Try.func57, Try.ntmps57
      go_wp2
      all_goals
        go_ret
        exact ⟨by simp_all, (Kp.refl _).alloc _⟩
  · have hus : usB t s = false := usB_f.2 (fun q => hs0 q.1)
    rw [hus]
    go_enter Try.func57, Try.ntmps57
    go_wp2
    all_goals
      go_ret
      exact ⟨by simp_all, (Kp.refl _).alloc _⟩

/-! ### what is looked for in a list of numbers -/

/-- one of the first k does -/
def anyB (f : Int → Bool) (zs : List Int) : Nat → Bool
  | 0 => false
  | k + 1 => anyB f zs k || f (zs.getD k 0)

theorem anyB_f {f : Int → Bool} {zs : List Int} : ∀ {k : Nat}, anyB f zs k = false ↔ ∀ i, i < k → f (zs.getD i 0) = false
  | 0 => by simp [anyB]
  | k + 1 => by
    simp only [anyB, Bool.or_eq_false_iff, anyB_f (k := k)]
    constructor
    · intro h i hi
      by_cases hk : i < k
      · exact h.1 i hk
      · obtain rfl : i = k := by omega
        exact h.2
    · intro h
      exact ⟨fun i hi => h i (by omega), h k (by omega)⟩

theorem anyB_at {f : Int → Bool} {zs : List Int} {k n : Nat} (hk : k < n) (h : f (zs.getD k 0) = true) : anyB f zs n = true := by
  cases hq : anyB f zs n with
  | true => rfl
  | false => rw [anyB_f.1 hq k hk] at h; cases h

/-- a function literal that answers f, wherever it is called from w on -/
def Lit1 (w : World) (n : Nat) (cap : Value) (f : Int → Bool) : Prop :=
  ∀ w' x, Kp w w' → Calls Try.prog n #[.int .i64 x, cap] w' fun e w'' => e = .returned (.bool (f x)) ∧ Kp w' w''

end Go.Proofs.Ytnpbdcnogeohdaa.TK
