/- What an interval costs, plain; and number n of a list, or the zero value. -/
import Derived.Test.YtoinbdjjimfdgaaTbl
namespace Go.Proofs.Ytoinbdjjimfdgaa.MT
open Go.ChangeShapes Go.WideShapes Go.ChangeAt Go.RowKit Go.Proofs.Ytoinbdjjimfdgaa.AR Go.Proofs.Ytoinbdjjimfdgaa.TB

/-- the j-th number of row 'arg', or 0 where there is none -/
def sel (n : Nat) (r : List (List Int)) (arg : Int) (j : Nat) : Int := if 0 ≤ arg ∧ arg < (n : Int) then fd r arg.toNat j else 0

theorem sel_in {n : Nat} {r : List (List Int)} {arg : Int} {j : Nat} (h0 : 0 ≤ arg) (h1 : arg < (n : Int)) : sel n r arg j = fd r arg.toNat j := if_pos ⟨h0, h1⟩
theorem sel_out {n : Nat} {r : List (List Int)} {arg : Int} {j : Nat} (h : arg < 0 ∨ (n : Int) ≤ arg) : sel n r arg j = 0 := if_neg (by omega)

/-- what an interval costs -/
def cost (lL : Nat) (rL : List (List Int)) (lS : Nat) (rS : List (List Int)) (idle swe kind len arg cyc : Int) : Int :=
  if kind = 1 then wrap64 (cyc * sel lL rL arg 1) else if kind = 2 then wrap64 (len * idle) else if kind = 3 then swe else if kind = 4 then sel lS rS arg 3 else if kind = 5 then wrap64 (len * sel lS rS arg 0) else if kind = 6 then sel lS rS arg 4 else 0

/-- an interval, as a value -/
abbrev iv (kind frm len arg task cyc : Int) : Value := .agg #[.int .i64 kind, .int .i64 frm, .int .i64 len, .int .i64 arg, .int .i64 task, .int .i64 cyc]

/-- a meter, as a value -/
abbrev mv (a b c d : Int) : Value := .agg #[.int .i64 a, .int .i64 b, .int .i64 c, .int .i64 d]

theorem results_atlev (tmps : Array Value) (w : World) (b : Nat) (x y : Int) (hp : tmps[4]?.getD undef = .pointer (some ⟨b, 0, none⟩)) (z0 : w.cell? ⟨b, 0, none⟩ = some (.int .i64 x)) (z1 : w.cell? ⟨b, 1, none⟩ = some (.int .i64 y)) :
    (results Try.f18 tmps).run Try.prog w = .ok (.agg #[.int .i64 x, .int .i64 y]) w := by
  simp [results, Try.results18, go_sem, hp, z0, z1]

theorem results_atslp (tmps : Array Value) (w : World) (b : Nat) (x0 x1 x2 x3 x4 x5 : Int) (hp : tmps[4]?.getD undef = .pointer (some ⟨b, 0, none⟩)) (z0 : w.cell? ⟨b, 0, none⟩ = some (.int .i64 x0)) (z1 : w.cell? ⟨b, 1, none⟩ = some (.int .i64 x1)) (z2 : w.cell? ⟨b, 2, none⟩ = some (.int .i64 x2)) (z3 : w.cell? ⟨b, 3, none⟩ = some (.int .i64 x3)) (z4 : w.cell? ⟨b, 4, none⟩ = some (.int .i64 x4)) (z5 : w.cell? ⟨b, 5, none⟩ = some (.int .i64 x5)) :
    (results Try.f19 tmps).run Try.prog w = .ok (.agg #[.int .i64 x0, .int .i64 x1, .int .i64 x2, .int .i64 x3, .int .i64 x4, .int .i64 x5]) w := by
  simp [results, Try.results19, go_sem, hp, z0, z1, z2, z3, z4, z5]

set_option maxHeartbeats 4000000 in
theorem atlev_any (aL : Option Addr) (lL cL : Nat) (rL : List (List Int)) (arg : Int) (w : World) (h : RecAt w 2 aL lL rL) (_ : lL ≤ 9223372036854775807) :
    Calls Try.prog 18 #[.slice aL lL cL, .int .i64 arg] w
      fun e w' => e = .returned (.agg #[.int .i64 (sel lL rL arg 0), .int .i64 (sel lL rL arg 1)]) ∧ Kp w w' := by
  by_cases c0 : arg < 0
  · rw [sel_out (.inl c0), sel_out (.inl c0)]
    go_enter Try.func18, Try.ntmps18
    go_wp2
    exact bodyPost_ret (results_atlev _ _ w.heap.size 0 0 rfl (by simp) (by simp)) rfl ⟨rfl, ((Kp.refl _).alloc _).alloc _⟩
  · by_cases c1 : arg < (lL : Int)
    · obtain ⟨n, rfl⟩ := Int.eq_ofNat_of_zero_le (show 0 ≤ arg by omega)
      rw [sel_in (by omega) c1, sel_in (by omega) c1]
      obtain ⟨b, off, rfl, hb, hc⟩ := fd_at h (show n < lL by omega) (Kp.refl w)
      have e0 := hc 0 (by omega)
      have e1 := hc 1 (by omega)
      simp only [Nat.add_zero] at e0
      simp only [Int.toNat_natCast]
      clear hc
      have c2 : ¬ (lL : Int) ≤ (n : Int) := by omega
      go_enter Try.func18, Try.ntmps18
      go_wp2
      exact bodyPost_ret (results_atlev _ _ w.heap.size (fd rL n 0) (fd rL n 1) rfl (by simp) (by simp)) rfl ⟨rfl, (Kp.refl _).alloc _⟩
    · rw [sel_out (.inr (by omega)), sel_out (.inr (by omega))]
      have c2 : (lL : Int) ≤ arg := by omega
      go_enter Try.func18, Try.ntmps18
      go_wp2
      exact bodyPost_ret (results_atlev _ _ w.heap.size 0 0 rfl (by simp) (by simp)) rfl ⟨rfl, ((Kp.refl _).alloc _).alloc _⟩

set_option maxHeartbeats 4000000 in
theorem atslp_any (aL : Option Addr) (lL cL : Nat) (rL : List (List Int)) (arg : Int) (w : World) (h : RecAt w 6 aL lL rL) (_ : lL ≤ 9223372036854775807) :
    Calls Try.prog 19 #[.slice aL lL cL, .int .i64 arg] w
      fun e w' => e = .returned (.agg #[.int .i64 (sel lL rL arg 0), .int .i64 (sel lL rL arg 1), .int .i64 (sel lL rL arg 2), .int .i64 (sel lL rL arg 3), .int .i64 (sel lL rL arg 4), .int .i64 (sel lL rL arg 5)]) ∧ Kp w w' := by
  by_cases c0 : arg < 0
  · rw [sel_out (.inl c0), sel_out (.inl c0), sel_out (.inl c0), sel_out (.inl c0), sel_out (.inl c0), sel_out (.inl c0)]
    go_enter Try.func19, Try.ntmps19
    go_wp2
    exact bodyPost_ret (results_atslp _ _ w.heap.size 0 0 0 0 0 0 rfl (by simp) (by simp) (by simp) (by simp) (by simp) (by simp)) rfl ⟨rfl, ((Kp.refl _).alloc _).alloc _⟩
  · by_cases c1 : arg < (lL : Int)
    · obtain ⟨n, rfl⟩ := Int.eq_ofNat_of_zero_le (show 0 ≤ arg by omega)
      rw [sel_in (by omega) c1, sel_in (by omega) c1, sel_in (by omega) c1, sel_in (by omega) c1, sel_in (by omega) c1, sel_in (by omega) c1]
      obtain ⟨b, off, rfl, hb, hc⟩ := fd_at h (show n < lL by omega) (Kp.refl w)
      have e0 := hc 0 (by omega)
      have e1 := hc 1 (by omega)
      have e2 := hc 2 (by omega)
      have e3 := hc 3 (by omega)
      have e4 := hc 4 (by omega)
      have e5 := hc 5 (by omega)
      simp only [Nat.add_zero] at e0
      simp only [Int.toNat_natCast]
      clear hc
      have c2 : ¬ (lL : Int) ≤ (n : Int) := by omega
      go_enter Try.func19, Try.ntmps19
      go_wp2
      exact bodyPost_ret (results_atslp _ _ w.heap.size (fd rL n 0) (fd rL n 1) (fd rL n 2) (fd rL n 3) (fd rL n 4) (fd rL n 5) rfl (by simp) (by simp) (by simp) (by simp) (by simp) (by simp)) rfl ⟨rfl, (Kp.refl _).alloc _⟩
    · rw [sel_out (.inr (by omega)), sel_out (.inr (by omega)), sel_out (.inr (by omega)), sel_out (.inr (by omega)), sel_out (.inr (by omega)), sel_out (.inr (by omega))]
      have c2 : (lL : Int) ≤ arg := by omega
      go_enter Try.func19, Try.ntmps19
      go_wp2
      exact bodyPost_ret (results_atslp _ _ w.heap.size 0 0 0 0 0 0 rfl (by simp) (by simp) (by simp) (by simp) (by simp) (by simp)) rfl ⟨rfl, ((Kp.refl _).alloc _).alloc _⟩

end Go.Proofs.Ytoinbdjjimfdgaa.MT
