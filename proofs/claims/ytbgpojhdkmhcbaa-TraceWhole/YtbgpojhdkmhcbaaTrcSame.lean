/- What the document's Same answers, and the statements' own test that a program does something. -/
import Derived.Test.YtbgpojhdkmhcbaaTrcRef
namespace Go.Proofs.Ytbgpojhdkmhcbaa.TC
open Go.ChangeShapes Go.WideShapes Go.ChangeAt Go.RowKit Go.Proofs.Ytbgpojhdkmhcbaa.AR

theorem int_eq (d : Nat) (x : Int) (w : World) : (Op.equalIn (d + 1) 3 (.int .i64 x) (.int .i64 x)).run Try.prog w = .ok true w := by
  rw [run_equalIn_int w d 3 .i64 .i64 x x Try.underlying3]
  simp

theorem eq6' (n : Nat) (x : I6) (w : World) : (Op.equalIn (n + 1 + 1) 27 x.v x.v).run Try.prog w = .ok true w := by
  have q : ∀ x w, (Op.equalIn (n + 1) 3 (.int .i64 x) (.int .i64 x)).run Try.prog w = .ok true w := fun x w => int_eq n x w
  rw [Op.equalIn]
  generalize hE : Op.equalIn (n + 1) = E at *
  simp only [Sem.run_bind, run_underlying Try.underlying27, Result.andThen_ok]
  simp [go_sem, part, q]

theorem eq6 (x : I6) (w : World) : (Op.equalIn 10000 27 x.v x.v).run Try.prog w = .ok true w := eq6' 9998 x w

set_option maxHeartbeats 4000000 in
theorem same_any (b1 b2 : Nat) (v1 v2 : Value) (L : List I6) (w : World) (h1 : Ls w b1 v1 L) (h2 : Ls w b2 v2 L) :
    Calls Try.prog 14 #[v1, v2] w fun e w' => e = .returned (.bool true) ∧ Kp w w' := by
  have hlen := h1.len
  by_cases hp : 0 < L.length
  · obtain ⟨g1, c1, rfl, _, hg1, _, hc1⟩ := h1.pos hp
    obtain ⟨g2, c2, rfl, _, hg2, _, hc2⟩ := h2.pos hp
    have HE : Hid (∀ x : I6, ∀ w : World, (Op.equalIn 10000 27 (.agg #[.int .i64 x.k, .int .i64 x.f, .int .i64 x.l, .int .i64 x.a, .int .i64 x.t, .int .i64 x.c]) (.agg #[.int .i64 x.k, .int .i64 x.f, .int .i64 x.l, .int .i64 x.a, .int .i64 x.t, .int .i64 x.c])).run Try.prog w = .ok true w) := eq6
    go_enter Try.func14, Try.ntmps14
    go_wp2
    go_loopw [5] (fun i wr => ∃ k : Nat, k ≤ L.length ∧ i = .int .i64 k ∧ Kp w wr) (fun i _ => L.length - (intOf i).toNat)
    case atStart => exact ⟨0, Nat.zero_le _, rfl, Step.refl _ _⟩
    case round =>
      obtain ⟨k, hk, rfl, kp⟩ := hrel
      by_cases hlt : k < L.length
      · have hlt' : (k : Int) < (L.length : Int) := by omega
        have i1 : (0 : Int) ≤ (k : Int) := by omega
        have i3 : ((k : Int)).toNat = k := by omega
        obtain ⟨a0, a1, a2, a3, a4, a5, _⟩ := (hc1 k hlt).kept kp (fun q => q)
        obtain ⟨d0, d1, d2, d3, d4, d5, _⟩ := (hc2 k hlt).kept kp (fun q => q)
        have E := HE.out (at6 L k)
        generalize at6 L k = x at *
        go_wp2_with fail
        go_quiet (fail)
        generalize hwq : World.drewN wr _ = w2
        have k2 : Kp w w2 := by rw [← hwq]; exact kp.trans (kp_drewN _ _)
        clear hwq
        go_wp2
        go_roundw
        case rel => exact ⟨k + 1, by omega, by go_num, k2⟩
        case measure => simp [intOf]; omega
      · have hlt' : ¬ (k : Int) < (L.length : Int) := by omega
        go_wp2
        go_ret
        exact ⟨rfl, kp⟩
  · have hz : L = [] := List.length_eq_zero_iff.1 (by omega)
    subst hz
    have q1 : ∃ a c, v1 = .slice a 0 c := by
      rcases h1.cases with ⟨rfl, _⟩ | ⟨g, cap, rfl, _⟩
      · exact ⟨_, _, rfl⟩
      · exact ⟨_, _, rfl⟩
    have q2 : ∃ a c, v2 = .slice a 0 c := by
      rcases h2.cases with ⟨rfl, _⟩ | ⟨g, cap, rfl, _⟩
      · exact ⟨_, _, rfl⟩
      · exact ⟨_, _, rfl⟩
    obtain ⟨a1, c1, rfl⟩ := q1
    obtain ⟨a2, c2, rfl⟩ := q2
    go_enter Try.func14, Try.ntmps14
    go_wp2
    refine wp_loop_rounds 1 ?_
    rw [rounds_succ]
    go_wp2
    go_ret
    exact ⟨rfl, Step.refl _ _⟩

theorem ans_one : addL [] ⟨2, 0, 1, 0, 0, 0⟩ = [⟨2, 0, 1, 0, 0, 0⟩] := rfl
theorem ans_two : addL [⟨2, 0, 1, 0, 0, 0⟩] ⟨2, 1, 1, 0, 0, 0⟩ = [⟨2, 0, 2, 0, 0, 0⟩] := by kernel_rfl
theorem ans_end : endOf [⟨2, 0, 2, 0, 0, 0⟩] = 2 := by kernel_rfl

/-- behind the two calls of Add -/
theorem ans_add (w : World) (tb : Nat) (h : Tr w tb tb (.slice none 0 0) []) :
    Calls Try.prog 11 #[.pointer (some ⟨tb, 0, none⟩), .agg #[.int .i64 2, .int .i64 0, .int .i64 1, .int .i64 0, .int .i64 0, .int .i64 0]] w fun e w' => e = .returned (.tuple #[]) ∧ Added w tb tb (.slice none 0 0) [⟨2, 0, 1, 0, 0, 0⟩] w' :=
  add_any tb tb _ [] ⟨2, 0, 1, 0, 0, 0⟩ w h (by simp) (Nat.le_of_lt h.lt)

theorem ans_add2 (w : World) (tb : Nat) (v : Value) (h : Tr w tb tb v [⟨2, 0, 1, 0, 0, 0⟩]) :
    Calls Try.prog 11 #[.pointer (some ⟨tb, 0, none⟩), .agg #[.int .i64 2, .int .i64 1, .int .i64 1, .int .i64 0, .int .i64 0, .int .i64 0]] w fun e w' => e = .returned (.tuple #[]) ∧ Added w tb tb v [⟨2, 0, 2, 0, 0, 0⟩] w' := by
  rw [← ans_two]
  exact add_any tb tb v _ ⟨2, 1, 1, 0, 0, 0⟩ w h (by simp) (Nat.le_of_lt h.lt)

theorem ans_end_any (w : World) (tb : Nat) (v : Value) (h : Tr w tb tb v [⟨2, 0, 2, 0, 0, 0⟩]) :
    Calls Try.prog 13 #[.pointer (some ⟨tb, 0, none⟩)] w fun e w' => e = .returned (.int .i64 2) ∧ Kp w w' := by
  rw [← ans_end]
  exact trend_any tb tb v _ w h

theorem ans_list (w : World) (tb : Nat) (v : Value) (h : Tr w tb tb v [⟨2, 0, 2, 0, 0, 0⟩]) :
    Calls Try.prog 15 #[.pointer (some ⟨tb, 0, none⟩)] w fun e w' => e = .returned (.slice (some ⟨w.heap.size, 0, none⟩) 1 1) ∧ w'.cell? ⟨w.heap.size, 2, none⟩ = some (.int .i64 2) ∧ Kp w w' := by
  refine (list_any tb tb v _ w h).mono ?_
  rintro e w' ⟨rfl, l, k⟩
  refine ⟨rfl, ?_, k⟩
  obtain ⟨g, cap, e, _, _, _, hc⟩ := l.pos (by simp)
  simp only [List.length_cons, List.length_nil, Nat.zero_add, Value.slice.injEq, Option.some.injEq, Addr.mk.injEq, and_true, true_and] at e
  obtain ⟨rfl, rfl⟩ := e
  have := (hc 0 (by simp)).c2
  simpa [at6] using this

/-- a call that touches the trace alone -/
theorem Added.new {w W w' : World} {tb base : Nat} {v : Value} {L : List I6} (h : Added W tb base v L w') (k : Kp w W) (h1 : w.heap.size ≤ tb) (h2 : ∀ g, v.ownBlock = some g → w.heap.size ≤ g) :
    ∃ v', Tr w' tb base v' L ∧ Kp w w' ∧ (∀ g, v'.ownBlock = some g → w.heap.size ≤ g) := by
  obtain ⟨v', t, s, o⟩ := h
  refine ⟨v', t, Step.trans_new k s (fun i hi q => ?_), fun g hg => ?_⟩
  · rcases q with q | q
    · omega
    · have := h2 i q; omega
  · rcases o with o | o
    · exact h2 g (o ▸ hg)
    · exact Nat.le_trans k.size (o g hg)

set_option maxHeartbeats 4000000 in
theorem answers_any (w : World) :
    Calls Try.prog 10 #[] w fun e w' => e = .returned (.bool true) ∧ Kp w w' := by
  go_enter Try.func10, Try.ntmps10
  go_wp2_with (first
    | (go_at_call 8; refine (new_any _).mono ?_; rintro e w1 ⟨rfl, t1, k1⟩)
    | (go_at_call 11; refine (ans_add w1 w.heap.size t1).mono ?_; rintro e w2 ⟨rfl, ad⟩; obtain ⟨v2, t2, k2, o2⟩ := ad.new k1 (Nat.le_refl _) (fun g q => by simp [Value.ownBlock] at q); clear ad t1)
    | (go_at_call 11; refine (ans_add2 w2 w.heap.size v2 t2).mono ?_; rintro e w3 ⟨rfl, ad⟩; obtain ⟨v3, t3, k3, o3⟩ := ad.new k2 (Nat.le_refl _) o2; clear ad t2)
    | (go_at_call 15; refine (ans_list w3 w.heap.size v3 t3).mono ?_; rintro e w4 ⟨rfl, c4, k4⟩; have t4 := t3.kp k4)
    | (go_at_call 13; refine (ans_end_any w4 w.heap.size v3 t4).mono ?_; rintro e w5 ⟨rfl, k5⟩)
    | fail)
  go_ret
  exact ⟨rfl, (k3.trans k4).trans k5⟩

end Go.Proofs.Ytbgpojhdkmhcbaa.TC
