/- What the first look at a latch answers; of a task one thing waits at a time; a latch that is none. -/
import Derived.Test.YthhhakglchcfgaaLatNext
namespace Go.Proofs.Ythhhakglchcfgaa.LT
open Go.ChangeShapes Go.WideShapes Go.ChangeAt Go.RowKit Go.Proofs.Ythhhakglchcfgaa.HP Go.Maps Go.Proofs.Ythhhakglchcfgaa.HM Go.Proofs.Ythhhakglchcfgaa.HW Go.Proofs.Ythhhakglchcfgaa.AR

theorem least_only (t : T3) : Least [t] t := ⟨by simp, fun u hu => by simp at hu; subst hu; exact ltB_irrefl _⟩
theorem drop_only (t : T3) : dropT [t] t.1 = [] := by simp [dropT]

/-- a step that touches blocks of a latch that was made since -/
theorem step_made {W w0 w : World} {A B : Nat → Prop} {n : Nat} (s0 : Step (fun _ => False) W w0) (v : Moved A w0 B w) (hA : ∀ k, A k → n ≤ k) (hn : W.heap.size ≤ n) : Step (fun _ => False) W w :=
  ⟨v.stp.os.trans s0.os, v.stp.tape.trans s0.tape, v.stp.output.trans s0.output, Nat.le_trans s0.size v.stp.size, fun k hk _ => (v.stp.block k (Nat.lt_of_lt_of_le hk s0.size) (fun q => by have := hA k q; omega)).trans (s0.block k hk (fun q => q))⟩

theorem mv_still {A : Nat → Prop} {a b : World} (s : Step (fun _ => False) a b) : Moved A a A b := ⟨s.mono (fun _ _ q => q.elim), fun _ _ q => q⟩

set_option maxHeartbeats 2000000 in
theorem lanswers_any (w : World) :
    Calls Try.prog 13 #[] w fun e w' => e = .returned (.bool true) ∧ Step (fun _ => False) w w' := by
  have n1 : W64 1 := ⟨by omega, by omega⟩
  have n5 : W64 5 := ⟨by omega, by omega⟩
  have n9 : W64 9 := ⟨by omega, by omega⟩
  go_enter Try.func13, Try.ntmps13
  go_wp2_with fail
  refine (lnew_any _).mono ?_
  rintro e w0 ⟨rfl, r0, s0⟩
  go_wp2_with fail
  refine (lput_new w.heap.size _ [] 1 5 9 _ r0 n1 n5 n9 (by simp [idt]) (by simp)).mono ?_
  rintro e w1 ⟨rfl, A1, r1, v1⟩
  have r1' : LRep w1 w.heap.size A1 [(1, 5, 9)] := r1
  clear r1
  go_wp2_with fail
  refine (lput_has w.heap.size A1 _ 1 6 9 _ r1' n1 (by simp [idt])).mono ?_
  rintro e w1' ⟨rfl, rfl⟩
  go_wp2_with fail
  refine (lnext_none w.heap.size A1 _ 4 _ r1' (fun t ht => by simp at ht; subst ht; decide)).mono ?_
  rintro e w2 ⟨rfl, s2⟩
  have r2 : LRep w2 w.heap.size A1 [(1, 5, 9)] := r1'.still s2
  clear r1'
  go_wp2_with fail
  refine (lnext_some w.heap.size A1 [(1, 5, 9)] (1, 5, 9) 6 _ r2 (least_only _) (by decide)).mono ?_
  rintro e w3 ⟨rfl, A3, r3, v3⟩
  rw [drop_only] at r3
  have HL := llen_any w.heap.size A3 _ _ r3
  simp only [List.length_nil] at HL
  go_wp2_with (go_at_call 12; refine HL.mono ?_; rintro e w5 ⟨rfl, rfl⟩)
  go_ret
  refine ⟨rfl, step_made s0 (mv_trans (mv_trans v1 (mv_still s2)) v3) (fun k e => by omega) (Nat.le_refl _)⟩

set_option maxHeartbeats 2000000 in
theorem latchNone_walk (task a c : Int) (w : World) (_h1 : (Lit.int .i64 task).wf = true) (_h2 : (Lit.int .i64 a).wf = true) (_h3 : (Lit.int .i64 c).wf = true) :
    Calls Try.prog 6 #[.int .i64 task, .int .i64 a, .int .i64 c] w fun e w' => e = .returned (.bool true) ∧ Below w.heap.size w w' := by
  go_enter Try.func6, Try.ntmps6
  go_wp2_with (first
    | (go_at_call 9; refine (lput_none _ _ _ _).mono ?_; rintro e w' ⟨rfl, rfl⟩)
    | (go_at_call 15; refine (lnext_nil _ _).mono ?_; rintro e w' ⟨rfl, rfl⟩)
    | (go_at_call 11; refine (lwaits_none _ _).mono ?_; rintro e w' ⟨rfl, rfl⟩)
    | (go_at_call 12; refine (llen_none _).mono ?_; rintro e w' ⟨rfl, rfl⟩)
    | (go_at_call 13; refine (lanswers_any _).mono ?_; rintro e w1 ⟨rfl, hs⟩)
    | fail)
  go_ret
  exact ⟨rfl, hs.below (Nat.le_refl _) (fun _ _ q => q)⟩

set_option maxHeartbeats 4000000 in
theorem latchOnce_walk (task a b c : Int) (w : World) (h1 : (Lit.int .i64 task).wf = true) (h2 : (Lit.int .i64 a).wf = true) (h3 : (Lit.int .i64 b).wf = true) (h4 : (Lit.int .i64 c).wf = true) :
    Calls Try.prog 5 #[.int .i64 task, .int .i64 a, .int .i64 b, .int .i64 c] w fun e w' => e = .returned (.bool true) ∧ Below w.heap.size w w' := by
  have wi : W64 task := i64_of_wf h1
  have wa : W64 a := i64_of_wf h2
  have wb : W64 b := i64_of_wf h3
  have wc : W64 c := i64_of_wf h4
  clear h1 h2 h3 h4
  have e1 : (task == task) = true := by simp
  have e2 : (a == a) = true := by simp
  have e3 : (c == c) = true := by simp
  go_enter Try.func5, Try.ntmps5
  go_wp2_with fail
  refine (lnew_any _).mono ?_
  rintro e w0 ⟨rfl, r0, s0⟩
  go_wp2_with fail
  refine (lput_new w.heap.size _ [] task a c _ r0 wi wa wc (by simp [idt]) (by simp)).mono ?_
  rintro e w1 ⟨rfl, A1, r1, v1⟩
  have r1' : LRep w1 w.heap.size A1 [(task, a, c)] := r1
  clear r1
  go_wp2_with fail
  refine (lput_has w.heap.size A1 _ task b c _ r1' wi (by simp [idt])).mono ?_
  rintro e w1' ⟨rfl, rfl⟩
  go_wp2_with fail
  refine (lnext_some w.heap.size A1 [(task, a, c)] (task, a, c) a _ r1' (least_only _) (Int.le_refl _)).mono ?_
  rintro e w3 ⟨rfl, A3, r3, v3⟩
  rw [drop_only] at r3
  go_wp2_with fail
  refine (lanswers_any _).mono ?_
  rintro e w4 ⟨rfl, s4⟩
  have r4 := r3.still s4
  have HW0 := lwaits_any w.heap.size A3 [] task w4 r4 wi
  rw [decide_eq_false (by simp [idt])] at HW0
  go_wp2_with (go_at_call 11; refine HW0.mono ?_; rintro e w5 ⟨rfl, rfl⟩)
  refine (lput_new w.heap.size A3 [] task b c _ r4 wi wb wc (by simp [idt]) (by simp)).mono ?_
  rintro e w6 ⟨rfl, A6, r6, v6⟩
  have HW1 := lwaits_any w.heap.size A6 _ task w6 r6 wi
  rw [decide_eq_true (by simp [idt])] at HW1
  go_wp2_with (go_at_call 11; refine HW1.mono ?_; rintro e w7 ⟨rfl, rfl⟩)
  go_ret
  exact ⟨rfl, (step_made s0 (mv_trans (mv_trans (mv_trans v1 v3) (mv_still s4)) v6) (fun k e => by omega) (Nat.le_refl _)).below (Nat.le_refl _) (fun _ _ q => q)⟩

end Go.Proofs.Ythhhakglchcfgaa.LT
