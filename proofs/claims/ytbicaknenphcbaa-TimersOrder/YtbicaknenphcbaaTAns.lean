/- What the first look at timers answers; timers that are none. -/
import Derived.Test.YtbicaknenphcbaaTDue
namespace Go.Proofs.Ytbicaknenphcbaa.HW
open Go.ChangeShapes Go.WideShapes Go.ChangeAt Go.RowKit Go.Proofs.Ytbicaknenphcbaa.HP Go.Maps Go.Proofs.Ytbicaknenphcbaa.HM

theorem least_one (t : T3) : Least [t] t := ⟨by simp, fun u hu => by simp at hu; subst hu; exact ltB_irrefl _⟩

set_option maxHeartbeats 2000000 in
theorem tanswers_any (w : World) :
    Calls Try.prog 9 #[] w fun e w' => e = .returned (.bool true) ∧ Step (fun _ => False) w w' := by
  have n1 : W64 1 := ⟨by omega, by omega⟩
  have n5 : W64 5 := ⟨by omega, by omega⟩
  have m5 : Mom [(1, 5, 5)] := fun t ht => by simp at ht; subst ht; exact ⟨by decide, by decide⟩
  have m10 : Mom [(1, 10, 5)] := fun t ht => by simp at ht; subst ht; exact ⟨by decide, by decide⟩
  go_enter Try.func9, Try.ntmps9
  go_wp2_with fail
  refine (tnew_any _).mono ?_
  rintro e w0 ⟨rfl, r0, s0⟩
  go_wp2_with fail
  refine (tset_any w.heap.size _ [] 1 5 5 _ r0 n1 n5 n5 (by simp)).mono ?_
  rintro e w1 ⟨rfl, A1, r1, v1⟩
  have r1' : TRep w1 w.heap.size A1 [(1, 5, 5)] := r1
  clear r1
  go_wp2_with fail
  refine (tdue_none w.heap.size A1 _ 4 _ r1' (fun t ht => by simp at ht; subst ht; decide)).mono ?_
  rintro e w2 ⟨rfl, s2⟩
  have r2 : TRep w2 w.heap.size A1 [(1, 5, 5)] := r1'.kept s2 (fun _ _ _ q => q)
  clear r1'
  go_wp2_with fail
  refine (tdue_some w.heap.size A1 [(1, 5, 5)] (1, 5, 5) 12 _ r2 (least_one _) (by decide) m5 (by decide)).mono ?_
  rintro e w3 ⟨rfl, A3, r3, v3⟩
  have r3' : TRep w3 w.heap.size A3 [(1, 10, 5)] := r3
  clear r3
  go_wp2_with fail
  refine (tdue_some w.heap.size A3 [(1, 10, 5)] (1, 10, 5) 12 _ r3' (least_one _) (by decide) m10 (by decide)).mono ?_
  rintro e w4 ⟨rfl, A4, r4, v4⟩
  have r4' : TRep w4 w.heap.size A4 [(1, 15, 5)] := r4
  clear r4
  go_wp2_with fail
  refine (tlen_any w.heap.size A4 _ _ r4').mono ?_
  rintro e w5 ⟨rfl, rfl⟩
  go_wp2
  go_ret
  refine ⟨rfl, ?_⟩
  have h4 : Moved (fun k => k = w.heap.size) w0 A4 w5 := ((v1.trans ⟨s2.mono (fun _ _ q => q.elim), fun _ _ q => q⟩).trans v3).trans v4
  exact ⟨h4.stp.os.trans s0.os, h4.stp.tape.trans s0.tape, h4.stp.output.trans s0.output, Nat.le_trans s0.size h4.stp.size, fun k hk _ => (h4.stp.block k (Nat.lt_of_lt_of_le hk s0.size) (by omega)).trans (s0.block k hk (fun q => q))⟩

set_option maxHeartbeats 2000000 in
theorem timersNone_walk (id a ev : Int) (w : World) (_h1 : (Lit.int .i64 id).wf = true) (_h2 : (Lit.int .i64 a).wf = true) (_h3 : (Lit.int .i64 ev).wf = true) :
    Calls Try.prog 7 #[.int .i64 id, .int .i64 a, .int .i64 ev] w fun e w' => e = .returned (.bool true) ∧ Below w.heap.size w w' := by
  go_enter Try.func7, Try.ntmps7
  go_wp2_with (first
    | (go_at_call 10; refine (tset_none _ _ _ _).mono ?_; rintro e w' ⟨rfl, rfl⟩)
    | (go_at_call 16; refine (tdue_nil _ _).mono ?_; rintro e w' ⟨rfl, rfl⟩)
    | (go_at_call 13; refine (tcancel_none _ _).mono ?_; rintro e w' ⟨rfl, rfl⟩)
    | (go_at_call 15; refine (tlen_none _).mono ?_; rintro e w' ⟨rfl, rfl⟩)
    | (go_at_call 9; refine (tanswers_any _).mono ?_; rintro e w1 ⟨rfl, hs⟩)
    | fail)
  go_ret
  exact ⟨rfl, hs.below (Nat.le_refl _) (fun _ _ q => q)⟩

end Go.Proofs.Ytbicaknenphcbaa.HW
