/- What the first look at a heap answers. -/
import Derived.Test.YtldinhemgmnppaaRest
namespace Go.Proofs.Ytldinhemgmnppaa.HW
open Go.ChangeShapes Go.WideShapes Go.ChangeAt Go.RowKit Go.Proofs.Ytldinhemgmnppaa.HP Go.Maps Go.Proofs.Ytldinhemgmnppaa.HM

theorem Moved.trans {A B C : Nat → Prop} {a b c : World} (h : Moved A a B b) (k : Moved B b C c) : Moved A a C c :=
  ⟨⟨k.stp.os.trans h.stp.os, k.stp.tape.trans h.stp.tape, k.stp.output.trans h.stp.output, Nat.le_trans h.stp.size k.stp.size, fun i hi hA =>
      (k.stp.block i (Nat.lt_of_lt_of_le hi h.stp.size) (fun q => hA (h.own i hi q))).trans (h.stp.block i hi hA)⟩,
    fun i hi hC => h.own i hi (k.own i (Nat.lt_of_lt_of_le hi h.stp.size) hC)⟩

set_option maxHeartbeats 2000000 in
theorem answers_any (w : World) :
    Calls Try.prog 19 #[] w fun e w' => e = .returned (.bool true) ∧ Step (fun _ => False) w w' := by
  have n7 : W64 7 := ⟨by omega, by omega⟩
  have n3 : W64 3 := ⟨by omega, by omega⟩
  have n5 : W64 5 := ⟨by omega, by omega⟩
  have n4 : W64 4 := ⟨by omega, by omega⟩
  go_enter Try.func19, Try.ntmps19
  go_wp2_with fail
  refine (new_any _).mono ?_
  rintro e w0 ⟨rfl, r0, s0⟩
  go_wp2_with fail
  refine (push_any w.heap.size _ [] 7 5 _ r0 n7 n5 (by simp)).mono ?_
  rintro e w1 ⟨rfl, A1, r1, m1⟩
  go_wp2_with fail
  refine (push_any w.heap.size _ _ 3 5 _ r1 n3 n5 (by decide)).mono ?_
  rintro e w2 ⟨rfl, A2, r2, m2⟩
  go_wp2_with fail
  refine (push_any w.heap.size _ _ 7 4 _ r2 n7 n4 (by decide)).mono ?_
  rintro e w3 ⟨rfl, A3, r3, m3⟩
  have r3' : Rep w3 w.heap.size A3 [(7, 4), (3, 5)] := r3
  have hm : Moved (fun k => k = w.heap.size) w0 A3 w3 := (m1.trans m2).trans m3
  clear r0 r1 r2 r3 m1 m2 m3
  go_wp2_with fail
  refine (top_cons w.heap.size A3 (7, 4) [(3, 5)] _ r3' (by unfold Sorted; decide)).mono ?_
  rintro e w4 ⟨rfl, s4⟩
  have r4 : Rep w4 w.heap.size A3 [(7, 4), (3, 5)] := r3'.kept s4 (fun _ _ _ q => q)
  clear r3'
  go_wp2_with fail
  refine (len_any w.heap.size A3 _ _ r4).mono ?_
  rintro e w5 ⟨rfl, rfl⟩
  go_wp2_with fail
  refine (remove_any w.heap.size A3 _ 3 _ r4 n3).mono ?_
  rintro e w6 ⟨rfl, A6, r6, m6⟩
  have r6' : Rep w6 w.heap.size A6 [(7, 4)] := r6
  have hin : decide ((3 : Int) ∈ ids [(7, 4), (3, 5)]) = true := by decide
  clear r6 r4
  go_wp2_with fail
  refine (len_any w.heap.size A6 _ _ r6').mono ?_
  rintro e w7 ⟨rfl, rfl⟩
  go_wp2
  go_ret
  refine ⟨rfl, ?_⟩
  have h4 : Moved (fun k => k = w.heap.size) w0 A6 w7 := (hm.trans ⟨s4.mono (fun _ _ q => q.elim), fun _ _ q => q⟩).trans m6
  exact ⟨h4.stp.os.trans s0.os, h4.stp.tape.trans s0.tape, h4.stp.output.trans s0.output, Nat.le_trans s0.size h4.stp.size, fun k hk _ => (h4.stp.block k (Nat.lt_of_lt_of_le hk s0.size) (by omega)).trans (s0.block k hk id)⟩

end Go.Proofs.Ytldinhemgmnppaa.HW
