/- A semaphore that is taken for some cycles is over behind just as many of its holder's, and not of others'. -/
import Derived.Test.YtlcbgkicooeklaaLckAns
namespace Go.Proofs.Ytlcbgkicooeklaa.LK
open Go.ChangeShapes Go.WideShapes Go.ChangeAt Go.RowKit Go.Proofs.Ytlcbgkicooeklaa.AR

def ovL (x : Int) : List Hd := [⟨1, 0, x⟩]

theorem ovL_take (x : Int) : takeL [] ⟨1, 0, x⟩ = ovL x := rfl
theorem ovL_other (x : Int) : spendL (ovL x) 2 = ovL x := by simp [spendL, ovL, sp1]
theorem ovL_own (x : Int) (h0 : -9223372036854775808 < x) (h1 : x ≤ 9223372036854775807) : spendL (ovL x) 1 = ovL (x - 1) := by
  have e : wrap64 (x - 1) = x - 1 := by unfold wrap64; omega
  simp [spendL, ovL, sp1, e]
theorem ovL_over (x : Int) : overB (ovL x) 1 = decide (x ≤ 0) := by simp [overB, ovL, anyH, atH]
theorem ovL_not (x : Int) : overB (ovL x) 2 = false := by simp [overB, ovL, anyH, atH]

theorem u8_in {n : Int} (h : (Lit.int .u8 n).wf = true) : 0 ≤ n ∧ n ≤ 255 := by
  simp [Lit.wf, IntKind.min, IntKind.max, IntKind.signed, IntKind.bits] at h
  omega

set_option maxHeartbeats 8000000 in
theorem locksOver_walk (c o : Int) (w : World) (hc : (Lit.int .u8 c).wf = true) (ho : (Lit.int .u8 o).wf = true) :
    Calls Try.prog 5 #[.int .u8 c, .int .u8 o] w fun e w' => e = .returned (.bool true) ∧ Below w.heap.size w w' := by
  have HE : Hid (∀ w', Kp w w' → Below w.heap.size w w') := fun w' q => Kp.below q
  obtain ⟨c0, c1⟩ := u8_in hc
  obtain ⟨o0, o1⟩ := u8_in ho
  obtain ⟨m, rfl⟩ : ∃ m : Nat, c = (m : Int) := ⟨c.toNat, by omega⟩
  obtain ⟨p, rfl⟩ : ∃ p : Nat, o = (p : Int) := ⟨o.toNat, by omega⟩
  have v1 : IntKind.i64.wrap (m : Int) = m := by rw [IntKind.wrap_i64]; omega
  have v2 : IntKind.i64.wrap (p : Int) = p := by rw [IntKind.wrap_i64]; omega
  have v3 : wrap64 (m : Int) = m := by unfold wrap64; omega
  have v4 : wrap64 (p : Int) = p := by unfold wrap64; omega
  have v5 : wrap64 ((m : Int) + 1) = (m : Int) + 1 := by unfold wrap64; omega
  clear hc ho
  have H1 : Hid (∀ lb A W, LRep W lb A [] → Calls Try.prog 11 #[.pointer (some ⟨lb, 0, none⟩), .int .i64 1, .int .i64 0, .int .i64 ((m : Int) + 1)] W fun e w' => e = .returned (.int .i64 0) ∧ LWent W lb A (ovL ((m : Int) + 1)) w') := fun lb A W h => take_any lb A [] 1 0 ((m : Int) + 1) W h (by decide)
  have H2 : Hid (∀ lb A W x, LRep W lb A (ovL x) → Calls Try.prog 15 #[.pointer (some ⟨lb, 0, none⟩), .int .i64 2] W fun e w' => e = .returned (.tuple #[]) ∧ LWent W lb A (ovL x) w') := fun lb A W x h => by
    have := spend_any lb A (ovL x) 2 W h; rw [ovL_other] at this; exact this
  have H3 : Hid (∀ lb A W (x : Int), -9223372036854775808 < x → x ≤ 9223372036854775807 → LRep W lb A (ovL x) → Calls Try.prog 15 #[.pointer (some ⟨lb, 0, none⟩), .int .i64 1] W fun e w' => e = .returned (.tuple #[]) ∧ LWent W lb A (ovL (x - 1)) w') := fun lb A W x h0 h1 h => by
    have := spend_any lb A (ovL x) 1 W h; rw [ovL_own x h0 h1] at this; exact this
  have H4 : Hid (∀ lb A W (x : Int), 0 < x → LRep W lb A (ovL x) → Calls Try.prog 17 #[.pointer (some ⟨lb, 0, none⟩), .int .i64 1] W fun e w' => e = .returned (.bool false) ∧ Kp W w') := fun lb A W x hx h => by
    have := over_any lb A (ovL x) 1 W h; rw [ovL_over, decide_eq_false (by omega)] at this; exact this
  have H5 : Hid (∀ lb A W (x : Int), x ≤ 0 → LRep W lb A (ovL x) → Calls Try.prog 17 #[.pointer (some ⟨lb, 0, none⟩), .int .i64 1] W fun e w' => e = .returned (.bool true) ∧ Kp W w') := fun lb A W x hx h => by
    have := over_any lb A (ovL x) 1 W h; rw [ovL_over, decide_eq_true hx] at this; exact this
  have H6 : Hid (∀ lb A W (x : Int), LRep W lb A (ovL x) → Calls Try.prog 17 #[.pointer (some ⟨lb, 0, none⟩), .int .i64 2] W fun e w' => e = .returned (.bool false) ∧ Kp W w') := fun lb A W x h => by
    have := over_any lb A (ovL x) 2 W h; rw [ovL_not] at this; exact this
  go_enter Try.func5, Try.ntmps5
  go_wp2_with fail
  refine (new_any _).mono ?_
  rintro e w1 ⟨rfl, r1, k1⟩
  have G1 := lkOf_new r1 k1
  clear r1 k1
  go_wp2_with fail
  refine (H1.out _ _ _ G1.rep).mono ?_
  rintro e w2 ⟨rfl, q2⟩
  obtain ⟨A2, G2⟩ := G1.went q2
  have HG2 : Hid (LkOf w w2 w.heap.size A2 (ovL ((m : Int) + 1))) := G2
  clear q2 G1 G2 H1
  go_wp2
  go_loopw [6] (fun i wr => ∃ k : Nat, k ≤ p ∧ i = .int .i64 k ∧ Hid (∃ A, LkOf w wr w.heap.size A (ovL ((m : Int) + 1)))) (fun i _ => p - (intOf i).toNat)
  case atStart => exact ⟨0, Nat.zero_le _, rfl, _, HG2.out⟩
  case round =>
    obtain ⟨k, hk, rfl, G⟩ := hrel
    obtain ⟨A, GA⟩ := G.out
    by_cases hlt : k < p
    · have hlt' : (k : Int) < (p : Int) := by omega
      go_wp2_with fail
      refine (H2.out _ _ _ _ GA.rep).mono ?_
      rintro e w3 ⟨rfl, q3⟩
      obtain ⟨A3, G3⟩ := GA.went q3
      clear q3 GA
      go_wp2
      go_roundw
      case rel => exact ⟨k + 1, by omega, by go_num, A3, G3⟩
      case measure => simp [intOf]; omega
    · have hlt' : ¬ (k : Int) < (p : Int) := by omega
      have HGA : Hid (LkOf w wr w.heap.size A (ovL ((m : Int) + 1))) := GA
      clear GA G
      go_wp2
      go_loopw [7] (fun i wr => ∃ j : Nat, j ≤ m + 1 ∧ i = .int .i64 j ∧ Hid (∃ A, LkOf w wr w.heap.size A (ovL ((m : Int) + 1 - j)))) (fun i _ => m + 1 - (intOf i).toNat)
      case atStart => exact ⟨0, Nat.zero_le _, rfl, _, HGA.out.as (by simp)⟩
      case round =>
        obtain ⟨j, hj, rfl, Gj⟩ := hrel
        obtain ⟨Aj, GA⟩ := Gj.out
        by_cases hjl : j < m + 1
        · have hjl' : (j : Int) < (m : Int) + 1 := by omega
          go_wp2_with fail
          refine (H4.out _ _ _ _ (by omega) GA.rep).mono ?_
          rintro e w4 ⟨rfl, k4⟩
          have G4 := GA.still k4
          clear GA k4
          go_wp2_with fail
          refine (H3.out _ _ _ _ (by omega) (by omega) G4.rep).mono ?_
          rintro e w5 ⟨rfl, q5⟩
          obtain ⟨A5, G5⟩ := G4.went q5
          have HG5 : Hid (∃ A, LkOf w w5 w.heap.size A (ovL ((m : Int) + 1 - ((j + 1 : Nat) : Int)))) := ⟨A5, G5.as (by congr 1; omega)⟩
          clear q5 G4 G5
          go_wp2
          go_roundw
          case rel => exact ⟨j + 1, by omega, by go_num, HG5⟩
          case measure => simp [intOf]; omega
        · have hjl' : ¬ (j : Int) < (m : Int) + 1 := by omega
          go_wp2_with fail
          refine (answers_any _).mono ?_
          rintro e w4 ⟨rfl, k4⟩
          have G4 := GA.still k4
          clear GA k4
          go_wp2_with fail
          refine (H5.out _ _ _ _ (by omega) G4.rep).mono ?_
          rintro e w5 ⟨rfl, k5⟩
          have G5 := G4.still k5
          clear G4 k5
          go_wp2_with fail
          refine (H6.out _ _ _ _ G5.rep).mono ?_
          rintro e w6 ⟨rfl, k6⟩
          have G6 := G5.still k6
          clear G5 k6
          go_wp2
          go_ret
          exact ⟨rfl, HE.out _ G6.kp⟩

end Go.Proofs.Ytlcbgkicooeklaa.LK
