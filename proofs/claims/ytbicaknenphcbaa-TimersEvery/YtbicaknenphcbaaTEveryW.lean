/- A timer by itself is due at each of its moments, one behind the other, and at no other one. -/
import Derived.Test.YtbicaknenphcbaaTAgainW
namespace Go.Proofs.Ytbicaknenphcbaa.HW
open Go.ChangeShapes Go.WideShapes Go.ChangeAt Go.RowKit Go.Proofs.Ytbicaknenphcbaa.HP Go.Maps Go.Proofs.Ytbicaknenphcbaa.HM Go.Proofs.Ytbicaknenphcbaa.AR

theorem u8_of_wf {x : Int} (h : (Lit.int .u8 x).wf = true) : 0 ≤ x ∧ x ≤ 255 := by
  simp [Lit.wf, IntKind.min, IntKind.max, IntKind.signed, IntKind.bits] at h
  exact ⟨by omega, by omega⟩

theorem next_again {id x y : Int} (h0 : 0 < y) (h : x + y ≤ 1099511627776) : nextT [(id, x, y)] (id, x, y) = [(id, x + y, y)] := by
  unfold nextT
  rw [if_pos h0]
  show setT [(id, x, y)] id (latN x y) y = _
  rw [set_one]
  have : latN x y = x + y := by unfold latN; rw [if_neg (by omega)]
  rw [this, capN_id h]

set_option maxHeartbeats 4000000 in
theorem timersEvery_walk (a v n : Int) (w : World) (h1 : (Lit.int .u8 a).wf = true) (h2 : (Lit.int .u8 v).wf = true) (h3 : (Lit.int .u8 n).wf = true) :
    Calls Try.prog 4 #[.int .u8 a, .int .u8 v, .int .u8 n] w fun e w' => e = .returned (.bool true) ∧ Below w.heap.size w w' := by
  obtain ⟨a0, a1⟩ := u8_of_wf h1
  obtain ⟨v0, v1⟩ := u8_of_wf h2
  obtain ⟨n0, n1⟩ := u8_of_wf h3
  clear h1 h2 h3
  have w3 : W64 3 := ⟨by omega, by omega⟩
  have wa : W64 a := ⟨by omega, by omega⟩
  have wv : W64 v := ⟨by omega, by omega⟩
  have HC : Hid (capN a = a) := capN_id (by omega)
  by_cases vz : v = 0
  · subst vz
    go_enter Try.func4, Try.ntmps4
    go_wp2_with fail
    refine (tnew_any _).mono ?_
    rintro e w0 ⟨rfl, r0, s0⟩
    have T0 := tw_new r0 s0
    clear r0 s0
    go_wp2_with fail
    refine (set2 w _ _ _ [] 3 a 0 T0 w3 wa wv (by simp)).mono ?_
    rintro e w1 ⟨rfl, T1⟩
    rw [set_nil, HC.out] at T1
    by_cases an : a ≤ n
    · go_wp2_with fail
      refine wp_loop_rounds 1 ?_
      rw [rounds_succ]
      go_wp2_with fail
      refine (due2_some w _ _ _ _ (3, a, 0) n T1 (least_one _) an (mom_one (by omega) (by omega)) (by simp)).mono ?_
      rintro e w2 ⟨rfl, T2⟩
      rw [next_one] at T2
      go_wp2_with fail
      refine (due2_none w _ _ _ [] n T2 (fun t ht => by simp at ht)).mono ?_
      rintro e w3' ⟨rfl, T3⟩
      go_wp2_with fail
      refine (answers2 w _ _ _ _ T3).mono ?_
      rintro e w4 ⟨rfl, T4⟩
      go_wp2_with fail
      refine (len2 w _ _ _ _ 0 T4 rfl).mono ?_
      rintro e w5 ⟨rfl, rfl⟩
      go_wp2
      go_ret
      exact ⟨rfl, T4.bel⟩
    · have T1' : Tw w w1 (.slice none 0 0) [] [(3, a, 0)] := T1
      have hall : Hid (∀ t ∈ [((3 : Int), a, (0 : Int))], n < t.2.1) := fun t ht => by simp at ht; subst ht; show n < a; omega
      go_wp2_with fail
      refine wp_loop_rounds 1 ?_
      rw [rounds_succ]
      go_wp2_with fail
      refine (due2_none w _ _ _ _ n T1' hall.out).mono ?_
      rintro e w3' ⟨rfl, T3⟩
      go_wp2_with fail
      refine (answers2 w _ _ _ _ T3).mono ?_
      rintro e w4 ⟨rfl, T4⟩
      go_wp2_with fail
      refine (len2 w _ _ _ _ 1 T4 rfl).mono ?_
      rintro e w5 ⟨rfl, rfl⟩
      go_wp2
      go_ret
      exact ⟨by simp [an], T4.bel⟩
  · have vp : 0 < v := by omega
    have vb : (v == 0) = false := by simpa using vz
    go_enter Try.func4, Try.ntmps4
    go_wp2_with fail
    refine (tnew_any _).mono ?_
    rintro e w0 ⟨rfl, r0, s0⟩
    have T0 := tw_new r0 s0
    clear r0 s0
    go_wp2_with fail
    refine (set2 w _ _ _ [] 3 a v T0 w3 wa wv (by simp)).mono ?_
    rintro e w1 ⟨rfl, T1⟩
    rw [set_nil, HC.out] at T1
    go_wp2_with fail
    go_loopw [8] (fun x wr => ∃ k : Int, x = .int .i64 k ∧ 0 ≤ k ∧ k ≤ 510 ∧ Tw w wr (.slice none 0 0) [] [(3, k, v)]) (fun x _ => (511 - intOf x).toNat)
    case atStart => exact ⟨a, rfl, a0, by omega, T1⟩
    case round =>
      obtain ⟨k, rfl, k0, k1, T⟩ := hrel
      by_cases kn : k ≤ n
      · go_wp2_with fail
        refine (due2_some w _ _ _ _ (3, k, v) n T (least_one _) kn (mom_one (by omega) (by omega)) (by simp)).mono ?_
        rintro e w2 ⟨rfl, T2⟩
        rw [next_again vp (by omega)] at T2
        go_wp2
        go_roundw
        case rel => exact ⟨k + v, by go_num, by omega, by omega, T2⟩
        case measure => simp [intOf]; omega
      · have hall : Hid (∀ t ∈ [((3 : Int), k, v)], n < t.2.1) := fun t ht => by simp at ht; subst ht; show n < k; omega
        go_wp2_with fail
        refine (due2_none w _ _ _ _ n T hall.out).mono ?_
        rintro e w3' ⟨rfl, T3⟩
        go_wp2_with fail
        refine (answers2 w _ _ _ _ T3).mono ?_
        rintro e w4 ⟨rfl, T4⟩
        go_wp2_with fail
        refine (len2 w _ _ _ _ 1 T4 rfl).mono ?_
        rintro e w5 ⟨rfl, rfl⟩
        go_wp2
        go_ret
        exact ⟨rfl, T4.bel⟩

end Go.Proofs.Ytbicaknenphcbaa.HW
