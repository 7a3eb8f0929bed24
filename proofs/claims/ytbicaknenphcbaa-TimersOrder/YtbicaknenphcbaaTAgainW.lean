/- A timer that is set again is due as it was set last; cancelled it is not due at all. -/
import Derived.Test.YtbicaknenphcbaaTLaw
namespace Go.Proofs.Ytbicaknenphcbaa.HW
open Go.ChangeShapes Go.WideShapes Go.ChangeAt Go.RowKit Go.Proofs.Ytbicaknenphcbaa.HP Go.Maps Go.Proofs.Ytbicaknenphcbaa.HM Go.Proofs.Ytbicaknenphcbaa.AR

theorem drop_one (id x y : Int) : dropT [(id, x, y)] id = [] := by simp [dropT]
theorem set_nil (id a ev : Int) : setT [] id a ev = [(id, capN a, ev)] := rfl
theorem set_one (id x y a ev : Int) : setT [(id, x, y)] id a ev = [(id, capN a, ev)] := by unfold setT; rw [drop_one]; rfl
theorem next_one (id x : Int) : nextT [(id, x, 0)] (id, x, 0) = [] := by unfold nextT; rw [if_neg (by simp)]; exact drop_one id x 0
theorem mom_one {id x y : Int} (h1 : -1099511627776 ≤ x) (h2 : x ≤ 1099511627776) : Mom [(id, x, y)] := fun t ht => by simp at ht; subst ht; exact ⟨h1, h2⟩

set_option maxHeartbeats 4000000 in
theorem timersAgain_walk (id a b ev : Int) (w : World) (h1 : (Lit.int .i64 id).wf = true) (h2 : (Lit.int .i64 a).wf = true) (h3 : (Lit.int .i64 b).wf = true) (h4 : (Lit.int .i64 ev).wf = true) :
    Calls Try.prog 6 #[.int .i64 id, .int .i64 a, .int .i64 b, .int .i64 ev] w fun e w' => e = .returned (.bool true) ∧ Below w.heap.size w w' := by
  have wi : W64 id := i64_of_wf h1
  have wa : W64 a := i64_of_wf h2
  have wb : W64 b := i64_of_wf h3
  have wv : W64 ev := i64_of_wf h4
  clear h1 h2 h3 h4
  have w0 : W64 0 := ⟨by omega, by omega⟩
  by_cases ca : a < -1099511627776
  · go_enter Try.func6, Try.ntmps6
    go_wp2_with (go_at_call 9; refine (tanswers_any _).mono ?_; rintro e w1 ⟨rfl, hs⟩)
    go_ret
    exact ⟨rfl, hs.below (Nat.le_refl _) (fun _ _ q => q)⟩
  · by_cases cb : b < -1099511627776
    · go_enter Try.func6, Try.ntmps6
      go_wp2_with (go_at_call 9; refine (tanswers_any _).mono ?_; rintro e w1 ⟨rfl, hs⟩)
      go_ret
      exact ⟨rfl, hs.below (Nat.le_refl _) (fun _ _ q => q)⟩
    · have HM : Hid (Mom [(id, capN b, 0)]) := mom_one (capN_ge (by omega)) (capN_le b)
      have HC : Hid (capN b ≤ 1099511627776) := capN_le b
      obtain ⟨c, hc⟩ : ∃ c, capN b = c := ⟨_, rfl⟩
      have HB : (b ≤ 1099511627776 ∧ c = b) ∨ (¬ b ≤ 1099511627776 ∧ c = 1099511627776) := by
        by_cases q : b ≤ 1099511627776
        · exact .inl ⟨q, by rw [← hc]; exact capN_id q⟩
        · exact .inr ⟨q, by rw [← hc]; unfold capN; rw [if_neg q]⟩
      go_enter Try.func6, Try.ntmps6
      go_wp2_with fail
      refine (tnew_any _).mono ?_
      rintro e w0' ⟨rfl, r0, s0⟩
      have T0 := tw_new r0 s0
      clear r0 s0
      go_wp2_with fail
      refine (set2 w _ _ _ [] id a ev T0 wi wa wv (by simp)).mono ?_
      rintro e w1 ⟨rfl, T1⟩
      rw [set_nil] at T1
      go_wp2_with fail
      refine (set2 w _ _ _ _ id b 0 T1 wi wb w0 (by simp)).mono ?_
      rintro e w2 ⟨rfl, T2⟩
      rw [set_one] at T2
      go_wp2_with fail
      refine (due2_some w _ _ _ _ (id, capN b, 0) 1099511627776 T2 (least_one _) HC.out HM.out (by simp)).mono ?_
      rintro e w3 ⟨rfl, T3⟩
      rw [next_one] at T3
      rw [hc] at *
      go_wp2_with fail
      refine (due2_none w _ _ _ [] 1099511627776 T3 (fun t ht => by simp at ht)).mono ?_
      rintro e w4 ⟨rfl, T4⟩
      go_wp2_with fail
      refine (set2 w _ _ _ [] id a ev T4 wi wa wv (by simp)).mono ?_
      rintro e w5 ⟨rfl, T5⟩
      rw [set_nil] at T5
      go_wp2_with fail
      refine (cancel2 w _ _ _ _ id T5 wi).mono ?_
      rintro e w6 ⟨rfl, T6⟩
      rw [drop_one] at T6
      have hin : decide (id ∈ idt [(id, capN a, ev)]) = true := by simp [idt]
      have hout : decide (id ∈ idt []) = false := by simp [idt]
      rw [hin]
      go_wp2_with fail
      refine (due2_none w _ _ _ [] 1099511627776 T6 (fun t ht => by simp at ht)).mono ?_
      rintro e w7 ⟨rfl, T7⟩
      go_wp2_with fail
      refine (answers2 w _ _ _ _ T7).mono ?_
      rintro e w8 ⟨rfl, T8⟩
      rcases HB with ⟨q, rfl⟩ | ⟨q, rfl⟩
      · go_wp2_with fail
        refine (cancel2 w _ _ _ _ id T8 wi).mono ?_
        rintro e w9 ⟨rfl, T9⟩
        rw [hout]
        go_wp2
        go_ret
        exact ⟨rfl, T9.bel⟩
      · go_wp2_with fail
        refine (cancel2 w _ _ _ _ id T8 wi).mono ?_
        rintro e w9 ⟨rfl, T9⟩
        rw [hout]
        go_wp2
        go_ret
        exact ⟨rfl, T9.bel⟩

end Go.Proofs.Ytbicaknenphcbaa.HW
