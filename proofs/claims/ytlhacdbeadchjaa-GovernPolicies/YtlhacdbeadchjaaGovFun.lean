/- Which level is chosen: the program's and the document's own, walked. -/
import Derived.Test.YtlhacdbeadchjaaGovPlain
import Derived.OwnWalk
import Derived.BigRegion
import Derived.BigQuiet
namespace Go.Proofs.Ytlhacdbeadchjaa.GV
open Go.ChangeShapes Go.WideShapes Go.ChangeAt Go.RowKit Go.Proofs.Ytlhacdbeadchjaa.AR Go.Proofs.Ytlhacdbeadchjaa.TB Go.Proofs.Ytlhacdbeadchjaa.FX

theorem whole_at (n : Int) (w : World) :
    Calls Try.prog 21 #[.int .i64 n] w fun e w' => e = .returned (.int .i64 (wh n)) ∧ w = w' :=
  (FX.whole_any n w).mono fun _ _ ⟨h, k⟩ => ⟨h, k.symm⟩

theorem rwhole_at (n : Int) (w : World) :
    Calls Try.prog 12 #[.int .i64 n] w fun e w' => e = .returned (.int .i64 (wh n)) ∧ w = w' :=
  (FX.ref_whole_any n w).mono fun _ _ ⟨h, k⟩ => ⟨h, k.symm⟩

theorem run_min2 (ts : Array TypeId) (t : TypeId) (a b : Int) (w : World) : (Builtin.min_ ts t #[.int .i64 a, .int .i64 b]).run Try.prog w = .ok (.int .i64 (mn a b)) w := by
  unfold mn
  simp [Builtin.min_, Builtin.min2]

theorem rmax_at (a b : Int) (w : World) :
    Calls Try.prog 13 #[.int .i64 a, .int .i64 b] w fun e w' => e = .returned (.int .i64 (mx a b)) ∧ w = w' := by
  by_cases h : a < b
  · rw [mx_lt h]
    go_enter Try.func13, Try.ntmps13
    go_wp2
    go_ret
    exact ⟨rfl, rfl⟩
  · rw [mx_ge h]
    by_cases h2 : b < a
    · go_enter Try.func13, Try.ntmps13
      go_wp2
      go_ret
      exact ⟨rfl, rfl⟩
    · obtain rfl : a = b := by omega
      go_enter Try.func13, Try.ntmps13
      go_wp2
      go_ret
      exact ⟨rfl, rfl⟩

theorem rmin_at (a b : Int) (w : World) :
    Calls Try.prog 16 #[.int .i64 a, .int .i64 b] w fun e w' => e = .returned (.int .i64 (mn a b)) ∧ w = w' := by
  by_cases hp : a < b
  · have e : mn a b = a := mn_ge (by omega)
    rw [e]; clear e
    go_enter Try.func16, Try.ntmps16
    go_wp2
    go_ret
    exact ⟨rfl, rfl⟩
  · have e : mn a b = b := by
      by_cases q : b < a
      · exact mn_lt q
      · rw [mn_ge q]; omega
    rw [e]; clear e
    go_enter Try.func16, Try.ntmps16
    go_wp2
    go_ret
    exact ⟨rfl, rfl⟩

set_option maxHeartbeats 4000000 in
theorem slowest_any (m : Mc) (pol st : Int) (w : World) (hb : Bd m) :
    Calls Try.prog 20 #[m.v, .int .i64 pol, .int .i64 st] w fun e w' => e = .returned (.int .i64 (spI m pol st)) ∧ Kp w w' := by
  have hcr := hb.cr
  have h4 := hb.l4
  have s1 : IntKind.i64.wrap ((m.lL : Int) - 1) = (m.lL : Int) - 1 := wrapI (by omega)
  have e0 : mn m.crit ((m.lL : Int) - 1) = m.crit := mn_ge (by omega)
  have hm1 : ∀ (ts : Array TypeId) (t : TypeId) (w : World), (Builtin.min_ ts t #[.int .i64 m.crit, .int .i64 ((m.lL : Int) - 1)]).run Try.prog w = .ok (.int .i64 m.crit) w := fun ts t w => (run_min2 ts t _ _ w).trans (by rw [e0])
  have hm2 : ∀ (ts : Array TypeId) (t : TypeId) (w : World), (Builtin.min_ ts t #[.int .i64 st, .int .i64 m.crit]).run Try.prog w = .ok (.int .i64 (mn st m.crit)) w := fun ts t w => run_min2 ts t _ _ w
  obtain ⟨W0, HW, K0, P0⟩ := one_box w m
  unfold Mc.v
  clear e0 hb hcr h4 P0
  by_cases c1 : pol = 1
  · rw [sp_s (.inl c1)]
    subst c1
    generalize mn st m.crit = res at *
    go_enter Try.func20, Try.ntmps20
    go_wp2
    rw [← HW.out]
    go_ret
    exact ⟨rfl, K0⟩
  · by_cases c3 : pol = 3
    · rw [sp_s (.inr c3)]
      subst c3
      generalize mn st m.crit = res at *
      go_enter Try.func20, Try.ntmps20
      go_wp2
      rw [← HW.out]
      go_ret
      exact ⟨rfl, K0⟩
    · by_cases c2 : pol = 2
      · rw [sp_l c2]
        subst c2
        go_enter Try.func20, Try.ntmps20
        go_wp2
        rw [← HW.out]
        go_ret
        exact ⟨rfl, K0⟩
      · rw [sp_o c1 c2 c3]
        have d1 : (pol == 1) = false := by simpa using c1
        have d2 : (pol == 2) = false := by simpa using c2
        have d3 : (pol == 3) = false := by simpa using c3
        clear c1 c2 c3
        go_enter Try.func20, Try.ntmps20
        go_wp2
        rw [← HW.out]
        go_ret
        exact ⟨rfl, K0⟩

set_option maxHeartbeats 4000000 in
theorem extra_any (m : Mc) (k : Nat) (lf lv : Int) (w : World) (h : m.At w) (hb : Bd m) (hl : 0 ≤ lf ∧ lf ≤ 8192) (h0 : 1 ≤ k) (hk : k < m.lL) :
    Calls Try.prog 22 #[m.v, .int .i64 (k : Nat), .int .i64 lf, .int .i64 lv] w fun e w' => e = .returned (.int .i64 (exI m lf lv k)) ∧ Kp w w' := by
  have b1 := ex_bd hb hl hk
  have b2 := hb.lev k hk
  have b3 := hb.lev 0 (by omega)
  have b4 := hb.sw
  have s1 : IntKind.i64.wrap (fd m.rL k 0 - fd m.rL 0 0) = fd m.rL k 0 - fd m.rL 0 0 := wrapI (by omega)
  have s2 : IntKind.i64.wrap (lf * (fd m.rL k 0 - fd m.rL 0 0)) = lf * (fd m.rL k 0 - fd m.rL 0 0) := wrapI (by omega)
  have s3 : IntKind.i64.wrap (lf * (fd m.rL k 0 - fd m.rL 0 0) + m.sw) = lf * (fd m.rL k 0 - fd m.rL 0 0) + m.sw := wrapI (by omega)
  have HR1 : Hid ((k : Int) = lv → exI m lf lv k = wrap64 (lf * (fd m.rL k 0 - fd m.rL 0 0))) := fun q => by rw [ex_eq q, IntWalk.wrap64_in _ (by omega)]
  have HR2 : Hid (¬ (k : Int) = lv → exI m lf lv k = wrap64 (wrap64 (lf * (fd m.rL k 0 - fd m.rL 0 0)) + m.sw)) := fun q => by rw [ex_ne q, IntWalk.wrap64_in (lf * _) (by omega), IntWalk.wrap64_in _ (by omega)]
  obtain ⟨W0, HW, K0, P0⟩ := one_box w m
  obtain ⟨b, off, e, hlt, d1, d0⟩ := lev_two (h.kept K0) hk
  obtain ⟨p0, p1, p2, p3, p4, p5, p6, p7, p8⟩ := P0.all
  have hk1 : ¬ (k : Int) < 0 := by omega
  have hk2 : (k : Int) < (m.lL : Int) := by omega
  have hk3 : (0 : Int) < (m.lL : Int) := by omega
  have hk4 : 0 < m.lL := by omega
  unfold Mc.v
  rw [e] at HW p0 ⊢
  generalize exI m lf lv k = res at *
  generalize fd m.rL k 0 = x at *
  generalize fd m.rL 0 0 = y at *
  clear b1 b2 b3 b4 e
  by_cases c : (k : Int) = lv
  · have HN : Hid (res = wrap64 (lf * (x - y))) := HR1.out c
    have c' : ((k : Int) != lv) = false := by simpa using c
    clear HR1 HR2 c s3 s2
    go_enter Try.func22, Try.ntmps22
    go_wp2_with fail
    rw [← HW.out]
    clear HW
    go_region
    all_goals
      go_wp2
      go_ret
      exact ⟨congrArg (fun x => Ending.returned (Value.int .i64 x)) HN.out.symm, by first | exact K0 | exact K0.trans (TB.kp_drew _)⟩
  · have HN : Hid (res = wrap64 (wrap64 (lf * (x - y)) + m.sw)) := HR2.out c
    have c' : ((k : Int) != lv) = true := by simpa using c
    clear HR1 HR2 c s2 s3
    go_enter Try.func22, Try.ntmps22
    go_wp2_with fail
    rw [← HW.out]
    clear HW
    go_region
    all_goals
      go_wp2
      go_ret
      exact ⟨congrArg (fun x => Ending.returned (Value.int .i64 x)) HN.out.symm, by first | exact K0 | exact K0.trans (TB.kp_drew _)⟩

end Go.Proofs.Ytlhacdbeadchjaa.GV
