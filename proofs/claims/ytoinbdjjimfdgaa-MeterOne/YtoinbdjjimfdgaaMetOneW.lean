/- MeterOne, walked. -/
import Derived.Test.YtoinbdjjimfdgaaMetOneP
namespace Go.Proofs.Ytoinbdjjimfdgaa.MT
open Go.ChangeShapes Go.WideShapes Go.ChangeAt Go.RowKit Go.Proofs.Ytoinbdjjimfdgaa.AR Go.Proofs.Ytoinbdjjimfdgaa.TB

set_option linter.unusedSimpArgs false in
set_option maxHeartbeats 8000000 in
theorem meterOne_walk (aL : Option Addr) (lL cL : Nat) (rL : List (List Int)) (aS : Option Addr) (lS cS : Nat) (rS : List (List Int)) (aD : Option Addr) (lD cD : Nat) (rD : List (List Int)) (idle crit sw swe sems hor : Int) (a b c d : Int) (kind frm len arg task cyc : Int) (w : World)
    (h : Mach w aL lL rL aS lS rS aD lD rD) :
    Calls Try.prog 5 #[pv aL lL cL aS lS cS aD lD cD idle crit sw swe sems hor, mv a b c d, iv kind frm len arg task cyc] w
      fun e w' => e = .returned (.bool true) ∧ Below w.heap.size w w' := by
  have HE : Hid (∀ w', Kp w w' → Below w.heap.size w w') := fun w' q => q
  have HT : Hid (∀ w', Kp w w' → Calls Try.prog 7 #[pv aL lL cL aS lS cS aD lD cD idle crit sw swe sems hor] w' fun e w'' => e = .returned (.bool (mayB lL rL lS rS lD rD idle crit sw swe sems hor)) ∧ Kp w' w'') := fun w' k => reftable_any aL lL cL rL aS lS cS rS aD lD cD rD idle crit sw swe sems hor w' (h.kept k)
  have HO : Hid (∀ w', Kp w w' → Calls Try.prog 10 #[pv aL lL cL aS lS cS aD lD cD idle crit sw swe sems hor, iv kind frm len arg task cyc] w' fun e w'' => e = .returned (.int .i64 (cost lL rL lS rS idle swe kind len arg cyc)) ∧ Kp w' w'') := fun w' k => of_any aL lL cL rL aS lS cS rS aD lD cD rD idle crit sw swe sems hor kind frm len arg task cyc w' (h.kept k)
  have HA : Hid (∀ w', Kp w w' → Calls Try.prog 12 #[mv a b c d, pv aL lL cL aS lS cS aD lD cD idle crit sw swe sems hor, iv kind frm len arg task cyc] w'
      fun e w'' => e = .returned (mv (bump kind (cost lL rL lS rS idle swe kind len arg cyc) 0 a) (bump kind (cost lL rL lS rS idle swe kind len arg cyc) 1 b) (bump kind (cost lL rL lS rS idle swe kind len arg cyc) 2 c) (bump kind (cost lL rL lS rS idle swe kind len arg cyc) 3 d)) ∧ Kp w' w'') := fun w' k => add_any a b c d aL lL cL rL aS lS cS rS aD lD cD rD idle crit sw swe sems hor kind frm len arg task cyc w' (h.kept k)
  have HM : Hid (∀ w', Calls Try.prog 8 #[iv kind frm len arg task cyc] w' fun e w'' => e = .returned (.bool (smallB len cyc)) ∧ Kp w' w'') := fun w' => small_any kind frm len arg task cyc w'
  have HC : Hid (mayB lL rL lS rS lD rD idle crit sw swe sems hor = true → smallB len cyc = true → 0 ≤ cost lL rL lS rS idle swe kind len arg cyc ∧ cost lL rL lS rS idle swe kind len arg cyc ≤ 1152921504606846976) := fun q1 q2 => cost_bound q1 (smallB_t.1 q2)
  have HZ : Hid (¬ (1 ≤ kind ∧ kind ≤ 6) → cost lL rL lS rS idle swe kind len arg cyc = 0) := fun q => (cost_other (by omega) (by omega) (by omega) (by omega) (by omega) (by omega)).symm
  generalize mayB lL rL lS rS lD rD idle crit sw swe sems hor = may at *
  generalize cost lL rL lS rS idle swe kind len arg cyc = co at *
  generalize smallB len cyc = sm at *
  obtain ⟨W0, HW⟩ : ∃ W0, Hid (W0 = ((w.alloc (.cells #[.slice aL lL cL, .slice aS lS cS, .slice aD lD cD, .int .i64 idle, .int .i64 crit, .int .i64 sw, .int .i64 swe, .int .i64 sems, .int .i64 hor] 26)).alloc (.cells #[.int .i64 a, .int .i64 b, .int .i64 c, .int .i64 d] 36)).alloc (.cells #[.int .i64 kind, .int .i64 frm, .int .i64 len, .int .i64 arg, .int .i64 task, .int .i64 cyc] 28)) := ⟨_, rfl⟩
  have Y := pmi_new HW.out
  unfold pv iv mv at *
  cases may with
  | false =>
    clear HC
    go_enter Try.func5, Try.ntmps5
    try dsimp only [List.append]
    go_wp2_with fail
    rw [← HW.out]
    refine (HT.out _ Y.kp).mono ?_
    rintro e w1 ⟨rfl, k1⟩
    have Y1 := Y.still k1
    go_wp2_with fail
    refine (manswers_any _).mono ?_
    rintro e w2 ⟨rfl, k2⟩
    go_wp2
    go_ret
    exact ⟨rfl, HE.out _ (Y1.kp.trans k2)⟩
  | true =>
    go_enter Try.func5, Try.ntmps5
    try dsimp only [List.append]
    go_wp2_with fail
    rw [← HW.out]
    refine (HT.out _ Y.kp).mono ?_
    rintro e w1 ⟨rfl, k1⟩
    have Y1 := Y.still k1
    have i0 := Y1.i0
    have i1 := Y1.i1
    have i2 := Y1.i2
    have i3 := Y1.i3
    have i4 := Y1.i4
    have i5 := Y1.i5
    clear k1 Y HW W0
    go_wp2_with fail
    refine (HM.out _).mono ?_
    rintro e w2 ⟨rfl, k2⟩
    have Y2 := Y1.still k2
    clear k2 Y1 i0 i1 i2 i3 i4 i5 w1
    cases sm with
    | false =>
      go_wp2_with fail
      refine (manswers_any _).mono ?_
      rintro e w3 ⟨rfl, k3⟩
      go_wp2
      go_ret
      exact ⟨rfl, HE.out _ (Y2.kp.trans k3)⟩
    | true =>
      have HC' : Hid (0 ≤ co ∧ co ≤ 1152921504606846976) := by first | exact HC.out rfl rfl | exact HC.out trivial rfl | exact HC.out rfl trivial | exact HC.out trivial trivial
      clear HC
      have m0 := Y2.m0
      have m1 := Y2.m1
      have m2 := Y2.m2
      have m3 := Y2.m3
      go_wp2_with fail
      refine (four_any _ _ _ _ _).mono ?_
      rintro e w3 ⟨rfl, k3⟩
      have Y3 := Y2.still k3
      clear k3 Y2 m0 m1 m2 m3 w2
      obtain ⟨W4, HW4⟩ : ∃ W4, Hid (W4 = w3.alloc (.cells #[.int .i64 a, .int .i64 b, .int .i64 c, .int .i64 d] 37)) := ⟨_, rfl⟩
      have A4 : B4 W4 w3.heap.size 37 a b c d := by rw [HW4.out]; exact new4 (Kp.refl _)
      have Y4 := Y3.still (show Kp w3 W4 by rw [HW4.out]; exact (Kp.refl _).alloc _)
      go_wp2_with fail
      rw [← HW4.out]
      clear HW4
      have HG : Hid (w.heap.size + 2 < w3.heap.size) := Y3.sz
      clear Y3
      generalize w3.heap.size = ga at *
      clear w3
      go_loopw [8] (fun j wr => ∃ k : Nat, k ≤ 4 ∧ j = .int .i64 k ∧ Hid (∀ i, i < k → 0 ≤ nth a b c d i ∧ nth a b c d i ≤ 1152921504606846976) ∧ W4 = wr) (fun j _ => 4 - (intOf j).toNat)
      case atStart => exact ⟨0, Nat.zero_le _, rfl, fun j hj => by omega, rfl⟩
      case round =>
        obtain ⟨k, hk, rfl, HA4, rfl⟩ := hrel
        by_cases hlt : k < 4
        · have hlt' : (k : Int) < 4 := by omega
          have c4 := A4.at hlt
          by_cases r0 : nth a b c d k < 0
          · go_wp2_with fail
            refine (manswers_any _).mono ?_
            rintro e w5 ⟨rfl, k5⟩
            go_wp2
            go_ret
            exact ⟨rfl, HE.out _ (Y4.kp.trans k5)⟩
          · by_cases r1 : 1152921504606846976 < nth a b c d k
            · go_wp2_with fail
              refine (manswers_any _).mono ?_
              rintro e w5 ⟨rfl, k5⟩
              go_wp2
              go_ret
              exact ⟨rfl, HE.out _ (Y4.kp.trans k5)⟩
            · have HN : Hid (∀ i, i < k + 1 → 0 ≤ nth a b c d i ∧ nth a b c d i ≤ 1152921504606846976) := fun i hi => by
                by_cases hj' : i < k
                · exact HA4.out i hj'
                · obtain rfl : i = k := by omega
                  omega
              clear HA4
              go_wp2
              go_roundw
              case rel => exact ⟨k + 1, by omega, by go_num, HN, by first | rfl | trivial⟩
              case measure => simp [intOf]; omega
        · have hlt' : ¬ (k : Int) < 4 := by omega
          have HN : Hid (∀ i, i < 4 → 0 ≤ nth a b c d i ∧ nth a b c d i ≤ 1152921504606846976) := fun i hi => HA4.out i (by omega)
          clear HA4
          obtain rfl : k = 4 := by omega
          have p0 := Y4.p0
          have p1 := Y4.p1
          have p2 := Y4.p2
          have p3 := Y4.p3
          have p4 := Y4.p4
          have p5 := Y4.p5
          have p6 := Y4.p6
          have p7 := Y4.p7
          have p8 := Y4.p8
          have m0 := Y4.m0
          have m1 := Y4.m1
          have m2 := Y4.m2
          have m3 := Y4.m3
          have i0 := Y4.i0
          have i1 := Y4.i1
          have i2 := Y4.i2
          have i3 := Y4.i3
          have i4 := Y4.i4
          have i5 := Y4.i5
          go_wp2_with fail
          refine (HA.out _ Y4.kp).mono ?_
          rintro e w5 ⟨rfl, k5⟩
          have Y5 := Y4.still k5
          have A5 := A4.kept k5
          clear k5 p0 p1 p2 p3 p4 p5 p6 p7 p8 m0 m1 m2 m3 i0 i1 i2 i3 i4 i5 Y4 A4 HA HT HM
          have HB : Hid (∀ k, k < 4 → nth (bump kind co 0 a) (bump kind co 1 b) (bump kind co 2 c) (bump kind co 3 d) k = if place kind = k then nth a b c d k + co else nth a b c d k) := bump_nth HN.out HC'.out
          generalize bump kind co 0 a = a' at *
          generalize bump kind co 1 b = b' at *
          generalize bump kind co 2 c = c' at *
          generalize bump kind co 3 d = d' at *
          go_wp2_with fail
          refine (four_any _ _ _ _ _).mono ?_
          rintro e w6 ⟨rfl, k6⟩
          have Y6 := Y5.still k6
          have A6 := A5.kept k6
          clear k6 Y5 A5
          obtain ⟨W7, HW7⟩ : ∃ W7, Hid (W7 = w6.alloc (.cells #[.int .i64 a', .int .i64 b', .int .i64 c', .int .i64 d'] 37)) := ⟨_, rfl⟩
          have B7 : B4 W7 w6.heap.size 37 a' b' c' d' := by rw [HW7.out]; exact new4 (Kp.refl _)
          have k7 : Kp w6 W7 := by rw [HW7.out]; exact (Kp.refl _).alloc _
          have Y7 := Y6.still k7
          have A7 := A6.kept k7
          go_wp2_with fail
          rw [← HW7.out]
          clear HW7 k7 Y6 A6
          generalize w6.heap.size = gb at *
          go_loopw [10, 11, 12] (fun t y j wr => ∃ k : Nat, k ≤ 4 ∧ j = .int .i64 k ∧ t = .int .i64 (tn (place kind) co k) ∧ y = .int .i64 (bn (place kind) co k) ∧ Kp W7 wr) (fun _ _ j _ => 4 - (intOf j).toNat)
          case atStart => exact ⟨0, Nat.zero_le _, rfl, by rw [tn_zero], by rw [bn_zero], Kp.refl _⟩
          case round =>
            obtain ⟨k, hk, rfl, rfl, rfl, kr⟩ := hrel
            have Yr := Y7.still kr
            have Ar := A7.kept kr
            have Br := B7.kept kr
            by_cases hlt : k < 4
            · have hlt' : (k : Int) < 4 := by omega
              have hk0 : (0 : Int) ≤ (k : Int) := by omega
              have ca := Ar.at hlt
              have cb := Br.at hlt
              by_cases hp : place kind = k ∧ co ≠ 0
              · have hx : nth a' b' c' d' k = nth a b c d k + co := by rw [HB.out k hlt, if_pos hp.1]
                have hr := HN.out k hlt
                have hc := HC'.out
                obtain ⟨e1, e2, e3, e4⟩ := tb_at hp.1 hp.2
                have HNX : Hid (tn (place kind) co (k + 1) = 1 ∧ bn (place kind) co (k + 1) = co) := ⟨e3, e4⟩
                rw [e1, e2]
                generalize nth a' b' c' d' k = y at *
                generalize nth a b c d k = x at *
                have ne1 : ¬ x = y := by omega
                have ne2 : (x == y) = false := by simpa using ne1
                have wr1 : IntKind.i64.wrap (y - x) = co := by rw [wrap_i64, IntWalk.wrap64_in _ (by omega)]; omega
                clear hp e1 e2 e3 e4 hr hc
                have HX : Hid (y = x + co) := hx
                clear hx
                have la := Ar.lt
                have lb := Br.lt
                go_wp2_with fail
                go_quiet (fail)
                have kq := kp_drewN wr nq
                have ca2 := (kq.cell (p := ⟨ga, k, none⟩) la).trans ca
                have cb2 := (kq.cell (p := ⟨gb, k, none⟩) lb).trans cb
                generalize hwq : wr.drewN nq = wq at *
                clear hwq
                go_wp2_with fail
                go_quiet (fail)
                go_wp2
                go_roundw
                case rel => exact ⟨k + 1, by omega, by go_num, by rw [HNX.out.1], by rw [HNX.out.2], kr.trans (kq.trans (kp_drewN _ _))⟩
                case measure => simp [intOf]; omega
              · have hx : nth a' b' c' d' k = nth a b c d k := by
                  rw [HB.out k hlt]
                  split
                  · next q => have : co = 0 := by by_cases z : co = 0; exact z; exact absurd ⟨q, z⟩ hp
                              omega
                  · rfl
                have HNX : Hid (tn (place kind) co (k + 1) = tn (place kind) co k ∧ bn (place kind) co (k + 1) = bn (place kind) co k) := tb_still hp
                rw [hx] at cb
                clear hx hp
                generalize nth a b c d k = x at *
                generalize tn (place kind) co k = tk at *
                generalize bn (place kind) co k = yk at *
                go_wp2_with fail
                go_quiet (fail)
                go_wp2
                go_roundw
                case rel => exact ⟨k + 1, by omega, by go_num, by rw [HNX.out.1], by rw [HNX.out.2], kr.trans (kp_drewN _ _)⟩
                case measure => simp [intOf]; omega
            · have hlt' : ¬ (k : Int) < 4 := by omega
              obtain rfl : k = 4 := by omega
              clear Y7 A7 B7 kr HB HN
              rcases tb_end (kind := kind) HZ.out with ⟨hkk, hcc, e1, e2⟩ | ⟨hkk, rfl, e1, e2⟩ | ⟨hkk, rfl, e1, e2⟩
              · rw [e1, e2]
                obtain ⟨hk1, hk2⟩ := hkk
                obtain ⟨hc1, hc2⟩ := id HC'.out
                have dc : decide (0 ≤ co) = true := decide_eq_true hc1
                clear e1 e2 HZ hcc hc2
                have p0 := Yr.p0
                have p1 := Yr.p1
                have p2 := Yr.p2
                have p3 := Yr.p3
                have p4 := Yr.p4
                have p5 := Yr.p5
                have p6 := Yr.p6
                have p7 := Yr.p7
                have p8 := Yr.p8
                have m0 := Yr.m0
                have m1 := Yr.m1
                have m2 := Yr.m2
                have m3 := Yr.m3
                have i0 := Yr.i0
                have i1 := Yr.i1
                have i2 := Yr.i2
                have i3 := Yr.i3
                have i4 := Yr.i4
                have i5 := Yr.i5
                go_wp2_with fail
                refine (HO.out _ Yr.kp).mono ?_
                rintro e w8 ⟨rfl, k8⟩
                have Y8 := Yr.still k8
                have A8 := Ar.kept k8
                clear k8 p0 p1 p2 p3 p4 p5 p6 p7 p8 m0 m1 m2 m3 i0 i1 i2 i3 i4 i5 Yr Ar Br
                have n0 := Y8.m0
                have n1 := Y8.m1
                have n2 := Y8.m2
                have n3 := Y8.m3
                have t0 := A8.c0
                have t1 := A8.c1
                have t2 := A8.c2
                have t3 := A8.c3
                go_wp2_with fail
                have E4 := eq4 a b c d
                refine wp_region_noPanic ?_
                refine wp_region_held_drew (S := fun w' => w'.cell? ⟨w.heap.size + 1, 0, none⟩ = some (.int .i64 a) ∧ w'.cell? ⟨w.heap.size + 1, 1, none⟩ = some (.int .i64 b) ∧ w'.cell? ⟨w.heap.size + 1, 2, none⟩ = some (.int .i64 c) ∧ w'.cell? ⟨w.heap.size + 1, 3, none⟩ = some (.int .i64 d) ∧ w'.cell? ⟨ga, 0, none⟩ = some (.int .i64 a) ∧ w'.cell? ⟨ga, 1, none⟩ = some (.int .i64 b) ∧ w'.cell? ⟨ga, 2, none⟩ = some (.int .i64 c) ∧ w'.cell? ⟨ga, 3, none⟩ = some (.int .i64 d)) (by kernel_rfl) ?_ (fun hHeld => ?_)
                · (try dsimp only); go_keep
                refine wpAnyH_ready (rs := [0]) (by kernel_rfl) (by simp) ?_
                refine AllReadyH.cons (o := Oper.mk (some 77) _ _ _ _ _) rfl (fun K hK => ?_) AllReadyH.nil
                go_simp
                refine (manswers_any _).mono ?_
                rintro e w9 ⟨rfl, k9⟩
                have K9 := (kp_drew _).trans k9
                have Y9 := Y8.still K9
                have A9 := A8.kept K9
                clear k9
                have o0 := Y9.m0
                have o1 := Y9.m1
                have o2 := Y9.m2
                have o3 := Y9.m3
                have q0 := A9.c0
                have q1 := A9.c1
                have q2 := A9.c2
                have q3 := A9.c3
                go_wp2_with fail
                refine hK.out _ _ ?_ (fun hHeld => ?_)
                · (try dsimp only); go_keep
                clear hK K
                try simp only [Act.put, List.setIfInBounds_toArray, List.set_cons_zero, List.set_cons_succ]
                refine wpAnyH_take (i := 1) (oi := Oper.mk (some 78) _ _ _ _ _) (v := ?v1k0) rfl (by kernel_rfl) (by kernel_rfl) (by kernel_rfl) (fun _ _ _ h => h) (Or.inl ⟨by rfl, ?hy1k0⟩) (by assumption) ?rest1k0
                case hy1k0 => (intro w0 hSw; (try dsimp only at hSw); go_simp; try with_reducible rfl)
                try simp only [Act.put, List.setIfInBounds_toArray, List.set_cons_zero, List.set_cons_succ]
                refine wpAnyH_take (i := 2) (oi := Oper.mk (some 79) _ _ _ _ _) (v := ?v2k0) rfl (by kernel_rfl) (by kernel_rfl) (by kernel_rfl) (fun _ _ _ h => h) (Or.inl ⟨by rfl, ?hy2k0⟩) (by assumption) ?rest2k0
                case hy2k0 => (intro w0 hSw; (try dsimp only at hSw); go_simp; try with_reducible rfl)
                try simp only [Act.put, List.setIfInBounds_toArray, List.set_cons_zero, List.set_cons_succ]
                refine wpAnyH_take (i := 3) (oi := Oper.mk (some 80) _ _ _ _ _) (v := ?v3k0) rfl (by kernel_rfl) (by kernel_rfl) (by kernel_rfl) (fun _ _ _ h => h) (Or.inl ⟨by rfl, ?hy3k0⟩) (by assumption) ?rest3k0
                case hy3k0 => (intro w0 hSw; (try dsimp only at hSw); go_simp; try with_reducible rfl)
                try simp only [Act.put, List.setIfInBounds_toArray, List.set_cons_zero, List.set_cons_succ]
                refine wpAnyH_take (i := 4) (oi := Oper.mk (some 81) _ _ _ _ _) (v := ?v4k0) rfl (by kernel_rfl) (by kernel_rfl) (by kernel_rfl) (fun _ _ _ h => h) (Or.inl ⟨by rfl, ?hy4k0⟩) (by assumption) ?rest4k0
                case hy4k0 => (intro w0 hSw; (try dsimp only at hSw); go_simp; try with_reducible rfl)
                try simp only [Act.put, List.setIfInBounds_toArray, List.set_cons_zero, List.set_cons_succ]
                refine wpAnyH_take (i := 5) (oi := Oper.mk (some 82) _ _ _ _ _) (v := ?v5k0) rfl (by kernel_rfl) (by kernel_rfl) (by kernel_rfl) (fun _ _ _ h => h) (Or.inl ⟨by rfl, ?hy5k0⟩) (by assumption) ?rest5k0
                case hy5k0 => (intro w0 hSw; (try dsimp only at hSw); go_simp; try with_reducible rfl)
                try simp only [Act.put, List.setIfInBounds_toArray, List.set_cons_zero, List.set_cons_succ]
                refine wpAnyH_take (i := 6) (oi := Oper.mk (some 83) _ _ _ _ _) (v := ?v6k0) rfl (by kernel_rfl) (by kernel_rfl) (by kernel_rfl) (fun _ _ _ h => h) (Or.inl ⟨by rfl, ?hy6k0⟩) (by assumption) ?rest6k0
                case hy6k0 => (intro w0 hSw; (try dsimp only at hSw); go_simp; try with_reducible rfl)
                try simp only [Act.put, List.setIfInBounds_toArray, List.set_cons_zero, List.set_cons_succ]
                refine wpAnyH_take (i := 7) (oi := Oper.mk (some 84) _ _ _ _ _) (v := ?v7k0) rfl (by kernel_rfl) (by kernel_rfl) (by kernel_rfl) (fun _ _ _ h => h) (Or.inl ⟨by rfl, ?hy7k0⟩) (by assumption) ?rest7k0
                case hy7k0 => (intro w0 hSw; (try dsimp only at hSw); go_simp; try with_reducible rfl)
                try simp only [Act.put, List.setIfInBounds_toArray, List.set_cons_zero, List.set_cons_succ]
                refine wpAnyH_take (i := 8) (oi := Oper.mk (some 85) _ _ _ _ _) (v := ?v8k0) rfl (by kernel_rfl) (by kernel_rfl) (by kernel_rfl) (fun _ _ _ h => h) (Or.inl ⟨by rfl, ?hy8k0⟩) (by assumption) ?rest8k0
                case hy8k0 => (intro w0 hSw; (try dsimp only at hSw); go_simp; try with_reducible rfl)
                try simp only [Act.put, List.setIfInBounds_toArray, List.set_cons_zero, List.set_cons_succ]
                refine wpAnyH_take (i := 9) (oi := Oper.mk (some 86) _ _ _ _ _) (v := ?v9k0) rfl (by kernel_rfl) (by kernel_rfl) (by kernel_rfl) (fun _ _ _ h => h) (Or.inl ⟨by rfl, ?hy9k0⟩) (by assumption) ?rest9k0
                case hy9k0 => (intro w0 hSw; (try dsimp only at hSw); go_simp; try with_reducible rfl)
                try simp only [Act.put, List.setIfInBounds_toArray, List.set_cons_zero, List.set_cons_succ]
                refine wpAnyH_take (i := 10) (oi := Oper.mk (some 87) _ _ _ _ _) (v := ?v10k0) rfl (by kernel_rfl) (by kernel_rfl) (by kernel_rfl) (fun _ _ _ h => h) (Or.inl ⟨by rfl, ?hy10k0⟩) (by assumption) ?rest10k0
                case hy10k0 => (intro w0 hSw; (try dsimp only at hSw); go_simp; try with_reducible rfl)
                try simp only [Act.put, List.setIfInBounds_toArray, List.set_cons_zero, List.set_cons_succ]
                refine wpAnyH_take (i := 11) (oi := Oper.mk (some 88) _ _ _ _ _) (v := ?v11k0) rfl (by kernel_rfl) (by kernel_rfl) (by kernel_rfl) (fun _ _ _ h => h) (Or.inl ⟨by rfl, ?hy11k0⟩) (by assumption) ?rest11k0
                case hy11k0 => (intro w0 hSw; (try dsimp only at hSw); go_simp; try with_reducible rfl)
                try simp only [Act.put, List.setIfInBounds_toArray, List.set_cons_zero, List.set_cons_succ]
                refine wpAnyH_take (i := 12) (oi := Oper.mk (some 89) _ _ _ _ _) (v := ?v12k0) rfl (by kernel_rfl) (by kernel_rfl) (by kernel_rfl) (fun _ _ _ h => h) (Or.inl ⟨by rfl, ?hy12k0⟩) (by assumption) ?rest12k0
                case hy12k0 => (intro w0 hSw; (try dsimp only at hSw); go_simp; try with_reducible rfl)
                try simp only [Act.put, List.setIfInBounds_toArray, List.set_cons_zero, List.set_cons_succ]
                refine wpAnyH_take (i := 13) (oi := Oper.mk (some 90) _ _ _ _ _) (v := ?v13k0) rfl (by kernel_rfl) (by kernel_rfl) (by kernel_rfl) (fun _ _ _ h => h) (Or.inl ⟨by rfl, ?hy13k0⟩) (by assumption) ?rest13k0
                case hy13k0 => (intro w0 hSw; (try dsimp only at hSw); go_simp; try with_reducible rfl)
                try simp only [Act.put, List.setIfInBounds_toArray, List.set_cons_zero, List.set_cons_succ]
                refine wpAnyH_take (i := 14) (oi := Oper.mk (some 91) _ _ _ _ _) (v := ?v14k0) rfl (by kernel_rfl) (by kernel_rfl) (by kernel_rfl) (fun _ _ _ h => h) (Or.inl ⟨by rfl, ?hy14k0⟩) (by assumption) ?rest14k0
                case hy14k0 => (intro w0 hSw; (try dsimp only at hSw); go_simp; try with_reducible rfl)
                try simp only [Act.put, List.setIfInBounds_toArray, List.set_cons_zero, List.set_cons_succ]
                refine wpAnyH_take (i := 15) (oi := Oper.mk (some 92) _ _ _ _ _) (v := ?v15k0) rfl (by kernel_rfl) (by kernel_rfl) (by kernel_rfl) (fun _ _ _ h => h) (Or.inl ⟨by rfl, ?hy15k0⟩) (by assumption) ?rest15k0
                case hy15k0 => (intro w0 hSw; (try dsimp only at hSw); go_simp; try with_reducible rfl)
                try simp only [Act.put, List.setIfInBounds_toArray, List.set_cons_zero, List.set_cons_succ]
                refine wpAnyH_take (i := 16) (oi := Oper.mk (some 93) _ _ _ _ _) (v := ?v16k0) rfl (by kernel_rfl) (by kernel_rfl) (by kernel_rfl) (fun _ _ _ h => h) (Or.inl ⟨by rfl, ?hy16k0⟩) (by assumption) ?rest16k0
                case hy16k0 => (intro w0 hSw; (try dsimp only at hSw); go_simp; try with_reducible rfl)
                try simp only [Act.put, List.setIfInBounds_toArray, List.set_cons_zero, List.set_cons_succ]
                refine wpAnyH_take (i := 17) (oi := Oper.mk (some 94) _ _ _ _ _) (v := undef) rfl (by kernel_rfl) (by kernel_rfl) (by kernel_rfl) (fun _ _ _ h => h) (Or.inr ⟨by rfl, rfl⟩) (by assumption) ?_
                try simp only [Act.put, List.setIfInBounds_toArray, List.set_cons_zero, List.set_cons_succ]
                refine wpAnyH_take (i := 18) (oi := Oper.mk (some 95) _ _ _ _ _) (v := undef) rfl (by kernel_rfl) (by kernel_rfl) (by kernel_rfl) (fun _ _ _ h => h) (Or.inr ⟨by rfl, rfl⟩) (by assumption) ?_
                try simp only [Act.put, List.setIfInBounds_toArray, List.set_cons_zero, List.set_cons_succ]
                refine wpAnyH_take (i := 19) (oi := Oper.mk (some 96) _ _ _ _ _) (v := undef) rfl (by kernel_rfl) (by kernel_rfl) (by kernel_rfl) (fun _ _ _ h => h) (Or.inr ⟨by rfl, rfl⟩) (by assumption) ?_
                try simp only [Act.put, List.setIfInBounds_toArray, List.set_cons_zero, List.set_cons_succ]
                refine wpAnyH_take (i := 20) (oi := Oper.mk (some 97) _ _ _ _ _) (v := undef) rfl (by kernel_rfl) (by kernel_rfl) (by kernel_rfl) (fun _ _ _ h => h) (Or.inr ⟨by rfl, rfl⟩) (by assumption) ?_
                try simp only [Act.put, List.setIfInBounds_toArray, List.set_cons_zero, List.set_cons_succ]
                refine wpAnyH_take (i := 21) (oi := Oper.mk (some 98) _ _ _ _ _) (v := undef) rfl (by kernel_rfl) (by kernel_rfl) (by kernel_rfl) (fun _ _ _ h => h) (Or.inr ⟨by rfl, rfl⟩) (by assumption) ?_
                try simp only [Act.put, List.setIfInBounds_toArray, List.set_cons_zero, List.set_cons_succ]
                refine wpAnyH_take (i := 22) (oi := Oper.mk (some 99) _ _ _ _ _) (v := undef) rfl (by kernel_rfl) (by kernel_rfl) (by kernel_rfl) (fun _ _ _ h => h) (Or.inr ⟨by rfl, rfl⟩) (by assumption) ?_
                try simp only [Act.put, List.setIfInBounds_toArray, List.set_cons_zero, List.set_cons_succ]
                refine wpAnyH_take (i := 23) (oi := Oper.mk (some 100) _ _ _ _ _) (v := undef) rfl (by kernel_rfl) (by kernel_rfl) (by kernel_rfl) (fun _ _ _ h => h) (Or.inr ⟨by rfl, rfl⟩) (by assumption) ?_
                try simp only [Act.put, List.setIfInBounds_toArray, List.set_cons_zero, List.set_cons_succ]
                refine wpAnyH_take (i := 24) (oi := Oper.mk (some 101) _ _ _ _ _) (v := undef) rfl (by kernel_rfl) (by kernel_rfl) (by kernel_rfl) (fun _ _ _ h => h) (Or.inr ⟨by rfl, rfl⟩) (by assumption) ?_
                try simp only [Act.put, List.setIfInBounds_toArray, List.set_cons_zero, List.set_cons_succ]
                refine wpAnyH_take (i := 25) (oi := Oper.mk (some 102) _ _ _ _ _) (v := undef) rfl (by kernel_rfl) (by kernel_rfl) (by kernel_rfl) (fun _ _ _ h => h) (Or.inr ⟨by rfl, rfl⟩) (by assumption) ?_
                try simp only [Act.put, List.setIfInBounds_toArray, List.set_cons_zero, List.set_cons_succ]
                refine wpAnyH_take (i := 26) (oi := Oper.mk (some 103) _ _ _ _ _) (v := undef) rfl (by kernel_rfl) (by kernel_rfl) (by kernel_rfl) (fun _ _ _ h => h) (Or.inr ⟨by rfl, rfl⟩) (by assumption) ?_
                try simp only [Act.put, List.setIfInBounds_toArray, List.set_cons_zero, List.set_cons_succ]
                refine wpAnyH_take (i := 27) (oi := Oper.mk (some 104) _ _ _ _ _) (v := ?v27k0) rfl (by kernel_rfl) (by kernel_rfl) (by kernel_rfl) (fun _ _ _ h => h) (Or.inl ⟨by rfl, ?hy27k0⟩) (by assumption) ?rest27k0
                case hy27k0 => (intro w0 hSw; (try dsimp only at hSw); go_simp; try with_reducible rfl)
                try simp only [Act.put, List.setIfInBounds_toArray, List.set_cons_zero, List.set_cons_succ]
                refine wpAnyH_take (i := 28) (oi := Oper.mk (some 105) _ _ _ _ _) (v := ?v28k0) rfl (by kernel_rfl) (by kernel_rfl) (by kernel_rfl) (fun _ _ _ h => h) (Or.inl ⟨by rfl, ?hy28k0⟩) (by assumption) ?rest28k0
                case hy28k0 => (intro w0 hSw; (try dsimp only at hSw); go_simp; try with_reducible rfl)
                try simp only [Act.put, List.setIfInBounds_toArray, List.set_cons_zero, List.set_cons_succ]
                refine wpAnyH_take (i := 29) (oi := Oper.mk (some 106) _ _ _ _ _) (v := ?v29k0) rfl (by kernel_rfl) (by kernel_rfl) (by kernel_rfl) (fun _ _ _ h => h) (Or.inl ⟨by rfl, ?hy29k0⟩) (by assumption) ?rest29k0
                case hy29k0 => (intro w0 hSw; (try dsimp only at hSw); go_simp; try with_reducible rfl)
                try simp only [Act.put, List.setIfInBounds_toArray, List.set_cons_zero, List.set_cons_succ]
                refine wpAnyH_take (i := 30) (oi := Oper.mk (some 107) _ _ _ _ _) (v := ?v30k0) rfl (by kernel_rfl) (by kernel_rfl) (by kernel_rfl) (fun _ _ _ h => h) (Or.inl ⟨by rfl, ?hy30k0⟩) (by assumption) ?rest30k0
                case hy30k0 => (intro w0 hSw; (try dsimp only at hSw); go_simp; try with_reducible rfl)
                try simp only [Act.put, List.setIfInBounds_toArray, List.set_cons_zero, List.set_cons_succ]
                refine wpAnyH_take (i := 32) (oi := Oper.mk (some 109) _ _ _ _ _) (v := ?v32k0) rfl (by kernel_rfl) (by kernel_rfl) (by kernel_rfl) (fun _ _ _ h => h) (Or.inl ⟨by rfl, ?hy32k0⟩) (by assumption) ?rest32k0
                case hy32k0 => (intro w0 hSw; (try dsimp only at hSw); go_simp; try with_reducible rfl)
                try simp only [Act.put, List.setIfInBounds_toArray, List.set_cons_zero, List.set_cons_succ]
                refine wpAnyH_ready (rs := [31]) (by kernel_rfl) (by simp) ?_
                refine AllReadyH.cons (o := Oper.mk (some 108) _ _ _ _ _) rfl (fun K hK => ?_) AllReadyH.nil
                go_simp
                refine (four_any _ _ _ _ _).mono ?_
                rintro e w10 ⟨rfl, k10⟩
                have Y10 := Y9.still k10
                have A10 := A9.kept k10
                clear k10
                have r0 := Y10.m0
                have r1 := Y10.m1
                have r2 := Y10.m2
                have r3 := Y10.m3
                have s0 := A10.c0
                have s1 := A10.c1
                have s2 := A10.c2
                have s3 := A10.c3
                go_wp2_with fail
                refine hK.out _ _ ?_ (fun hHeld => ?_)
                · (try dsimp only); go_keep
                clear hK K
                try simp only [Act.put, List.setIfInBounds_toArray, List.set_cons_zero, List.set_cons_succ]
                refine wpAnyH_take (i := 33) (oi := Oper.mk (some 110) _ _ _ _ _) (v := ?v33k0) rfl (by kernel_rfl) (by kernel_rfl) (by kernel_rfl) (fun _ _ _ h => h) (Or.inl ⟨by rfl, ?hy33k0⟩) (by assumption) ?rest33k0
                case hy33k0 => (intro w0 hSw; (try dsimp only at hSw); go_simp; try with_reducible rfl)
                try simp only [Act.put, List.setIfInBounds_toArray, List.set_cons_zero, List.set_cons_succ]
                refine wpAnyH_take (i := 34) (oi := Oper.mk (some 111) _ _ _ _ _) (v := ?v34k0) rfl (by kernel_rfl) (by kernel_rfl) (by kernel_rfl) (fun _ _ _ h => h) (Or.inl ⟨by rfl, ?hy34k0⟩) (by assumption) ?rest34k0
                case hy34k0 => (intro w0 hSw; (try dsimp only at hSw); go_simp; try with_reducible rfl)
                try simp only [Act.put, List.setIfInBounds_toArray, List.set_cons_zero, List.set_cons_succ]
                refine wpAnyH_take (i := 35) (oi := Oper.mk (some 6) _ _ _ _ _) (v := ?v35k0) rfl (by kernel_rfl) (by kernel_rfl) (by kernel_rfl) (fun _ _ _ h => h) (Or.inl ⟨by rfl, ?hy35k0⟩) (by assumption) ?rest35k0
                case hy35k0 => (intro w0 hSw; (try dsimp only at hSw); go_simp; try with_reducible rfl)
                try simp only [Act.put, List.setIfInBounds_toArray, List.set_cons_zero, List.set_cons_succ]
                refine wpAnyH_done (by kernel_rfl) ?_ _
                refine NoPanic.normal ?_
                go_wp2
                go_ret
                exact ⟨rfl, HE.out _ Y10.kp⟩
              · rw [e1, e2]
                obtain ⟨hk1, hk2⟩ := hkk
                clear e1 e2 HZ HC'
                have p0 := Yr.p0
                have p1 := Yr.p1
                have p2 := Yr.p2
                have p3 := Yr.p3
                have p4 := Yr.p4
                have p5 := Yr.p5
                have p6 := Yr.p6
                have p7 := Yr.p7
                have p8 := Yr.p8
                have m0 := Yr.m0
                have m1 := Yr.m1
                have m2 := Yr.m2
                have m3 := Yr.m3
                have i0 := Yr.i0
                have i1 := Yr.i1
                have i2 := Yr.i2
                have i3 := Yr.i3
                have i4 := Yr.i4
                have i5 := Yr.i5
                go_wp2_with fail
                refine (HO.out _ Yr.kp).mono ?_
                rintro e w8 ⟨rfl, k8⟩
                have Y8 := Yr.still k8
                have A8 := Ar.kept k8
                clear k8 p0 p1 p2 p3 p4 p5 p6 p7 p8 m0 m1 m2 m3 i0 i1 i2 i3 i4 i5 Yr Ar Br
                have n0 := Y8.m0
                have n1 := Y8.m1
                have n2 := Y8.m2
                have n3 := Y8.m3
                have t0 := A8.c0
                have t1 := A8.c1
                have t2 := A8.c2
                have t3 := A8.c3
                go_wp2_with fail
                have E4 := eq4 a b c d
                refine wp_region_noPanic ?_
                refine wp_region_held_drew (S := fun w' => w'.cell? ⟨w.heap.size + 1, 0, none⟩ = some (.int .i64 a) ∧ w'.cell? ⟨w.heap.size + 1, 1, none⟩ = some (.int .i64 b) ∧ w'.cell? ⟨w.heap.size + 1, 2, none⟩ = some (.int .i64 c) ∧ w'.cell? ⟨w.heap.size + 1, 3, none⟩ = some (.int .i64 d) ∧ w'.cell? ⟨ga, 0, none⟩ = some (.int .i64 a) ∧ w'.cell? ⟨ga, 1, none⟩ = some (.int .i64 b) ∧ w'.cell? ⟨ga, 2, none⟩ = some (.int .i64 c) ∧ w'.cell? ⟨ga, 3, none⟩ = some (.int .i64 d)) (by kernel_rfl) ?_ (fun hHeld => ?_)
                · (try dsimp only); go_keep
                refine wpAnyH_ready (rs := [0]) (by kernel_rfl) (by simp) ?_
                refine AllReadyH.cons (o := Oper.mk (some 77) _ _ _ _ _) rfl (fun K hK => ?_) AllReadyH.nil
                go_simp
                refine (manswers_any _).mono ?_
                rintro e w9 ⟨rfl, k9⟩
                have K9 := (kp_drew _).trans k9
                have Y9 := Y8.still K9
                have A9 := A8.kept K9
                clear k9
                have o0 := Y9.m0
                have o1 := Y9.m1
                have o2 := Y9.m2
                have o3 := Y9.m3
                have q0 := A9.c0
                have q1 := A9.c1
                have q2 := A9.c2
                have q3 := A9.c3
                go_wp2_with fail
                refine hK.out _ _ ?_ (fun hHeld => ?_)
                · (try dsimp only); go_keep
                clear hK K
                try simp only [Act.put, List.setIfInBounds_toArray, List.set_cons_zero, List.set_cons_succ]
                refine wpAnyH_take (i := 1) (oi := Oper.mk (some 78) _ _ _ _ _) (v := ?v1k1) rfl (by kernel_rfl) (by kernel_rfl) (by kernel_rfl) (fun _ _ _ h => h) (Or.inl ⟨by rfl, ?hy1k1⟩) (by assumption) ?rest1k1
                case hy1k1 => (intro w0 hSw; (try dsimp only at hSw); go_simp; try with_reducible rfl)
                try simp only [Act.put, List.setIfInBounds_toArray, List.set_cons_zero, List.set_cons_succ]
                refine wpAnyH_take (i := 2) (oi := Oper.mk (some 79) _ _ _ _ _) (v := ?v2k1) rfl (by kernel_rfl) (by kernel_rfl) (by kernel_rfl) (fun _ _ _ h => h) (Or.inl ⟨by rfl, ?hy2k1⟩) (by assumption) ?rest2k1
                case hy2k1 => (intro w0 hSw; (try dsimp only at hSw); go_simp; try with_reducible rfl)
                try simp only [Act.put, List.setIfInBounds_toArray, List.set_cons_zero, List.set_cons_succ]
                refine wpAnyH_take (i := 3) (oi := Oper.mk (some 80) _ _ _ _ _) (v := ?v3k1) rfl (by kernel_rfl) (by kernel_rfl) (by kernel_rfl) (fun _ _ _ h => h) (Or.inl ⟨by rfl, ?hy3k1⟩) (by assumption) ?rest3k1
                case hy3k1 => (intro w0 hSw; (try dsimp only at hSw); go_simp; try with_reducible rfl)
                try simp only [Act.put, List.setIfInBounds_toArray, List.set_cons_zero, List.set_cons_succ]
                refine wpAnyH_take (i := 4) (oi := Oper.mk (some 81) _ _ _ _ _) (v := ?v4k1) rfl (by kernel_rfl) (by kernel_rfl) (by kernel_rfl) (fun _ _ _ h => h) (Or.inl ⟨by rfl, ?hy4k1⟩) (by assumption) ?rest4k1
                case hy4k1 => (intro w0 hSw; (try dsimp only at hSw); go_simp; try with_reducible rfl)
                try simp only [Act.put, List.setIfInBounds_toArray, List.set_cons_zero, List.set_cons_succ]
                refine wpAnyH_take (i := 5) (oi := Oper.mk (some 82) _ _ _ _ _) (v := ?v5k1) rfl (by kernel_rfl) (by kernel_rfl) (by kernel_rfl) (fun _ _ _ h => h) (Or.inl ⟨by rfl, ?hy5k1⟩) (by assumption) ?rest5k1
                case hy5k1 => (intro w0 hSw; (try dsimp only at hSw); go_simp; try with_reducible rfl)
                try simp only [Act.put, List.setIfInBounds_toArray, List.set_cons_zero, List.set_cons_succ]
                refine wpAnyH_take (i := 6) (oi := Oper.mk (some 83) _ _ _ _ _) (v := ?v6k1) rfl (by kernel_rfl) (by kernel_rfl) (by kernel_rfl) (fun _ _ _ h => h) (Or.inl ⟨by rfl, ?hy6k1⟩) (by assumption) ?rest6k1
                case hy6k1 => (intro w0 hSw; (try dsimp only at hSw); go_simp; try with_reducible rfl)
                try simp only [Act.put, List.setIfInBounds_toArray, List.set_cons_zero, List.set_cons_succ]
                refine wpAnyH_take (i := 7) (oi := Oper.mk (some 84) _ _ _ _ _) (v := ?v7k1) rfl (by kernel_rfl) (by kernel_rfl) (by kernel_rfl) (fun _ _ _ h => h) (Or.inl ⟨by rfl, ?hy7k1⟩) (by assumption) ?rest7k1
                case hy7k1 => (intro w0 hSw; (try dsimp only at hSw); go_simp; try with_reducible rfl)
                try simp only [Act.put, List.setIfInBounds_toArray, List.set_cons_zero, List.set_cons_succ]
                refine wpAnyH_take (i := 8) (oi := Oper.mk (some 85) _ _ _ _ _) (v := ?v8k1) rfl (by kernel_rfl) (by kernel_rfl) (by kernel_rfl) (fun _ _ _ h => h) (Or.inl ⟨by rfl, ?hy8k1⟩) (by assumption) ?rest8k1
                case hy8k1 => (intro w0 hSw; (try dsimp only at hSw); go_simp; try with_reducible rfl)
                try simp only [Act.put, List.setIfInBounds_toArray, List.set_cons_zero, List.set_cons_succ]
                refine wpAnyH_take (i := 9) (oi := Oper.mk (some 86) _ _ _ _ _) (v := ?v9k1) rfl (by kernel_rfl) (by kernel_rfl) (by kernel_rfl) (fun _ _ _ h => h) (Or.inl ⟨by rfl, ?hy9k1⟩) (by assumption) ?rest9k1
                case hy9k1 => (intro w0 hSw; (try dsimp only at hSw); go_simp; try with_reducible rfl)
                try simp only [Act.put, List.setIfInBounds_toArray, List.set_cons_zero, List.set_cons_succ]
                refine wpAnyH_take (i := 10) (oi := Oper.mk (some 87) _ _ _ _ _) (v := ?v10k1) rfl (by kernel_rfl) (by kernel_rfl) (by kernel_rfl) (fun _ _ _ h => h) (Or.inl ⟨by rfl, ?hy10k1⟩) (by assumption) ?rest10k1
                case hy10k1 => (intro w0 hSw; (try dsimp only at hSw); go_simp; try with_reducible rfl)
                try simp only [Act.put, List.setIfInBounds_toArray, List.set_cons_zero, List.set_cons_succ]
                refine wpAnyH_take (i := 11) (oi := Oper.mk (some 88) _ _ _ _ _) (v := ?v11k1) rfl (by kernel_rfl) (by kernel_rfl) (by kernel_rfl) (fun _ _ _ h => h) (Or.inl ⟨by rfl, ?hy11k1⟩) (by assumption) ?rest11k1
                case hy11k1 => (intro w0 hSw; (try dsimp only at hSw); go_simp; try with_reducible rfl)
                try simp only [Act.put, List.setIfInBounds_toArray, List.set_cons_zero, List.set_cons_succ]
                refine wpAnyH_take (i := 12) (oi := Oper.mk (some 89) _ _ _ _ _) (v := ?v12k1) rfl (by kernel_rfl) (by kernel_rfl) (by kernel_rfl) (fun _ _ _ h => h) (Or.inl ⟨by rfl, ?hy12k1⟩) (by assumption) ?rest12k1
                case hy12k1 => (intro w0 hSw; (try dsimp only at hSw); go_simp; try with_reducible rfl)
                try simp only [Act.put, List.setIfInBounds_toArray, List.set_cons_zero, List.set_cons_succ]
                refine wpAnyH_take (i := 13) (oi := Oper.mk (some 90) _ _ _ _ _) (v := ?v13k1) rfl (by kernel_rfl) (by kernel_rfl) (by kernel_rfl) (fun _ _ _ h => h) (Or.inl ⟨by rfl, ?hy13k1⟩) (by assumption) ?rest13k1
                case hy13k1 => (intro w0 hSw; (try dsimp only at hSw); go_simp; try with_reducible rfl)
                try simp only [Act.put, List.setIfInBounds_toArray, List.set_cons_zero, List.set_cons_succ]
                refine wpAnyH_take (i := 14) (oi := Oper.mk (some 91) _ _ _ _ _) (v := ?v14k1) rfl (by kernel_rfl) (by kernel_rfl) (by kernel_rfl) (fun _ _ _ h => h) (Or.inl ⟨by rfl, ?hy14k1⟩) (by assumption) ?rest14k1
                case hy14k1 => (intro w0 hSw; (try dsimp only at hSw); go_simp; try with_reducible rfl)
                try simp only [Act.put, List.setIfInBounds_toArray, List.set_cons_zero, List.set_cons_succ]
                refine wpAnyH_take (i := 15) (oi := Oper.mk (some 92) _ _ _ _ _) (v := ?v15k1) rfl (by kernel_rfl) (by kernel_rfl) (by kernel_rfl) (fun _ _ _ h => h) (Or.inl ⟨by rfl, ?hy15k1⟩) (by assumption) ?rest15k1
                case hy15k1 => (intro w0 hSw; (try dsimp only at hSw); go_simp; try with_reducible rfl)
                try simp only [Act.put, List.setIfInBounds_toArray, List.set_cons_zero, List.set_cons_succ]
                refine wpAnyH_take (i := 16) (oi := Oper.mk (some 93) _ _ _ _ _) (v := ?v16k1) rfl (by kernel_rfl) (by kernel_rfl) (by kernel_rfl) (fun _ _ _ h => h) (Or.inl ⟨by rfl, ?hy16k1⟩) (by assumption) ?rest16k1
                case hy16k1 => (intro w0 hSw; (try dsimp only at hSw); go_simp; try with_reducible rfl)
                try simp only [Act.put, List.setIfInBounds_toArray, List.set_cons_zero, List.set_cons_succ]
                refine wpAnyH_take (i := 17) (oi := Oper.mk (some 94) _ _ _ _ _) (v := undef) rfl (by kernel_rfl) (by kernel_rfl) (by kernel_rfl) (fun _ _ _ h => h) (Or.inr ⟨by rfl, rfl⟩) (by assumption) ?_
                try simp only [Act.put, List.setIfInBounds_toArray, List.set_cons_zero, List.set_cons_succ]
                refine wpAnyH_take (i := 18) (oi := Oper.mk (some 95) _ _ _ _ _) (v := undef) rfl (by kernel_rfl) (by kernel_rfl) (by kernel_rfl) (fun _ _ _ h => h) (Or.inr ⟨by rfl, rfl⟩) (by assumption) ?_
                try simp only [Act.put, List.setIfInBounds_toArray, List.set_cons_zero, List.set_cons_succ]
                refine wpAnyH_take (i := 19) (oi := Oper.mk (some 96) _ _ _ _ _) (v := undef) rfl (by kernel_rfl) (by kernel_rfl) (by kernel_rfl) (fun _ _ _ h => h) (Or.inr ⟨by rfl, rfl⟩) (by assumption) ?_
                try simp only [Act.put, List.setIfInBounds_toArray, List.set_cons_zero, List.set_cons_succ]
                refine wpAnyH_take (i := 20) (oi := Oper.mk (some 97) _ _ _ _ _) (v := undef) rfl (by kernel_rfl) (by kernel_rfl) (by kernel_rfl) (fun _ _ _ h => h) (Or.inr ⟨by rfl, rfl⟩) (by assumption) ?_
                try simp only [Act.put, List.setIfInBounds_toArray, List.set_cons_zero, List.set_cons_succ]
                refine wpAnyH_take (i := 21) (oi := Oper.mk (some 98) _ _ _ _ _) (v := undef) rfl (by kernel_rfl) (by kernel_rfl) (by kernel_rfl) (fun _ _ _ h => h) (Or.inr ⟨by rfl, rfl⟩) (by assumption) ?_
                try simp only [Act.put, List.setIfInBounds_toArray, List.set_cons_zero, List.set_cons_succ]
                refine wpAnyH_take (i := 22) (oi := Oper.mk (some 99) _ _ _ _ _) (v := undef) rfl (by kernel_rfl) (by kernel_rfl) (by kernel_rfl) (fun _ _ _ h => h) (Or.inr ⟨by rfl, rfl⟩) (by assumption) ?_
                try simp only [Act.put, List.setIfInBounds_toArray, List.set_cons_zero, List.set_cons_succ]
                refine wpAnyH_take (i := 23) (oi := Oper.mk (some 100) _ _ _ _ _) (v := undef) rfl (by kernel_rfl) (by kernel_rfl) (by kernel_rfl) (fun _ _ _ h => h) (Or.inr ⟨by rfl, rfl⟩) (by assumption) ?_
                try simp only [Act.put, List.setIfInBounds_toArray, List.set_cons_zero, List.set_cons_succ]
                refine wpAnyH_take (i := 24) (oi := Oper.mk (some 101) _ _ _ _ _) (v := undef) rfl (by kernel_rfl) (by kernel_rfl) (by kernel_rfl) (fun _ _ _ h => h) (Or.inr ⟨by rfl, rfl⟩) (by assumption) ?_
                try simp only [Act.put, List.setIfInBounds_toArray, List.set_cons_zero, List.set_cons_succ]
                refine wpAnyH_take (i := 25) (oi := Oper.mk (some 102) _ _ _ _ _) (v := undef) rfl (by kernel_rfl) (by kernel_rfl) (by kernel_rfl) (fun _ _ _ h => h) (Or.inr ⟨by rfl, rfl⟩) (by assumption) ?_
                try simp only [Act.put, List.setIfInBounds_toArray, List.set_cons_zero, List.set_cons_succ]
                refine wpAnyH_take (i := 26) (oi := Oper.mk (some 103) _ _ _ _ _) (v := undef) rfl (by kernel_rfl) (by kernel_rfl) (by kernel_rfl) (fun _ _ _ h => h) (Or.inr ⟨by rfl, rfl⟩) (by assumption) ?_
                try simp only [Act.put, List.setIfInBounds_toArray, List.set_cons_zero, List.set_cons_succ]
                refine wpAnyH_take (i := 27) (oi := Oper.mk (some 104) _ _ _ _ _) (v := ?v27k1) rfl (by kernel_rfl) (by kernel_rfl) (by kernel_rfl) (fun _ _ _ h => h) (Or.inl ⟨by rfl, ?hy27k1⟩) (by assumption) ?rest27k1
                case hy27k1 => (intro w0 hSw; (try dsimp only at hSw); go_simp; try with_reducible rfl)
                try simp only [Act.put, List.setIfInBounds_toArray, List.set_cons_zero, List.set_cons_succ]
                refine wpAnyH_take (i := 28) (oi := Oper.mk (some 105) _ _ _ _ _) (v := ?v28k1) rfl (by kernel_rfl) (by kernel_rfl) (by kernel_rfl) (fun _ _ _ h => h) (Or.inl ⟨by rfl, ?hy28k1⟩) (by assumption) ?rest28k1
                case hy28k1 => (intro w0 hSw; (try dsimp only at hSw); go_simp; try with_reducible rfl)
                try simp only [Act.put, List.setIfInBounds_toArray, List.set_cons_zero, List.set_cons_succ]
                refine wpAnyH_take (i := 29) (oi := Oper.mk (some 106) _ _ _ _ _) (v := ?v29k1) rfl (by kernel_rfl) (by kernel_rfl) (by kernel_rfl) (fun _ _ _ h => h) (Or.inl ⟨by rfl, ?hy29k1⟩) (by assumption) ?rest29k1
                case hy29k1 => (intro w0 hSw; (try dsimp only at hSw); go_simp; try with_reducible rfl)
                try simp only [Act.put, List.setIfInBounds_toArray, List.set_cons_zero, List.set_cons_succ]
                refine wpAnyH_take (i := 30) (oi := Oper.mk (some 107) _ _ _ _ _) (v := ?v30k1) rfl (by kernel_rfl) (by kernel_rfl) (by kernel_rfl) (fun _ _ _ h => h) (Or.inl ⟨by rfl, ?hy30k1⟩) (by assumption) ?rest30k1
                case hy30k1 => (intro w0 hSw; (try dsimp only at hSw); go_simp; try with_reducible rfl)
                try simp only [Act.put, List.setIfInBounds_toArray, List.set_cons_zero, List.set_cons_succ]
                refine wpAnyH_take (i := 32) (oi := Oper.mk (some 109) _ _ _ _ _) (v := ?v32k1) rfl (by kernel_rfl) (by kernel_rfl) (by kernel_rfl) (fun _ _ _ h => h) (Or.inl ⟨by rfl, ?hy32k1⟩) (by assumption) ?rest32k1
                case hy32k1 => (intro w0 hSw; (try dsimp only at hSw); go_simp; try with_reducible rfl)
                try simp only [Act.put, List.setIfInBounds_toArray, List.set_cons_zero, List.set_cons_succ]
                refine wpAnyH_ready (rs := [31]) (by kernel_rfl) (by simp) ?_
                refine AllReadyH.cons (o := Oper.mk (some 108) _ _ _ _ _) rfl (fun K hK => ?_) AllReadyH.nil
                go_simp
                refine (four_any _ _ _ _ _).mono ?_
                rintro e w10 ⟨rfl, k10⟩
                have Y10 := Y9.still k10
                have A10 := A9.kept k10
                clear k10
                have r0 := Y10.m0
                have r1 := Y10.m1
                have r2 := Y10.m2
                have r3 := Y10.m3
                have s0 := A10.c0
                have s1 := A10.c1
                have s2 := A10.c2
                have s3 := A10.c3
                go_wp2_with fail
                refine hK.out _ _ ?_ (fun hHeld => ?_)
                · (try dsimp only); go_keep
                clear hK K
                try simp only [Act.put, List.setIfInBounds_toArray, List.set_cons_zero, List.set_cons_succ]
                refine wpAnyH_take (i := 33) (oi := Oper.mk (some 110) _ _ _ _ _) (v := ?v33k1) rfl (by kernel_rfl) (by kernel_rfl) (by kernel_rfl) (fun _ _ _ h => h) (Or.inl ⟨by rfl, ?hy33k1⟩) (by assumption) ?rest33k1
                case hy33k1 => (intro w0 hSw; (try dsimp only at hSw); go_simp; try with_reducible rfl)
                try simp only [Act.put, List.setIfInBounds_toArray, List.set_cons_zero, List.set_cons_succ]
                refine wpAnyH_take (i := 34) (oi := Oper.mk (some 111) _ _ _ _ _) (v := ?v34k1) rfl (by kernel_rfl) (by kernel_rfl) (by kernel_rfl) (fun _ _ _ h => h) (Or.inl ⟨by rfl, ?hy34k1⟩) (by assumption) ?rest34k1
                case hy34k1 => (intro w0 hSw; (try dsimp only at hSw); go_simp; try with_reducible rfl)
                try simp only [Act.put, List.setIfInBounds_toArray, List.set_cons_zero, List.set_cons_succ]
                refine wpAnyH_take (i := 35) (oi := Oper.mk (some 6) _ _ _ _ _) (v := ?v35k1) rfl (by kernel_rfl) (by kernel_rfl) (by kernel_rfl) (fun _ _ _ h => h) (Or.inl ⟨by rfl, ?hy35k1⟩) (by assumption) ?rest35k1
                case hy35k1 => (intro w0 hSw; (try dsimp only at hSw); go_simp; try with_reducible rfl)
                try simp only [Act.put, List.setIfInBounds_toArray, List.set_cons_zero, List.set_cons_succ]
                refine wpAnyH_done (by kernel_rfl) ?_ _
                refine NoPanic.normal ?_
                go_wp2
                go_ret
                exact ⟨rfl, HE.out _ Y10.kp⟩
              · rw [e1, e2]
                clear e1 e2 HZ HC'
                by_cases hk1 : 1 ≤ kind
                · have hk2 : ¬ kind ≤ 6 := by omega
                  clear hkk
                  have p0 := Yr.p0
                  have p1 := Yr.p1
                  have p2 := Yr.p2
                  have p3 := Yr.p3
                  have p4 := Yr.p4
                  have p5 := Yr.p5
                  have p6 := Yr.p6
                  have p7 := Yr.p7
                  have p8 := Yr.p8
                  have m0 := Yr.m0
                  have m1 := Yr.m1
                  have m2 := Yr.m2
                  have m3 := Yr.m3
                  have i0 := Yr.i0
                  have i1 := Yr.i1
                  have i2 := Yr.i2
                  have i3 := Yr.i3
                  have i4 := Yr.i4
                  have i5 := Yr.i5
                  go_wp2_with fail
                  refine (HO.out _ Yr.kp).mono ?_
                  rintro e w8 ⟨rfl, k8⟩
                  have Y8 := Yr.still k8
                  have A8 := Ar.kept k8
                  clear k8 p0 p1 p2 p3 p4 p5 p6 p7 p8 m0 m1 m2 m3 i0 i1 i2 i3 i4 i5 Yr Ar Br
                  have n0 := Y8.m0
                  have n1 := Y8.m1
                  have n2 := Y8.m2
                  have n3 := Y8.m3
                  have t0 := A8.c0
                  have t1 := A8.c1
                  have t2 := A8.c2
                  have t3 := A8.c3
                  go_wp2_with fail
                  have E4 := eq4 a b c d
                  refine wp_region_noPanic ?_
                  refine wp_region_held_drew (S := fun w' => w'.cell? ⟨w.heap.size + 1, 0, none⟩ = some (.int .i64 a) ∧ w'.cell? ⟨w.heap.size + 1, 1, none⟩ = some (.int .i64 b) ∧ w'.cell? ⟨w.heap.size + 1, 2, none⟩ = some (.int .i64 c) ∧ w'.cell? ⟨w.heap.size + 1, 3, none⟩ = some (.int .i64 d) ∧ w'.cell? ⟨ga, 0, none⟩ = some (.int .i64 a) ∧ w'.cell? ⟨ga, 1, none⟩ = some (.int .i64 b) ∧ w'.cell? ⟨ga, 2, none⟩ = some (.int .i64 c) ∧ w'.cell? ⟨ga, 3, none⟩ = some (.int .i64 d)) (by kernel_rfl) ?_ (fun hHeld => ?_)
                  · (try dsimp only); go_keep
                  refine wpAnyH_ready (rs := [0]) (by kernel_rfl) (by simp) ?_
                  refine AllReadyH.cons (o := Oper.mk (some 77) _ _ _ _ _) rfl (fun K hK => ?_) AllReadyH.nil
                  go_simp
                  refine (manswers_any _).mono ?_
                  rintro e w9 ⟨rfl, k9⟩
                  have K9 := (kp_drew _).trans k9
                  have Y9 := Y8.still K9
                  have A9 := A8.kept K9
                  clear k9
                  have o0 := Y9.m0
                  have o1 := Y9.m1
                  have o2 := Y9.m2
                  have o3 := Y9.m3
                  have q0 := A9.c0
                  have q1 := A9.c1
                  have q2 := A9.c2
                  have q3 := A9.c3
                  go_wp2_with fail
                  refine hK.out _ _ ?_ (fun hHeld => ?_)
                  · (try dsimp only); go_keep
                  clear hK K
                  try simp only [Act.put, List.setIfInBounds_toArray, List.set_cons_zero, List.set_cons_succ]
                  refine wpAnyH_take (i := 1) (oi := Oper.mk (some 78) _ _ _ _ _) (v := ?v1k2) rfl (by kernel_rfl) (by kernel_rfl) (by kernel_rfl) (fun _ _ _ h => h) (Or.inl ⟨by rfl, ?hy1k2⟩) (by assumption) ?rest1k2
                  case hy1k2 => (intro w0 hSw; (try dsimp only at hSw); go_simp; try with_reducible rfl)
                  try simp only [Act.put, List.setIfInBounds_toArray, List.set_cons_zero, List.set_cons_succ]
                  refine wpAnyH_take (i := 2) (oi := Oper.mk (some 79) _ _ _ _ _) (v := ?v2k2) rfl (by kernel_rfl) (by kernel_rfl) (by kernel_rfl) (fun _ _ _ h => h) (Or.inl ⟨by rfl, ?hy2k2⟩) (by assumption) ?rest2k2
                  case hy2k2 => (intro w0 hSw; (try dsimp only at hSw); go_simp; try with_reducible rfl)
                  try simp only [Act.put, List.setIfInBounds_toArray, List.set_cons_zero, List.set_cons_succ]
                  refine wpAnyH_take (i := 3) (oi := Oper.mk (some 80) _ _ _ _ _) (v := ?v3k2) rfl (by kernel_rfl) (by kernel_rfl) (by kernel_rfl) (fun _ _ _ h => h) (Or.inl ⟨by rfl, ?hy3k2⟩) (by assumption) ?rest3k2
                  case hy3k2 => (intro w0 hSw; (try dsimp only at hSw); go_simp; try with_reducible rfl)
                  try simp only [Act.put, List.setIfInBounds_toArray, List.set_cons_zero, List.set_cons_succ]
                  refine wpAnyH_take (i := 4) (oi := Oper.mk (some 81) _ _ _ _ _) (v := ?v4k2) rfl (by kernel_rfl) (by kernel_rfl) (by kernel_rfl) (fun _ _ _ h => h) (Or.inl ⟨by rfl, ?hy4k2⟩) (by assumption) ?rest4k2
                  case hy4k2 => (intro w0 hSw; (try dsimp only at hSw); go_simp; try with_reducible rfl)
                  try simp only [Act.put, List.setIfInBounds_toArray, List.set_cons_zero, List.set_cons_succ]
                  refine wpAnyH_take (i := 5) (oi := Oper.mk (some 82) _ _ _ _ _) (v := ?v5k2) rfl (by kernel_rfl) (by kernel_rfl) (by kernel_rfl) (fun _ _ _ h => h) (Or.inl ⟨by rfl, ?hy5k2⟩) (by assumption) ?rest5k2
                  case hy5k2 => (intro w0 hSw; (try dsimp only at hSw); go_simp; try with_reducible rfl)
                  try simp only [Act.put, List.setIfInBounds_toArray, List.set_cons_zero, List.set_cons_succ]
                  refine wpAnyH_take (i := 6) (oi := Oper.mk (some 83) _ _ _ _ _) (v := ?v6k2) rfl (by kernel_rfl) (by kernel_rfl) (by kernel_rfl) (fun _ _ _ h => h) (Or.inl ⟨by rfl, ?hy6k2⟩) (by assumption) ?rest6k2
                  case hy6k2 => (intro w0 hSw; (try dsimp only at hSw); go_simp; try with_reducible rfl)
                  try simp only [Act.put, List.setIfInBounds_toArray, List.set_cons_zero, List.set_cons_succ]
                  refine wpAnyH_take (i := 7) (oi := Oper.mk (some 84) _ _ _ _ _) (v := ?v7k2) rfl (by kernel_rfl) (by kernel_rfl) (by kernel_rfl) (fun _ _ _ h => h) (Or.inl ⟨by rfl, ?hy7k2⟩) (by assumption) ?rest7k2
                  case hy7k2 => (intro w0 hSw; (try dsimp only at hSw); go_simp; try with_reducible rfl)
                  try simp only [Act.put, List.setIfInBounds_toArray, List.set_cons_zero, List.set_cons_succ]
                  refine wpAnyH_take (i := 8) (oi := Oper.mk (some 85) _ _ _ _ _) (v := ?v8k2) rfl (by kernel_rfl) (by kernel_rfl) (by kernel_rfl) (fun _ _ _ h => h) (Or.inl ⟨by rfl, ?hy8k2⟩) (by assumption) ?rest8k2
                  case hy8k2 => (intro w0 hSw; (try dsimp only at hSw); go_simp; try with_reducible rfl)
                  try simp only [Act.put, List.setIfInBounds_toArray, List.set_cons_zero, List.set_cons_succ]
                  refine wpAnyH_take (i := 9) (oi := Oper.mk (some 86) _ _ _ _ _) (v := ?v9k2) rfl (by kernel_rfl) (by kernel_rfl) (by kernel_rfl) (fun _ _ _ h => h) (Or.inl ⟨by rfl, ?hy9k2⟩) (by assumption) ?rest9k2
                  case hy9k2 => (intro w0 hSw; (try dsimp only at hSw); go_simp; try with_reducible rfl)
                  try simp only [Act.put, List.setIfInBounds_toArray, List.set_cons_zero, List.set_cons_succ]
                  refine wpAnyH_take (i := 10) (oi := Oper.mk (some 87) _ _ _ _ _) (v := ?v10k2) rfl (by kernel_rfl) (by kernel_rfl) (by kernel_rfl) (fun _ _ _ h => h) (Or.inl ⟨by rfl, ?hy10k2⟩) (by assumption) ?rest10k2
                  case hy10k2 => (intro w0 hSw; (try dsimp only at hSw); go_simp; try with_reducible rfl)
                  try simp only [Act.put, List.setIfInBounds_toArray, List.set_cons_zero, List.set_cons_succ]
                  refine wpAnyH_take (i := 11) (oi := Oper.mk (some 88) _ _ _ _ _) (v := ?v11k2) rfl (by kernel_rfl) (by kernel_rfl) (by kernel_rfl) (fun _ _ _ h => h) (Or.inl ⟨by rfl, ?hy11k2⟩) (by assumption) ?rest11k2
                  case hy11k2 => (intro w0 hSw; (try dsimp only at hSw); go_simp; try with_reducible rfl)
                  try simp only [Act.put, List.setIfInBounds_toArray, List.set_cons_zero, List.set_cons_succ]
                  refine wpAnyH_take (i := 12) (oi := Oper.mk (some 89) _ _ _ _ _) (v := undef) rfl (by kernel_rfl) (by kernel_rfl) (by kernel_rfl) (fun _ _ _ h => h) (Or.inr ⟨by rfl, rfl⟩) (by assumption) ?_
                  try simp only [Act.put, List.setIfInBounds_toArray, List.set_cons_zero, List.set_cons_succ]
                  refine wpAnyH_take (i := 13) (oi := Oper.mk (some 90) _ _ _ _ _) (v := undef) rfl (by kernel_rfl) (by kernel_rfl) (by kernel_rfl) (fun _ _ _ h => h) (Or.inr ⟨by rfl, rfl⟩) (by assumption) ?_
                  try simp only [Act.put, List.setIfInBounds_toArray, List.set_cons_zero, List.set_cons_succ]
                  refine wpAnyH_take (i := 14) (oi := Oper.mk (some 91) _ _ _ _ _) (v := undef) rfl (by kernel_rfl) (by kernel_rfl) (by kernel_rfl) (fun _ _ _ h => h) (Or.inr ⟨by rfl, rfl⟩) (by assumption) ?_
                  try simp only [Act.put, List.setIfInBounds_toArray, List.set_cons_zero, List.set_cons_succ]
                  refine wpAnyH_take (i := 15) (oi := Oper.mk (some 92) _ _ _ _ _) (v := ?v15k2) rfl (by kernel_rfl) (by kernel_rfl) (by kernel_rfl) (fun _ _ _ h => h) (Or.inl ⟨by rfl, ?hy15k2⟩) (by assumption) ?rest15k2
                  case hy15k2 => (intro w0 hSw; (try dsimp only at hSw); go_simp; try with_reducible rfl)
                  try simp only [Act.put, List.setIfInBounds_toArray, List.set_cons_zero, List.set_cons_succ]
                  refine wpAnyH_take (i := 16) (oi := Oper.mk (some 93) _ _ _ _ _) (v := ?v16k2) rfl (by kernel_rfl) (by kernel_rfl) (by kernel_rfl) (fun _ _ _ h => h) (Or.inl ⟨by rfl, ?hy16k2⟩) (by assumption) ?rest16k2
                  case hy16k2 => (intro w0 hSw; (try dsimp only at hSw); go_simp; try with_reducible rfl)
                  try simp only [Act.put, List.setIfInBounds_toArray, List.set_cons_zero, List.set_cons_succ]
                  refine wpAnyH_take (i := 17) (oi := Oper.mk (some 94) _ _ _ _ _) (v := ?v17k2) rfl (by kernel_rfl) (by kernel_rfl) (by kernel_rfl) (fun _ _ _ h => h) (Or.inl ⟨by rfl, ?hy17k2⟩) (by assumption) ?rest17k2
                  case hy17k2 => (intro w0 hSw; (try dsimp only at hSw); go_simp; try with_reducible rfl)
                  try simp only [Act.put, List.setIfInBounds_toArray, List.set_cons_zero, List.set_cons_succ]
                  refine wpAnyH_take (i := 18) (oi := Oper.mk (some 95) _ _ _ _ _) (v := ?v18k2) rfl (by kernel_rfl) (by kernel_rfl) (by kernel_rfl) (fun _ _ _ h => h) (Or.inl ⟨by rfl, ?hy18k2⟩) (by assumption) ?rest18k2
                  case hy18k2 => (intro w0 hSw; (try dsimp only at hSw); go_simp; try with_reducible rfl)
                  try simp only [Act.put, List.setIfInBounds_toArray, List.set_cons_zero, List.set_cons_succ]
                  refine wpAnyH_take (i := 19) (oi := Oper.mk (some 96) _ _ _ _ _) (v := ?v19k2) rfl (by kernel_rfl) (by kernel_rfl) (by kernel_rfl) (fun _ _ _ h => h) (Or.inl ⟨by rfl, ?hy19k2⟩) (by assumption) ?rest19k2
                  case hy19k2 => (intro w0 hSw; (try dsimp only at hSw); go_simp; try with_reducible rfl)
                  try simp only [Act.put, List.setIfInBounds_toArray, List.set_cons_zero, List.set_cons_succ]
                  refine wpAnyH_take (i := 20) (oi := Oper.mk (some 97) _ _ _ _ _) (v := ?v20k2) rfl (by kernel_rfl) (by kernel_rfl) (by kernel_rfl) (fun _ _ _ h => h) (Or.inl ⟨by rfl, ?hy20k2⟩) (by assumption) ?rest20k2
                  case hy20k2 => (intro w0 hSw; (try dsimp only at hSw); go_simp; try with_reducible rfl)
                  try simp only [Act.put, List.setIfInBounds_toArray, List.set_cons_zero, List.set_cons_succ]
                  refine wpAnyH_take (i := 21) (oi := Oper.mk (some 98) _ _ _ _ _) (v := ?v21k2) rfl (by kernel_rfl) (by kernel_rfl) (by kernel_rfl) (fun _ _ _ h => h) (Or.inl ⟨by rfl, ?hy21k2⟩) (by assumption) ?rest21k2
                  case hy21k2 => (intro w0 hSw; (try dsimp only at hSw); go_simp; try with_reducible rfl)
                  try simp only [Act.put, List.setIfInBounds_toArray, List.set_cons_zero, List.set_cons_succ]
                  refine wpAnyH_take (i := 22) (oi := Oper.mk (some 99) _ _ _ _ _) (v := ?v22k2) rfl (by kernel_rfl) (by kernel_rfl) (by kernel_rfl) (fun _ _ _ h => h) (Or.inl ⟨by rfl, ?hy22k2⟩) (by assumption) ?rest22k2
                  case hy22k2 => (intro w0 hSw; (try dsimp only at hSw); go_simp; try with_reducible rfl)
                  try simp only [Act.put, List.setIfInBounds_toArray, List.set_cons_zero, List.set_cons_succ]
                  refine wpAnyH_take (i := 23) (oi := Oper.mk (some 100) _ _ _ _ _) (v := ?v23k2) rfl (by kernel_rfl) (by kernel_rfl) (by kernel_rfl) (fun _ _ _ h => h) (Or.inl ⟨by rfl, ?hy23k2⟩) (by assumption) ?rest23k2
                  case hy23k2 => (intro w0 hSw; (try dsimp only at hSw); go_simp; try with_reducible rfl)
                  try simp only [Act.put, List.setIfInBounds_toArray, List.set_cons_zero, List.set_cons_succ]
                  refine wpAnyH_take (i := 24) (oi := Oper.mk (some 101) _ _ _ _ _) (v := ?v24k2) rfl (by kernel_rfl) (by kernel_rfl) (by kernel_rfl) (fun _ _ _ h => h) (Or.inl ⟨by rfl, ?hy24k2⟩) (by assumption) ?rest24k2
                  case hy24k2 => (intro w0 hSw; (try dsimp only at hSw); go_simp; try with_reducible rfl)
                  try simp only [Act.put, List.setIfInBounds_toArray, List.set_cons_zero, List.set_cons_succ]
                  refine wpAnyH_take (i := 25) (oi := Oper.mk (some 102) _ _ _ _ _) (v := ?v25k2) rfl (by kernel_rfl) (by kernel_rfl) (by kernel_rfl) (fun _ _ _ h => h) (Or.inl ⟨by rfl, ?hy25k2⟩) (by assumption) ?rest25k2
                  case hy25k2 => (intro w0 hSw; (try dsimp only at hSw); go_simp; try with_reducible rfl)
                  try simp only [Act.put, List.setIfInBounds_toArray, List.set_cons_zero, List.set_cons_succ]
                  refine wpAnyH_take (i := 26) (oi := Oper.mk (some 103) _ _ _ _ _) (v := ?v26k2) rfl (by kernel_rfl) (by kernel_rfl) (by kernel_rfl) (fun _ _ _ h => h) (Or.inl ⟨by rfl, ?hy26k2⟩) (by assumption) ?rest26k2
                  case hy26k2 => (intro w0 hSw; (try dsimp only at hSw); go_simp; try with_reducible rfl)
                  try simp only [Act.put, List.setIfInBounds_toArray, List.set_cons_zero, List.set_cons_succ]
                  refine wpAnyH_take (i := 27) (oi := Oper.mk (some 104) _ _ _ _ _) (v := ?v27k2) rfl (by kernel_rfl) (by kernel_rfl) (by kernel_rfl) (fun _ _ _ h => h) (Or.inl ⟨by rfl, ?hy27k2⟩) (by assumption) ?rest27k2
                  case hy27k2 => (intro w0 hSw; (try dsimp only at hSw); go_simp; try with_reducible rfl)
                  try simp only [Act.put, List.setIfInBounds_toArray, List.set_cons_zero, List.set_cons_succ]
                  refine wpAnyH_take (i := 28) (oi := Oper.mk (some 105) _ _ _ _ _) (v := ?v28k2) rfl (by kernel_rfl) (by kernel_rfl) (by kernel_rfl) (fun _ _ _ h => h) (Or.inl ⟨by rfl, ?hy28k2⟩) (by assumption) ?rest28k2
                  case hy28k2 => (intro w0 hSw; (try dsimp only at hSw); go_simp; try with_reducible rfl)
                  try simp only [Act.put, List.setIfInBounds_toArray, List.set_cons_zero, List.set_cons_succ]
                  refine wpAnyH_take (i := 29) (oi := Oper.mk (some 106) _ _ _ _ _) (v := ?v29k2) rfl (by kernel_rfl) (by kernel_rfl) (by kernel_rfl) (fun _ _ _ h => h) (Or.inl ⟨by rfl, ?hy29k2⟩) (by assumption) ?rest29k2
                  case hy29k2 => (intro w0 hSw; (try dsimp only at hSw); go_simp; try with_reducible rfl)
                  try simp only [Act.put, List.setIfInBounds_toArray, List.set_cons_zero, List.set_cons_succ]
                  refine wpAnyH_take (i := 30) (oi := Oper.mk (some 107) _ _ _ _ _) (v := ?v30k2) rfl (by kernel_rfl) (by kernel_rfl) (by kernel_rfl) (fun _ _ _ h => h) (Or.inl ⟨by rfl, ?hy30k2⟩) (by assumption) ?rest30k2
                  case hy30k2 => (intro w0 hSw; (try dsimp only at hSw); go_simp; try with_reducible rfl)
                  try simp only [Act.put, List.setIfInBounds_toArray, List.set_cons_zero, List.set_cons_succ]
                  refine wpAnyH_take (i := 32) (oi := Oper.mk (some 109) _ _ _ _ _) (v := ?v32k2) rfl (by kernel_rfl) (by kernel_rfl) (by kernel_rfl) (fun _ _ _ h => h) (Or.inl ⟨by rfl, ?hy32k2⟩) (by assumption) ?rest32k2
                  case hy32k2 => (intro w0 hSw; (try dsimp only at hSw); go_simp; try with_reducible rfl)
                  try simp only [Act.put, List.setIfInBounds_toArray, List.set_cons_zero, List.set_cons_succ]
                  refine wpAnyH_ready (rs := [31]) (by kernel_rfl) (by simp) ?_
                  refine AllReadyH.cons (o := Oper.mk (some 108) _ _ _ _ _) rfl (fun K hK => ?_) AllReadyH.nil
                  go_simp
                  refine (four_any _ _ _ _ _).mono ?_
                  rintro e w10 ⟨rfl, k10⟩
                  have Y10 := Y9.still k10
                  have A10 := A9.kept k10
                  clear k10
                  have r0 := Y10.m0
                  have r1 := Y10.m1
                  have r2 := Y10.m2
                  have r3 := Y10.m3
                  have s0 := A10.c0
                  have s1 := A10.c1
                  have s2 := A10.c2
                  have s3 := A10.c3
                  go_wp2_with fail
                  refine hK.out _ _ ?_ (fun hHeld => ?_)
                  · (try dsimp only); go_keep
                  clear hK K
                  try simp only [Act.put, List.setIfInBounds_toArray, List.set_cons_zero, List.set_cons_succ]
                  refine wpAnyH_take (i := 33) (oi := Oper.mk (some 110) _ _ _ _ _) (v := ?v33k2) rfl (by kernel_rfl) (by kernel_rfl) (by kernel_rfl) (fun _ _ _ h => h) (Or.inl ⟨by rfl, ?hy33k2⟩) (by assumption) ?rest33k2
                  case hy33k2 => (intro w0 hSw; (try dsimp only at hSw); go_simp; try with_reducible rfl)
                  try simp only [Act.put, List.setIfInBounds_toArray, List.set_cons_zero, List.set_cons_succ]
                  refine wpAnyH_take (i := 34) (oi := Oper.mk (some 111) _ _ _ _ _) (v := ?v34k2) rfl (by kernel_rfl) (by kernel_rfl) (by kernel_rfl) (fun _ _ _ h => h) (Or.inl ⟨by rfl, ?hy34k2⟩) (by assumption) ?rest34k2
                  case hy34k2 => (intro w0 hSw; (try dsimp only at hSw); go_simp; try with_reducible rfl)
                  try simp only [Act.put, List.setIfInBounds_toArray, List.set_cons_zero, List.set_cons_succ]
                  refine wpAnyH_take (i := 35) (oi := Oper.mk (some 6) _ _ _ _ _) (v := ?v35k2) rfl (by kernel_rfl) (by kernel_rfl) (by kernel_rfl) (fun _ _ _ h => h) (Or.inl ⟨by rfl, ?hy35k2⟩) (by assumption) ?rest35k2
                  case hy35k2 => (intro w0 hSw; (try dsimp only at hSw); go_simp; try with_reducible rfl)
                  try simp only [Act.put, List.setIfInBounds_toArray, List.set_cons_zero, List.set_cons_succ]
                  refine wpAnyH_done (by kernel_rfl) ?_ _
                  refine NoPanic.normal ?_
                  go_wp2
                  go_ret
                  exact ⟨rfl, HE.out _ Y10.kp⟩
                · clear hkk
                  have p0 := Yr.p0
                  have p1 := Yr.p1
                  have p2 := Yr.p2
                  have p3 := Yr.p3
                  have p4 := Yr.p4
                  have p5 := Yr.p5
                  have p6 := Yr.p6
                  have p7 := Yr.p7
                  have p8 := Yr.p8
                  have m0 := Yr.m0
                  have m1 := Yr.m1
                  have m2 := Yr.m2
                  have m3 := Yr.m3
                  have i0 := Yr.i0
                  have i1 := Yr.i1
                  have i2 := Yr.i2
                  have i3 := Yr.i3
                  have i4 := Yr.i4
                  have i5 := Yr.i5
                  go_wp2_with fail
                  refine (HO.out _ Yr.kp).mono ?_
                  rintro e w8 ⟨rfl, k8⟩
                  have Y8 := Yr.still k8
                  have A8 := Ar.kept k8
                  clear k8 p0 p1 p2 p3 p4 p5 p6 p7 p8 m0 m1 m2 m3 i0 i1 i2 i3 i4 i5 Yr Ar Br
                  have n0 := Y8.m0
                  have n1 := Y8.m1
                  have n2 := Y8.m2
                  have n3 := Y8.m3
                  have t0 := A8.c0
                  have t1 := A8.c1
                  have t2 := A8.c2
                  have t3 := A8.c3
                  go_wp2_with fail
                  have E4 := eq4 a b c d
                  refine wp_region_noPanic ?_
                  refine wp_region_held_drew (S := fun w' => w'.cell? ⟨w.heap.size + 1, 0, none⟩ = some (.int .i64 a) ∧ w'.cell? ⟨w.heap.size + 1, 1, none⟩ = some (.int .i64 b) ∧ w'.cell? ⟨w.heap.size + 1, 2, none⟩ = some (.int .i64 c) ∧ w'.cell? ⟨w.heap.size + 1, 3, none⟩ = some (.int .i64 d) ∧ w'.cell? ⟨ga, 0, none⟩ = some (.int .i64 a) ∧ w'.cell? ⟨ga, 1, none⟩ = some (.int .i64 b) ∧ w'.cell? ⟨ga, 2, none⟩ = some (.int .i64 c) ∧ w'.cell? ⟨ga, 3, none⟩ = some (.int .i64 d)) (by kernel_rfl) ?_ (fun hHeld => ?_)
                  · (try dsimp only); go_keep
                  refine wpAnyH_ready (rs := [0]) (by kernel_rfl) (by simp) ?_
                  refine AllReadyH.cons (o := Oper.mk (some 77) _ _ _ _ _) rfl (fun K hK => ?_) AllReadyH.nil
                  go_simp
                  refine (manswers_any _).mono ?_
                  rintro e w9 ⟨rfl, k9⟩
                  have K9 := (kp_drew _).trans k9
                  have Y9 := Y8.still K9
                  have A9 := A8.kept K9
                  clear k9
                  have o0 := Y9.m0
                  have o1 := Y9.m1
                  have o2 := Y9.m2
                  have o3 := Y9.m3
                  have q0 := A9.c0
                  have q1 := A9.c1
                  have q2 := A9.c2
                  have q3 := A9.c3
                  go_wp2_with fail
                  refine hK.out _ _ ?_ (fun hHeld => ?_)
                  · (try dsimp only); go_keep
                  clear hK K
                  try simp only [Act.put, List.setIfInBounds_toArray, List.set_cons_zero, List.set_cons_succ]
                  refine wpAnyH_take (i := 1) (oi := Oper.mk (some 78) _ _ _ _ _) (v := ?v1k3) rfl (by kernel_rfl) (by kernel_rfl) (by kernel_rfl) (fun _ _ _ h => h) (Or.inl ⟨by rfl, ?hy1k3⟩) (by assumption) ?rest1k3
                  case hy1k3 => (intro w0 hSw; (try dsimp only at hSw); go_simp; try with_reducible rfl)
                  try simp only [Act.put, List.setIfInBounds_toArray, List.set_cons_zero, List.set_cons_succ]
                  refine wpAnyH_take (i := 2) (oi := Oper.mk (some 79) _ _ _ _ _) (v := ?v2k3) rfl (by kernel_rfl) (by kernel_rfl) (by kernel_rfl) (fun _ _ _ h => h) (Or.inl ⟨by rfl, ?hy2k3⟩) (by assumption) ?rest2k3
                  case hy2k3 => (intro w0 hSw; (try dsimp only at hSw); go_simp; try with_reducible rfl)
                  try simp only [Act.put, List.setIfInBounds_toArray, List.set_cons_zero, List.set_cons_succ]
                  refine wpAnyH_take (i := 3) (oi := Oper.mk (some 80) _ _ _ _ _) (v := ?v3k3) rfl (by kernel_rfl) (by kernel_rfl) (by kernel_rfl) (fun _ _ _ h => h) (Or.inl ⟨by rfl, ?hy3k3⟩) (by assumption) ?rest3k3
                  case hy3k3 => (intro w0 hSw; (try dsimp only at hSw); go_simp; try with_reducible rfl)
                  try simp only [Act.put, List.setIfInBounds_toArray, List.set_cons_zero, List.set_cons_succ]
                  refine wpAnyH_take (i := 4) (oi := Oper.mk (some 81) _ _ _ _ _) (v := ?v4k3) rfl (by kernel_rfl) (by kernel_rfl) (by kernel_rfl) (fun _ _ _ h => h) (Or.inl ⟨by rfl, ?hy4k3⟩) (by assumption) ?rest4k3
                  case hy4k3 => (intro w0 hSw; (try dsimp only at hSw); go_simp; try with_reducible rfl)
                  try simp only [Act.put, List.setIfInBounds_toArray, List.set_cons_zero, List.set_cons_succ]
                  refine wpAnyH_take (i := 5) (oi := Oper.mk (some 82) _ _ _ _ _) (v := ?v5k3) rfl (by kernel_rfl) (by kernel_rfl) (by kernel_rfl) (fun _ _ _ h => h) (Or.inl ⟨by rfl, ?hy5k3⟩) (by assumption) ?rest5k3
                  case hy5k3 => (intro w0 hSw; (try dsimp only at hSw); go_simp; try with_reducible rfl)
                  try simp only [Act.put, List.setIfInBounds_toArray, List.set_cons_zero, List.set_cons_succ]
                  refine wpAnyH_take (i := 6) (oi := Oper.mk (some 83) _ _ _ _ _) (v := ?v6k3) rfl (by kernel_rfl) (by kernel_rfl) (by kernel_rfl) (fun _ _ _ h => h) (Or.inl ⟨by rfl, ?hy6k3⟩) (by assumption) ?rest6k3
                  case hy6k3 => (intro w0 hSw; (try dsimp only at hSw); go_simp; try with_reducible rfl)
                  try simp only [Act.put, List.setIfInBounds_toArray, List.set_cons_zero, List.set_cons_succ]
                  refine wpAnyH_take (i := 7) (oi := Oper.mk (some 84) _ _ _ _ _) (v := ?v7k3) rfl (by kernel_rfl) (by kernel_rfl) (by kernel_rfl) (fun _ _ _ h => h) (Or.inl ⟨by rfl, ?hy7k3⟩) (by assumption) ?rest7k3
                  case hy7k3 => (intro w0 hSw; (try dsimp only at hSw); go_simp; try with_reducible rfl)
                  try simp only [Act.put, List.setIfInBounds_toArray, List.set_cons_zero, List.set_cons_succ]
                  refine wpAnyH_take (i := 8) (oi := Oper.mk (some 85) _ _ _ _ _) (v := ?v8k3) rfl (by kernel_rfl) (by kernel_rfl) (by kernel_rfl) (fun _ _ _ h => h) (Or.inl ⟨by rfl, ?hy8k3⟩) (by assumption) ?rest8k3
                  case hy8k3 => (intro w0 hSw; (try dsimp only at hSw); go_simp; try with_reducible rfl)
                  try simp only [Act.put, List.setIfInBounds_toArray, List.set_cons_zero, List.set_cons_succ]
                  refine wpAnyH_take (i := 9) (oi := Oper.mk (some 86) _ _ _ _ _) (v := ?v9k3) rfl (by kernel_rfl) (by kernel_rfl) (by kernel_rfl) (fun _ _ _ h => h) (Or.inl ⟨by rfl, ?hy9k3⟩) (by assumption) ?rest9k3
                  case hy9k3 => (intro w0 hSw; (try dsimp only at hSw); go_simp; try with_reducible rfl)
                  try simp only [Act.put, List.setIfInBounds_toArray, List.set_cons_zero, List.set_cons_succ]
                  refine wpAnyH_take (i := 10) (oi := Oper.mk (some 87) _ _ _ _ _) (v := ?v10k3) rfl (by kernel_rfl) (by kernel_rfl) (by kernel_rfl) (fun _ _ _ h => h) (Or.inl ⟨by rfl, ?hy10k3⟩) (by assumption) ?rest10k3
                  case hy10k3 => (intro w0 hSw; (try dsimp only at hSw); go_simp; try with_reducible rfl)
                  try simp only [Act.put, List.setIfInBounds_toArray, List.set_cons_zero, List.set_cons_succ]
                  refine wpAnyH_take (i := 11) (oi := Oper.mk (some 88) _ _ _ _ _) (v := ?v11k3) rfl (by kernel_rfl) (by kernel_rfl) (by kernel_rfl) (fun _ _ _ h => h) (Or.inl ⟨by rfl, ?hy11k3⟩) (by assumption) ?rest11k3
                  case hy11k3 => (intro w0 hSw; (try dsimp only at hSw); go_simp; try with_reducible rfl)
                  try simp only [Act.put, List.setIfInBounds_toArray, List.set_cons_zero, List.set_cons_succ]
                  refine wpAnyH_take (i := 12) (oi := Oper.mk (some 89) _ _ _ _ _) (v := undef) rfl (by kernel_rfl) (by kernel_rfl) (by kernel_rfl) (fun _ _ _ h => h) (Or.inr ⟨by rfl, rfl⟩) (by assumption) ?_
                  try simp only [Act.put, List.setIfInBounds_toArray, List.set_cons_zero, List.set_cons_succ]
                  refine wpAnyH_take (i := 13) (oi := Oper.mk (some 90) _ _ _ _ _) (v := undef) rfl (by kernel_rfl) (by kernel_rfl) (by kernel_rfl) (fun _ _ _ h => h) (Or.inr ⟨by rfl, rfl⟩) (by assumption) ?_
                  try simp only [Act.put, List.setIfInBounds_toArray, List.set_cons_zero, List.set_cons_succ]
                  refine wpAnyH_take (i := 14) (oi := Oper.mk (some 91) _ _ _ _ _) (v := undef) rfl (by kernel_rfl) (by kernel_rfl) (by kernel_rfl) (fun _ _ _ h => h) (Or.inr ⟨by rfl, rfl⟩) (by assumption) ?_
                  try simp only [Act.put, List.setIfInBounds_toArray, List.set_cons_zero, List.set_cons_succ]
                  refine wpAnyH_take (i := 15) (oi := Oper.mk (some 92) _ _ _ _ _) (v := ?v15k3) rfl (by kernel_rfl) (by kernel_rfl) (by kernel_rfl) (fun _ _ _ h => h) (Or.inl ⟨by rfl, ?hy15k3⟩) (by assumption) ?rest15k3
                  case hy15k3 => (intro w0 hSw; (try dsimp only at hSw); go_simp; try with_reducible rfl)
                  try simp only [Act.put, List.setIfInBounds_toArray, List.set_cons_zero, List.set_cons_succ]
                  refine wpAnyH_take (i := 16) (oi := Oper.mk (some 93) _ _ _ _ _) (v := ?v16k3) rfl (by kernel_rfl) (by kernel_rfl) (by kernel_rfl) (fun _ _ _ h => h) (Or.inl ⟨by rfl, ?hy16k3⟩) (by assumption) ?rest16k3
                  case hy16k3 => (intro w0 hSw; (try dsimp only at hSw); go_simp; try with_reducible rfl)
                  try simp only [Act.put, List.setIfInBounds_toArray, List.set_cons_zero, List.set_cons_succ]
                  refine wpAnyH_take (i := 17) (oi := Oper.mk (some 94) _ _ _ _ _) (v := ?v17k3) rfl (by kernel_rfl) (by kernel_rfl) (by kernel_rfl) (fun _ _ _ h => h) (Or.inl ⟨by rfl, ?hy17k3⟩) (by assumption) ?rest17k3
                  case hy17k3 => (intro w0 hSw; (try dsimp only at hSw); go_simp; try with_reducible rfl)
                  try simp only [Act.put, List.setIfInBounds_toArray, List.set_cons_zero, List.set_cons_succ]
                  refine wpAnyH_take (i := 18) (oi := Oper.mk (some 95) _ _ _ _ _) (v := ?v18k3) rfl (by kernel_rfl) (by kernel_rfl) (by kernel_rfl) (fun _ _ _ h => h) (Or.inl ⟨by rfl, ?hy18k3⟩) (by assumption) ?rest18k3
                  case hy18k3 => (intro w0 hSw; (try dsimp only at hSw); go_simp; try with_reducible rfl)
                  try simp only [Act.put, List.setIfInBounds_toArray, List.set_cons_zero, List.set_cons_succ]
                  refine wpAnyH_take (i := 19) (oi := Oper.mk (some 96) _ _ _ _ _) (v := ?v19k3) rfl (by kernel_rfl) (by kernel_rfl) (by kernel_rfl) (fun _ _ _ h => h) (Or.inl ⟨by rfl, ?hy19k3⟩) (by assumption) ?rest19k3
                  case hy19k3 => (intro w0 hSw; (try dsimp only at hSw); go_simp; try with_reducible rfl)
                  try simp only [Act.put, List.setIfInBounds_toArray, List.set_cons_zero, List.set_cons_succ]
                  refine wpAnyH_take (i := 20) (oi := Oper.mk (some 97) _ _ _ _ _) (v := ?v20k3) rfl (by kernel_rfl) (by kernel_rfl) (by kernel_rfl) (fun _ _ _ h => h) (Or.inl ⟨by rfl, ?hy20k3⟩) (by assumption) ?rest20k3
                  case hy20k3 => (intro w0 hSw; (try dsimp only at hSw); go_simp; try with_reducible rfl)
                  try simp only [Act.put, List.setIfInBounds_toArray, List.set_cons_zero, List.set_cons_succ]
                  refine wpAnyH_take (i := 21) (oi := Oper.mk (some 98) _ _ _ _ _) (v := ?v21k3) rfl (by kernel_rfl) (by kernel_rfl) (by kernel_rfl) (fun _ _ _ h => h) (Or.inl ⟨by rfl, ?hy21k3⟩) (by assumption) ?rest21k3
                  case hy21k3 => (intro w0 hSw; (try dsimp only at hSw); go_simp; try with_reducible rfl)
                  try simp only [Act.put, List.setIfInBounds_toArray, List.set_cons_zero, List.set_cons_succ]
                  refine wpAnyH_take (i := 22) (oi := Oper.mk (some 99) _ _ _ _ _) (v := ?v22k3) rfl (by kernel_rfl) (by kernel_rfl) (by kernel_rfl) (fun _ _ _ h => h) (Or.inl ⟨by rfl, ?hy22k3⟩) (by assumption) ?rest22k3
                  case hy22k3 => (intro w0 hSw; (try dsimp only at hSw); go_simp; try with_reducible rfl)
                  try simp only [Act.put, List.setIfInBounds_toArray, List.set_cons_zero, List.set_cons_succ]
                  refine wpAnyH_take (i := 23) (oi := Oper.mk (some 100) _ _ _ _ _) (v := ?v23k3) rfl (by kernel_rfl) (by kernel_rfl) (by kernel_rfl) (fun _ _ _ h => h) (Or.inl ⟨by rfl, ?hy23k3⟩) (by assumption) ?rest23k3
                  case hy23k3 => (intro w0 hSw; (try dsimp only at hSw); go_simp; try with_reducible rfl)
                  try simp only [Act.put, List.setIfInBounds_toArray, List.set_cons_zero, List.set_cons_succ]
                  refine wpAnyH_take (i := 24) (oi := Oper.mk (some 101) _ _ _ _ _) (v := ?v24k3) rfl (by kernel_rfl) (by kernel_rfl) (by kernel_rfl) (fun _ _ _ h => h) (Or.inl ⟨by rfl, ?hy24k3⟩) (by assumption) ?rest24k3
                  case hy24k3 => (intro w0 hSw; (try dsimp only at hSw); go_simp; try with_reducible rfl)
                  try simp only [Act.put, List.setIfInBounds_toArray, List.set_cons_zero, List.set_cons_succ]
                  refine wpAnyH_take (i := 25) (oi := Oper.mk (some 102) _ _ _ _ _) (v := ?v25k3) rfl (by kernel_rfl) (by kernel_rfl) (by kernel_rfl) (fun _ _ _ h => h) (Or.inl ⟨by rfl, ?hy25k3⟩) (by assumption) ?rest25k3
                  case hy25k3 => (intro w0 hSw; (try dsimp only at hSw); go_simp; try with_reducible rfl)
                  try simp only [Act.put, List.setIfInBounds_toArray, List.set_cons_zero, List.set_cons_succ]
                  refine wpAnyH_take (i := 26) (oi := Oper.mk (some 103) _ _ _ _ _) (v := ?v26k3) rfl (by kernel_rfl) (by kernel_rfl) (by kernel_rfl) (fun _ _ _ h => h) (Or.inl ⟨by rfl, ?hy26k3⟩) (by assumption) ?rest26k3
                  case hy26k3 => (intro w0 hSw; (try dsimp only at hSw); go_simp; try with_reducible rfl)
                  try simp only [Act.put, List.setIfInBounds_toArray, List.set_cons_zero, List.set_cons_succ]
                  refine wpAnyH_take (i := 27) (oi := Oper.mk (some 104) _ _ _ _ _) (v := ?v27k3) rfl (by kernel_rfl) (by kernel_rfl) (by kernel_rfl) (fun _ _ _ h => h) (Or.inl ⟨by rfl, ?hy27k3⟩) (by assumption) ?rest27k3
                  case hy27k3 => (intro w0 hSw; (try dsimp only at hSw); go_simp; try with_reducible rfl)
                  try simp only [Act.put, List.setIfInBounds_toArray, List.set_cons_zero, List.set_cons_succ]
                  refine wpAnyH_take (i := 28) (oi := Oper.mk (some 105) _ _ _ _ _) (v := ?v28k3) rfl (by kernel_rfl) (by kernel_rfl) (by kernel_rfl) (fun _ _ _ h => h) (Or.inl ⟨by rfl, ?hy28k3⟩) (by assumption) ?rest28k3
                  case hy28k3 => (intro w0 hSw; (try dsimp only at hSw); go_simp; try with_reducible rfl)
                  try simp only [Act.put, List.setIfInBounds_toArray, List.set_cons_zero, List.set_cons_succ]
                  refine wpAnyH_take (i := 29) (oi := Oper.mk (some 106) _ _ _ _ _) (v := ?v29k3) rfl (by kernel_rfl) (by kernel_rfl) (by kernel_rfl) (fun _ _ _ h => h) (Or.inl ⟨by rfl, ?hy29k3⟩) (by assumption) ?rest29k3
                  case hy29k3 => (intro w0 hSw; (try dsimp only at hSw); go_simp; try with_reducible rfl)
                  try simp only [Act.put, List.setIfInBounds_toArray, List.set_cons_zero, List.set_cons_succ]
                  refine wpAnyH_take (i := 30) (oi := Oper.mk (some 107) _ _ _ _ _) (v := ?v30k3) rfl (by kernel_rfl) (by kernel_rfl) (by kernel_rfl) (fun _ _ _ h => h) (Or.inl ⟨by rfl, ?hy30k3⟩) (by assumption) ?rest30k3
                  case hy30k3 => (intro w0 hSw; (try dsimp only at hSw); go_simp; try with_reducible rfl)
                  try simp only [Act.put, List.setIfInBounds_toArray, List.set_cons_zero, List.set_cons_succ]
                  refine wpAnyH_take (i := 32) (oi := Oper.mk (some 109) _ _ _ _ _) (v := ?v32k3) rfl (by kernel_rfl) (by kernel_rfl) (by kernel_rfl) (fun _ _ _ h => h) (Or.inl ⟨by rfl, ?hy32k3⟩) (by assumption) ?rest32k3
                  case hy32k3 => (intro w0 hSw; (try dsimp only at hSw); go_simp; try with_reducible rfl)
                  try simp only [Act.put, List.setIfInBounds_toArray, List.set_cons_zero, List.set_cons_succ]
                  refine wpAnyH_ready (rs := [31]) (by kernel_rfl) (by simp) ?_
                  refine AllReadyH.cons (o := Oper.mk (some 108) _ _ _ _ _) rfl (fun K hK => ?_) AllReadyH.nil
                  go_simp
                  refine (four_any _ _ _ _ _).mono ?_
                  rintro e w10 ⟨rfl, k10⟩
                  have Y10 := Y9.still k10
                  have A10 := A9.kept k10
                  clear k10
                  have r0 := Y10.m0
                  have r1 := Y10.m1
                  have r2 := Y10.m2
                  have r3 := Y10.m3
                  have s0 := A10.c0
                  have s1 := A10.c1
                  have s2 := A10.c2
                  have s3 := A10.c3
                  go_wp2_with fail
                  refine hK.out _ _ ?_ (fun hHeld => ?_)
                  · (try dsimp only); go_keep
                  clear hK K
                  try simp only [Act.put, List.setIfInBounds_toArray, List.set_cons_zero, List.set_cons_succ]
                  refine wpAnyH_take (i := 33) (oi := Oper.mk (some 110) _ _ _ _ _) (v := ?v33k3) rfl (by kernel_rfl) (by kernel_rfl) (by kernel_rfl) (fun _ _ _ h => h) (Or.inl ⟨by rfl, ?hy33k3⟩) (by assumption) ?rest33k3
                  case hy33k3 => (intro w0 hSw; (try dsimp only at hSw); go_simp; try with_reducible rfl)
                  try simp only [Act.put, List.setIfInBounds_toArray, List.set_cons_zero, List.set_cons_succ]
                  refine wpAnyH_take (i := 34) (oi := Oper.mk (some 111) _ _ _ _ _) (v := ?v34k3) rfl (by kernel_rfl) (by kernel_rfl) (by kernel_rfl) (fun _ _ _ h => h) (Or.inl ⟨by rfl, ?hy34k3⟩) (by assumption) ?rest34k3
                  case hy34k3 => (intro w0 hSw; (try dsimp only at hSw); go_simp; try with_reducible rfl)
                  try simp only [Act.put, List.setIfInBounds_toArray, List.set_cons_zero, List.set_cons_succ]
                  refine wpAnyH_take (i := 35) (oi := Oper.mk (some 6) _ _ _ _ _) (v := ?v35k3) rfl (by kernel_rfl) (by kernel_rfl) (by kernel_rfl) (fun _ _ _ h => h) (Or.inl ⟨by rfl, ?hy35k3⟩) (by assumption) ?rest35k3
                  case hy35k3 => (intro w0 hSw; (try dsimp only at hSw); go_simp; try with_reducible rfl)
                  try simp only [Act.put, List.setIfInBounds_toArray, List.set_cons_zero, List.set_cons_succ]
                  refine wpAnyH_done (by kernel_rfl) ?_ _
                  refine NoPanic.normal ?_
                  go_wp2
                  go_ret
                  exact ⟨rfl, HE.out _ Y10.kp⟩

end Go.Proofs.Ytoinbdjjimfdgaa.MT
