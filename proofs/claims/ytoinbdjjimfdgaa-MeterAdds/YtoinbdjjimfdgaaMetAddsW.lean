/- MeterAdds, walked. -/
import Derived.Test.YtoinbdjjimfdgaaMetAddsP
import Derived.StillTailTactics
namespace Go.Proofs.Ytoinbdjjimfdgaa.MT
open Go.ChangeShapes Go.WideShapes Go.ChangeAt Go.RowKit Go.Proofs.Ytoinbdjjimfdgaa.AR Go.Proofs.Ytoinbdjjimfdgaa.TB

set_option linter.unusedSimpArgs false in
set_option maxHeartbeats 8000000 in
theorem meterAdds_walk (aL : Option Addr) (lL cL : Nat) (rL : List (List Int)) (aS : Option Addr) (lS cS : Nat) (rS : List (List Int)) (aD : Option Addr) (lD cD : Nat) (rD : List (List Int)) (idle crit sw swe sems hor : Int) (ao : Option Addr) (len cap : Nat) (rows : List (List Int)) (w : World)
    (h : Mach w aL lL rL aS lS rS aD lD rD) (ra : RecAt w 6 ao len rows) (lb : len * 48 ≤ 140737488351232) :
    Calls Try.prog 4 #[pv aL lL cL aS lS cS aD lD cD idle crit sw swe sems hor, .slice ao len cap] w
      fun e w' => e = .returned (.bool true) ∧ Below w.heap.size w w' := by
  have HE : Hid (∀ w', Kp w w' → Below w.heap.size w w') := fun w' q => q
  have HT : Hid (∀ w', Kp w w' → Calls Try.prog 7 #[pv aL lL cL aS lS cS aD lD cD idle crit sw swe sems hor] w' fun e w'' => e = .returned (.bool (mayB lL rL lS rS lD rD idle crit sw swe sems hor)) ∧ Kp w' w'') := fun w' k => reftable_any aL lL cL rL aS lS cS rS aD lD cD rD idle crit sw swe sems hor w' (h.kept k)
  have HN : Hid (∀ kind frm ln arg task cyc w', Kp w w' → Calls Try.prog 11 #[pv aL lL cL aS lS cS aD lD cD idle crit sw swe sems hor, iv kind frm ln arg task cyc] w' fun e w'' => e = .returned (.int .i64 (cost lL rL lS rS idle swe kind ln arg cyc)) ∧ Kp w' w'') := fun kind frm ln arg task cyc w' k => energy_any aL lL cL rL aS lS cS rS aD lD cD rD idle crit sw swe sems hor kind frm ln arg task cyc w' (h.kept k)
  have HA : Hid (∀ a b c d kind frm ln arg task cyc w', Kp w w' → Calls Try.prog 12 #[mv a b c d, pv aL lL cL aS lS cS aD lD cD idle crit sw swe sems hor, iv kind frm ln arg task cyc] w'
      fun e w'' => e = .returned (mv (bump kind (cost lL rL lS rS idle swe kind ln arg cyc) 0 a) (bump kind (cost lL rL lS rS idle swe kind ln arg cyc) 1 b) (bump kind (cost lL rL lS rS idle swe kind ln arg cyc) 2 c) (bump kind (cost lL rL lS rS idle swe kind ln arg cyc) 3 d)) ∧ Kp w' w'') := fun a b c d kind frm ln arg task cyc w' k => add_any a b c d aL lL cL rL aS lS cS rS aD lD cD rD idle crit sw swe sems hor kind frm ln arg task cyc w' (h.kept k)
  generalize mayB lL rL lS rS lD rD idle crit sw swe sems hor = may at *
  have HB : Hid (∀ o, Kp w (w.alloc o)) := fun o => (Kp.refl w).alloc o
  unfold pv mv iv at *
  cases may with
  | false =>
    go_enter Try.func4, Try.ntmps4
    go_wp2_with fail
    refine (HT.out _ (HB.out _)).mono ?_
    rintro e w1 ⟨rfl, k1⟩
    have K1 := (HB.out _).trans k1
    clear k1
    go_wp2_with fail
    refine (manswers_any _).mono ?_
    rintro e w2 ⟨rfl, k2⟩
    go_wp2
    go_ret
    exact ⟨rfl, HE.out _ (K1.trans k2)⟩
  | true =>
    by_cases hl : (4096 : Int) < (len : Int)
    · go_enter Try.func4, Try.ntmps4
      go_wp2_with fail
      refine (HT.out _ (HB.out _)).mono ?_
      rintro e w1 ⟨rfl, k1⟩
      have K1 := (HB.out _).trans k1
      clear k1
      go_wp2_with fail
      refine (manswers_any _).mono ?_
      rintro e w2 ⟨rfl, k2⟩
      go_wp2
      go_ret
      exact ⟨rfl, HE.out _ (K1.trans k2)⟩
    · go_enter Try.func4, Try.ntmps4
      go_wp2_with fail
      refine (HT.out _ (HB.out _)).mono ?_
      rintro e w1 ⟨rfl, k1⟩
      obtain ⟨W1, HW1⟩ : ∃ W1, Hid (W1 = (w1.alloc (.cells #[.int .i64 0, .int .i64 0, .int .i64 0, .int .i64 0] 36)).alloc (.cells #[.int .i64 0, .int .i64 0, .int .i64 0, .int .i64 0] 37)) := ⟨_, rfl⟩
      have A1 := aw_new k1 HW1.out
      clear k1
      go_wp2_with fail
      rw [← HW1.out]
      clear HW1
      generalize hgm : w1.heap.size = gm at *
      clear hgm
      go_loopw [7, 8] (fun i n wr => ∃ (k : Nat) (a b c d : Int), k ≤ len ∧ i = .int .i64 k ∧ AW w wr gm (gm + 1) (.slice aL lL cL) (.slice aS lS cS) (.slice aD lD cD) idle crit sw swe sems hor a b c d a b c d) (fun i _ _ => len - (intOf i).toNat)
      case atStart => exact ⟨0, 0, 0, 0, 0, Nat.zero_le _, rfl, A1⟩
      case round =>
        obtain ⟨k, a, b, c, d, hk, rfl, A⟩ := hrel
        clear A1
        by_cases hlt : k < len
        · have hlt' : (k : Int) < (len : Int) := by omega
          have hk0 : (0 : Int) ≤ (k : Int) := by omega
          obtain ⟨bl, off, rfl, hbl, kd, fr, ln, ag, ta, cy, hc⟩ := rec_cells6 ra hlt
          have HC : Hid (∀ W', Kp w W' → _) := hc
          obtain ⟨e0, e1, e2, e3, e4, e5⟩ := hc _ A.kp
          clear hc
          go_wp2_with fail
          refine (small_any _ _ _ _ _ _ _).mono ?_
          rintro e w2 ⟨rfl, k2⟩
          have A2 := A.still k2
          clear k2 e0 e1 e2 e3 e4 e5 A
          generalize smallB ln cy = sm at *
          cases sm with
          | false =>
            go_wp2_with fail
            refine (manswers_any _).mono ?_
            rintro e w3 ⟨rfl, k3⟩
            go_wp2
            go_ret
            exact ⟨rfl, HE.out _ (A2.kp.trans k3)⟩
          | true =>
            obtain ⟨e0, e1, e2, e3, e4, e5⟩ := HC.out _ A2.kp
            obtain ⟨p0, p1, p2, p3, p4, p5, p6, p7, p8⟩ := A2.cells
            have m0 := A2.m.c0
            have m1 := A2.m.c1
            have m2 := A2.m.c2
            have m3 := A2.m.c3
            go_wp2_with fail
            go_still_tail 6, (by kernel_rfl)
            go_wp2_with fail
            refine (HA.out _ _ _ _ _ _ _ _ _ _ _ (A2.kp.trans (kp_drew _))).mono ?_
            rintro e w4 ⟨rfl, k4⟩
            have A4 := A2.still ((kp_drew _).trans k4)
            clear k4 e0 e1 e2 e3 e4 e5 p0 p1 p2 p3 p4 p5 p6 p7 p8 m0 m1 m2 m3 A2
            have HNk := HN.out kd fr ln ag ta cy
            have HNk : Hid (∀ w', Kp w w' → _) := HNk
            generalize cost lL rL lS rS idle swe kd ln ag cy = co at *
            have HO : Hid (¬ (1 ≤ kd ∧ kd ≤ 6) → bump kd co 0 a = a ∧ bump kd co 1 b = b ∧ bump kd co 2 c = c ∧ bump kd co 3 d = d) := fun q => ⟨bump_out q (by omega), bump_out q (by omega), bump_out q (by omega), bump_out q (by omega)⟩
            obtain ⟨W5, HW5⟩ : ∃ W5, Hid (((((w4.setCell ⟨gm, 0, none⟩ (.int .i64 (bump kd co 0 a))).setCell ⟨gm, 1, none⟩ (.int .i64 (bump kd co 1 b))).setCell ⟨gm, 2, none⟩ (.int .i64 (bump kd co 2 c))).setCell ⟨gm, 3, none⟩ (.int .i64 (bump kd co 3 d))) = W5) := ⟨_, rfl⟩
            have A5 := A4.setM _ _ _ _ W5 HW5.out
            have g0 := A4.gm0
            have nb1 : ¬ gm = bl := by omega
            have nb2 : ¬ bl = gm := by omega
            clear g0
            obtain ⟨_, lm, m0, m1, m2, m3, f0, f1, f2, f3⟩ := A4.m
            obtain ⟨e0, e1, e2, e3, e4, e5⟩ := HC.out _ A4.kp
            by_cases kin : 1 ≤ kd ∧ kd ≤ 6
            · obtain ⟨q, hqp⟩ : ∃ q, place kd = q := ⟨_, rfl⟩
              have hq : q < 4 := by rw [← hqp]; exact place_lt kin
              have HM : Hid (∀ w', Calls Try.prog 13 #[.int .i64 (kd - 1), .int .i64 3] w' fun e w'' => e = .returned (.int .i64 (q : Int)) ∧ w' = w'') := fun w' => by have := min_place kin w'; rw [hqp] at this; exact this
              have wk : IntKind.i64.wrap (kd - 1) = kd - 1 := by rw [wrap_i64, IntWalk.wrap64_in _ (by omega)]
              have hq0 : (0 : Int) ≤ (q : Int) := by omega
              have hq4 : (q : Int) < 4 := by omega
              obtain ⟨k1, k6⟩ := kin
              have HQ : Hid (place kd = q) := hqp
              clear hqp
              go_wp2_with fail
              rw [HW5.out]
              clear e0 e1 e2 e3 e4 e5 m0 m1 m2 m3 f0 f1 f2 f3 lm nb1 nb2 HO A4
              obtain ⟨e0, e1, e2, e3, e4, e5⟩ := HC.out _ A5.kp
              obtain ⟨p0, p1, p2, p3, p4, p5, p6, p7, p8⟩ := A5.cells
              have vq := A5.v.at hq
              have vf := A5.v.frz hq
              have nw1 : ¬ gm + 1 = bl := by have := A5.gm0; omega
              have nw2 : ¬ gm + 1 = w.heap.size := by have := A5.gm0; omega
              refine wp_region_noPanic ?_
              refine wp_region_held_drew (S := fun w' => w'.cell? ⟨w.heap.size, 0, none⟩ = some (.slice aL lL cL) ∧ w'.cell? ⟨w.heap.size, 1, none⟩ = some (.slice aS lS cS) ∧ w'.cell? ⟨w.heap.size, 2, none⟩ = some (.slice aD lD cD) ∧ w'.cell? ⟨w.heap.size, 3, none⟩ = some (.int .i64 idle) ∧ w'.cell? ⟨w.heap.size, 4, none⟩ = some (.int .i64 crit) ∧ w'.cell? ⟨w.heap.size, 5, none⟩ = some (.int .i64 sw) ∧ w'.cell? ⟨w.heap.size, 6, none⟩ = some (.int .i64 swe) ∧ w'.cell? ⟨w.heap.size, 7, none⟩ = some (.int .i64 sems) ∧ w'.cell? ⟨w.heap.size, 8, none⟩ = some (.int .i64 hor) ∧ w'.cell? ⟨bl, off + k * 6, none⟩ = some (.int .i64 kd) ∧ w'.cell? ⟨bl, off + k * 6 + 1, none⟩ = some (.int .i64 fr) ∧ w'.cell? ⟨bl, off + k * 6 + 2, none⟩ = some (.int .i64 ln) ∧ w'.cell? ⟨bl, off + k * 6 + 3, none⟩ = some (.int .i64 ag) ∧ w'.cell? ⟨bl, off + k * 6 + 4, none⟩ = some (.int .i64 ta) ∧ w'.cell? ⟨bl, off + k * 6 + 5, none⟩ = some (.int .i64 cy)) (by kernel_rfl) ?_ (fun hHeld => ?_)
              · (try dsimp only); go_keep
              refine wpAnyH_take (i := 0) (oi := Oper.mk (some 49) _ _ _ _ _) (v := ?v0t1) rfl (by kernel_rfl) (by kernel_rfl) (by kernel_rfl) (fun _ _ _ h => h) (Or.inl ⟨by rfl, ?hy0t1⟩) (by assumption) ?rest0t1
              case hy0t1 => (intro w0 hSw; (try dsimp only at hSw); go_simp; try with_reducible rfl)
              try simp only [Act.put, List.setIfInBounds_toArray, List.set_cons_zero, List.set_cons_succ]
              refine wpAnyH_take (i := 1) (oi := Oper.mk (some 50) _ _ _ _ _) (v := ?v1t2) rfl (by kernel_rfl) (by kernel_rfl) (by kernel_rfl) (fun _ _ _ h => h) (Or.inl ⟨by rfl, ?hy1t2⟩) (by assumption) ?rest1t2
              case hy1t2 => (intro w0 hSw; (try dsimp only at hSw); go_simp; try with_reducible rfl)
              try simp only [Act.put, List.setIfInBounds_toArray, List.set_cons_zero, List.set_cons_succ]
              refine wpAnyH_take (i := 3) (oi := Oper.mk (some 52) _ _ _ _ _) (v := ?v3t3) rfl (by kernel_rfl) (by kernel_rfl) (by kernel_rfl) (fun _ _ _ h => h) (Or.inl ⟨by rfl, ?hy3t3⟩) (by assumption) ?rest3t3
              case hy3t3 => (intro w0 hSw; (try dsimp only at hSw); go_simp; try with_reducible rfl)
              try simp only [Act.put, List.setIfInBounds_toArray, List.set_cons_zero, List.set_cons_succ]
              refine wpAnyH_take (i := 4) (oi := Oper.mk (some 53) _ _ _ _ _) (v := ?v4t4) rfl (by kernel_rfl) (by kernel_rfl) (by kernel_rfl) (fun _ _ _ h => h) (Or.inl ⟨by rfl, ?hy4t4⟩) (by assumption) ?rest4t4
              case hy4t4 => (intro w0 hSw; (try dsimp only at hSw); go_simp; try with_reducible rfl)
              try simp only [Act.put, List.setIfInBounds_toArray, List.set_cons_zero, List.set_cons_succ]
              refine wpAnyH_take (i := 8) (oi := Oper.mk (some 57) _ _ _ _ _) (v := ?v8t5) rfl (by kernel_rfl) (by kernel_rfl) (by kernel_rfl) (fun _ _ _ h => h) (Or.inl ⟨by rfl, ?hy8t5⟩) (by assumption) ?rest8t5
              case hy8t5 => (intro w0 hSw; (try dsimp only at hSw); go_simp; try with_reducible rfl)
              try simp only [Act.put, List.setIfInBounds_toArray, List.set_cons_zero, List.set_cons_succ]
              refine wpAnyH_take (i := 9) (oi := Oper.mk (some 58) _ _ _ _ _) (v := ?v9t6) rfl (by kernel_rfl) (by kernel_rfl) (by kernel_rfl) (fun _ _ _ h => h) (Or.inl ⟨by rfl, ?hy9t6⟩) (by assumption) ?rest9t6
              case hy9t6 => (intro w0 hSw; (try dsimp only at hSw); go_simp; try with_reducible rfl)
              try simp only [Act.put, List.setIfInBounds_toArray, List.set_cons_zero, List.set_cons_succ]
              refine wpAnyH_take (i := 10) (oi := Oper.mk (some 59) _ _ _ _ _) (v := ?v10t7) rfl (by kernel_rfl) (by kernel_rfl) (by kernel_rfl) (fun _ _ _ h => h) (Or.inl ⟨by rfl, ?hy10t7⟩) (by assumption) ?rest10t7
              case hy10t7 => (intro w0 hSw; (try dsimp only at hSw); go_simp; try with_reducible rfl)
              try simp only [Act.put, List.setIfInBounds_toArray, List.set_cons_zero, List.set_cons_succ]
              refine wpAnyH_take (i := 11) (oi := Oper.mk (some 60) _ _ _ _ _) (v := ?v11t8) rfl (by kernel_rfl) (by kernel_rfl) (by kernel_rfl) (fun _ _ _ h => h) (Or.inl ⟨by rfl, ?hy11t8⟩) (by assumption) ?rest11t8
              case hy11t8 => (intro w0 hSw; (try dsimp only at hSw); go_simp; try with_reducible rfl)
              try simp only [Act.put, List.setIfInBounds_toArray, List.set_cons_zero, List.set_cons_succ]
              refine wpAnyH_take (i := 12) (oi := Oper.mk (some 61) _ _ _ _ _) (v := ?v12t9) rfl (by kernel_rfl) (by kernel_rfl) (by kernel_rfl) (fun _ _ _ h => h) (Or.inl ⟨by rfl, ?hy12t9⟩) (by assumption) ?rest12t9
              case hy12t9 => (intro w0 hSw; (try dsimp only at hSw); go_simp; try with_reducible rfl)
              try simp only [Act.put, List.setIfInBounds_toArray, List.set_cons_zero, List.set_cons_succ]
              refine wpAnyH_ready (rs := [2]) (by kernel_rfl) (by simp) ?_
              refine AllReadyH.cons (o := Oper.mk (some 51) _ _ _ _ _) rfl (fun K hK => ?_) AllReadyH.nil
              go_simp
              refine (HM.out _).mono ?_
              rintro e wm ⟨rfl, rfl⟩
              go_wp2_with fail
              refine hK.out _ _ ?_ (fun hHeld => ?_)
              · (try dsimp only); go_keep
              clear hK K
              try simp only [Act.put, List.setIfInBounds_toArray, List.set_cons_zero, List.set_cons_succ]
              refine wpAnyH_ready (rs := [5]) (by kernel_rfl) (by simp) ?_
              refine AllReadyH.cons (o := Oper.mk (some 54) _ _ _ _ _) rfl (fun K hK => ?_) AllReadyH.nil
              go_simp
              refine (HM.out _).mono ?_
              rintro e wm ⟨rfl, rfl⟩
              go_wp2_with fail
              refine hK.out _ _ ?_ (fun hHeld => ?_)
              · (try dsimp only); go_keep
              clear hK K
              try simp only [Act.put, List.setIfInBounds_toArray, List.set_cons_zero, List.set_cons_succ]
              refine wpAnyH_take (i := 6) (oi := Oper.mk (some 55) _ _ _ _ _) (v := ?v6t10) rfl (by kernel_rfl) (by kernel_rfl) (by kernel_rfl) (fun _ _ _ h => h) (Or.inl ⟨by rfl, ?hy6t10⟩) (by assumption) ?rest6t10
              case hy6t10 => (intro w0 hSw; (try dsimp only at hSw); go_simp; try with_reducible rfl)
              try simp only [Act.put, List.setIfInBounds_toArray, List.set_cons_zero, List.set_cons_succ]
              refine wpAnyH_ready (rs := [7, 13]) (by kernel_rfl) (by simp) ?_
              refine AllReadyH.cons (o := Oper.mk (some 56) _ _ _ _ _) rfl (fun K hK => ?_) ?_
              · go_simp
                refine hK.out _ _ ?_ (fun hHeld => ?_)
                · (try dsimp only); go_keep
                clear hK K
                try simp only [Act.put, List.setIfInBounds_toArray, List.set_cons_zero, List.set_cons_succ]
                refine wpAnyH_ready (rs := [13]) (by kernel_rfl) (by simp) ?_
                refine AllReadyH.cons (o := Oper.mk (some 62) _ _ _ _ _) rfl (fun K hK => ?_) AllReadyH.nil
                go_simp
                refine (HNk.out _ (A5.kp.trans (kp_drew _))).mono ?_
                rintro e w6 ⟨rfl, k6⟩
                have A6 := A5.still ((kp_drew _).trans k6)
                clear k6
                obtain ⟨x0, x1, x2, x3, x4, x5⟩ := HC.out _ A6.kp
                obtain ⟨y0, y1, y2, y3, y4, y5, y6, y7, y8⟩ := A6.cells
                have vq6 := A6.v.at hq
                have vf6 := A6.v.frz hq
                go_wp2_with fail
                refine hK.out _ _ ?_ (fun hHeld => ?_)
                · (try dsimp only); go_keep
                clear hK K
                try simp only [Act.put, List.setIfInBounds_toArray, List.set_cons_zero, List.set_cons_succ]
                refine wpAnyH_take (i := 14) (oi := Oper.mk (some 63) _ _ _ _ _) (v := ?v14t12) rfl (by kernel_rfl) (by kernel_rfl) (by kernel_rfl) (fun _ _ _ h => h) (Or.inl ⟨by rfl, ?hy14t12⟩) (by assumption) ?rest14t12
                case hy14t12 => (intro w0 hSw; (try dsimp only at hSw); go_simp; try with_reducible rfl)
                try simp only [Act.put, List.setIfInBounds_toArray, List.set_cons_zero, List.set_cons_succ]
                refine wpAnyH_take (i := 15) (oi := Oper.mk (some 64) _ _ _ _ _) (v := ?v15t12) rfl (by kernel_rfl) (by kernel_rfl) (by kernel_rfl) (fun _ _ _ h => h) (Or.inl ⟨by rfl, ?hy15t12⟩) (by assumption) ?rest15t12
                case hy15t12 => (intro w0 hSw; (try dsimp only at hSw); go_simp; try with_reducible rfl)
                try simp only [Act.put, List.setIfInBounds_toArray, List.set_cons_zero, List.set_cons_succ]
                refine wpAnyH_ready (rs := [16]) (by kernel_rfl) (by simp) ?_
                refine AllReadyH.cons (o := Oper.mk none _ _ _ _ _) rfl (fun K hK => ?_) AllReadyH.nil
                go_simp
                refine hK.out _ _ ?_ (fun hHeld => ?_)
                · (try dsimp only); go_keep
                clear hK K
                try simp only [Act.put, List.setIfInBounds_toArray, List.set_cons_zero, List.set_cons_succ]
                refine wpAnyH_done (by kernel_rfl) ?_ _
                refine NoPanic.normal ?_
                go_wp2
                go_roundw
                case rel => exact ⟨k + 1, _, _, _, _, by omega, by go_num, A6.setV HQ.out hq (by first | rfl | rw [wrap_i64])⟩
                case measure => simp [intOf]; omega
              · refine AllReadyH.cons (o := Oper.mk (some 62) _ _ _ _ _) rfl (fun K hK => ?_) AllReadyH.nil
                go_simp
                refine (HNk.out _ (A5.kp.trans (kp_drew _))).mono ?_
                rintro e w6 ⟨rfl, k6⟩
                have A6 := A5.still ((kp_drew _).trans k6)
                clear k6
                obtain ⟨x0, x1, x2, x3, x4, x5⟩ := HC.out _ A6.kp
                obtain ⟨y0, y1, y2, y3, y4, y5, y6, y7, y8⟩ := A6.cells
                have vq6 := A6.v.at hq
                have vf6 := A6.v.frz hq
                go_wp2_with fail
                refine hK.out _ _ ?_ (fun hHeld => ?_)
                · (try dsimp only); go_keep
                clear hK K
                try simp only [Act.put, List.setIfInBounds_toArray, List.set_cons_zero, List.set_cons_succ]
                refine wpAnyH_ready (rs := [7]) (by kernel_rfl) (by simp) ?_
                refine AllReadyH.cons (o := Oper.mk (some 56) _ _ _ _ _) rfl (fun K hK => ?_) AllReadyH.nil
                go_simp
                refine hK.out _ _ ?_ (fun hHeld => ?_)
                · (try dsimp only); go_keep
                clear hK K
                try simp only [Act.put, List.setIfInBounds_toArray, List.set_cons_zero, List.set_cons_succ]
                refine wpAnyH_take (i := 14) (oi := Oper.mk (some 63) _ _ _ _ _) (v := ?v14t13) rfl (by kernel_rfl) (by kernel_rfl) (by kernel_rfl) (fun _ _ _ h => h) (Or.inl ⟨by rfl, ?hy14t13⟩) (by assumption) ?rest14t13
                case hy14t13 => (intro w0 hSw; (try dsimp only at hSw); go_simp; try with_reducible rfl)
                try simp only [Act.put, List.setIfInBounds_toArray, List.set_cons_zero, List.set_cons_succ]
                refine wpAnyH_take (i := 15) (oi := Oper.mk (some 64) _ _ _ _ _) (v := ?v15t13) rfl (by kernel_rfl) (by kernel_rfl) (by kernel_rfl) (fun _ _ _ h => h) (Or.inl ⟨by rfl, ?hy15t13⟩) (by assumption) ?rest15t13
                case hy15t13 => (intro w0 hSw; (try dsimp only at hSw); go_simp; try with_reducible rfl)
                try simp only [Act.put, List.setIfInBounds_toArray, List.set_cons_zero, List.set_cons_succ]
                refine wpAnyH_ready (rs := [16]) (by kernel_rfl) (by simp) ?_
                refine AllReadyH.cons (o := Oper.mk none _ _ _ _ _) rfl (fun K hK => ?_) AllReadyH.nil
                go_simp
                refine hK.out _ _ ?_ (fun hHeld => ?_)
                · (try dsimp only); go_keep
                clear hK K
                try simp only [Act.put, List.setIfInBounds_toArray, List.set_cons_zero, List.set_cons_succ]
                refine wpAnyH_done (by kernel_rfl) ?_ _
                refine NoPanic.normal ?_
                go_wp2
                go_roundw
                case rel => exact ⟨k + 1, _, _, _, _, by omega, by go_num, A6.setV HQ.out hq (by first | rfl | rw [wrap_i64])⟩
                case measure => simp [intOf]; omega
            · by_cases k1 : 1 ≤ kd
              · have k6 : ¬ kd ≤ 6 := by omega
                have HKI : Hid (¬ (1 ≤ kd ∧ kd ≤ 6)) := kin
                clear kin
                go_wp2_with fail
                rw [HW5.out]
                obtain ⟨z0, z1, z2, z3⟩ := HO.out HKI.out
                go_roundw
                case rel => exact ⟨k + 1, a, b, c, d, by omega, by go_num, by rw [z0, z1, z2, z3] at A5; exact A5⟩
                case measure => simp [intOf]; omega
              · have HKI : Hid (¬ (1 ≤ kd ∧ kd ≤ 6)) := kin
                clear kin
                go_wp2_with fail
                rw [HW5.out]
                obtain ⟨z0, z1, z2, z3⟩ := HO.out HKI.out
                go_roundw
                case rel => exact ⟨k + 1, a, b, c, d, by omega, by go_num, by rw [z0, z1, z2, z3] at A5; exact A5⟩
                case measure => simp [intOf]; omega
        · have hlt' : ¬ (k : Int) < (len : Int) := by omega
          have HTT : Hid (∀ w', Calls Try.prog 15 #[.agg #[.int .i64 a, .int .i64 b, .int .i64 c, .int .i64 d]] w' fun e w'' => e = .returned (.int .i64 (IntKind.i64.wrap (IntKind.i64.wrap (IntKind.i64.wrap (a + b) + c) + d))) ∧ Kp w' w'') := fun w' => by have := total_any a b c d w'; unfold tot at this; simp only [← wrap_i64] at this; exact this
          have E4 := eq4 a b c d
          have n0 := A.m.c0
          have n1 := A.m.c1
          have n2 := A.m.c2
          have n3 := A.m.c3
          have n4 := A.v.c0
          have n5 := A.v.c1
          have n6 := A.v.c2
          have n7 := A.v.c3
          go_wp2_with fail
          go_region_held3 (fun w' => w'.cell? ⟨gm, 0, none⟩ = some (.int .i64 a) ∧ w'.cell? ⟨gm, 1, none⟩ = some (.int .i64 b) ∧ w'.cell? ⟨gm, 2, none⟩ = some (.int .i64 c) ∧ w'.cell? ⟨gm, 3, none⟩ = some (.int .i64 d) ∧ w'.cell? ⟨gm + 1, 0, none⟩ = some (.int .i64 a) ∧ w'.cell? ⟨gm + 1, 1, none⟩ = some (.int .i64 b) ∧ w'.cell? ⟨gm + 1, 2, none⟩ = some (.int .i64 c) ∧ w'.cell? ⟨gm + 1, 3, none⟩ = some (.int .i64 d)) (go_keep) (first
            | (go_at_call 9; refine (manswers_any _).mono ?_; rintro e w3 ⟨rfl, k3⟩; have A3 := A.still ((kp_drew _).trans k3); clear k3; have o0 := A3.m.c0; have o1 := A3.m.c1; have o2 := A3.m.c2; have o3 := A3.m.c3; have o4 := A3.v.c0; have o5 := A3.v.c1; have o6 := A3.v.c2; have o7 := A3.v.c3)
            | (go_at_call 14; refine (four_any _ _ _ _ _).mono ?_; rintro e w4 ⟨rfl, k4⟩; have A4 := A3.still k4; clear k4; have q0 := A4.m.c0; have q1 := A4.m.c1; have q2 := A4.m.c2; have q3 := A4.m.c3; have q4 := A4.v.c0; have q5 := A4.v.c1; have q6 := A4.v.c2; have q7 := A4.v.c3)
            | (go_at_call 15; refine (HTT.out _).mono ?_; rintro e w5 ⟨rfl, k5⟩; have A5 := A4.still k5; clear k5; have r0 := A5.m.c0; have r1 := A5.m.c1; have r2 := A5.m.c2; have r3 := A5.m.c3; have r4 := A5.v.c0; have r5 := A5.v.c1; have r6 := A5.v.c2; have r7 := A5.v.c3)
            | fail)
          all_goals
            go_wp2
            go_ret
            exact ⟨rfl, HE.out _ A5.kp⟩

end Go.Proofs.Ytoinbdjjimfdgaa.MT
