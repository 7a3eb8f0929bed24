/- At a slower level the load is no less; at the level that would do it is at most the whole, if at any one behind the first it is. -/
import Derived.Test.YtgecandbbmljbabAdmAns
import Derived.Test.YtgecandbbmljbabAdmGood
import Derived.Test.YtgecandbbmljbabAdmSloP
namespace Go.Proofs.Ytgecandbbmljbab.AD
open Go.ChangeShapes Go.WideShapes Go.ChangeAt Go.RowKit Go.Proofs.Ytgecandbbmljbab.AR Go.Proofs.Ytgecandbbmljbab.TB Go.Proofs.Ytgecandbbmljbab.TK Go.Proofs.Ytgecandbbmljbab.FX

set_option maxRecDepth 100000 in
set_option maxHeartbeats 8000000 in
theorem admitSlower_go (m : Mc) (ao : Option Addr) (len cap : Nat) (L : List Tk) (a b : Int) (w : World) (hm : m.At w) (h : LAt w ao len L) (ha : (Lit.int .u8 a).wf = true) (hb : (Lit.int .u8 b).wf = true) :
    Calls Try.prog 3 #[m.v, .slice ao len cap, .int .u8 a, .int .u8 b] w fun e w' => e = .returned (.bool true) ∧ Below w.heap.size w w' := by
  have HE : Hid (∀ w', Kp w w' → Below w.heap.size w w') := fun w' q => q
  have HG : Hid (∀ W, Kp w W → Calls Try.prog 5 #[m.v, .slice ao len cap] W fun e w' => e = .returned (.bool (goodB m L)) ∧ Kp W w') := fun W k => good_any m ao len cap L W (hm.kept k) (h.kept k)
  have HD : Hid (goodB m L = true → Gd m L) := fun q => (good_t q).1
  have HQ : Hid (Gd m L → (∀ W lev, Kp w W → Calls Try.prog 8 #[m.v, .slice ao len cap, .int .i64 lev] W fun e w' => e = .returned (.int .i64 (lod m L lev)) ∧ Kp W w')) := fun d W lev k => load_any m ao len cap L lev W (hm.kept k) (h.kept k) d
  have HS : Hid (Gd m L → (∀ W, Kp w W → Calls Try.prog 7 #[m.v, .slice ao len cap] W fun e w' => e = .returned (.int .i64 (slo m L : Nat)) ∧ Kp W w')) := fun d W k => slowest_any m ao len cap L W (hm.kept k) (h.kept k) d
  have HR : Hid (Gd m L → ∀ i j : Nat, i ≤ j → j < m.lL → lod m L i ≤ lod m L j) := fun d i j h1 h2 => lod_rise d h1 h2
  have HN : Hid (Gd m L → (slo m L : Int) ≤ m.crit ∧ (slo m L = 0 ∨ lod m L (slo m L : Nat) ≤ 4294967296)) := fun d => slo_said d
  have HC : Hid (Gd m L → 1 ≤ m.lL ∧ m.lL ≤ 4) := fun d => ⟨by have := d.b.cr; omega, d.b.l4⟩
  obtain ⟨a0, a1⟩ := u8_in ha
  obtain ⟨b0, b1⟩ := u8_in hb
  clear hm h ha hb
  obtain ⟨W0, HW, K0, P0⟩ := one_box w m
  have HP : Hid (∀ W, Kp W0 W → B9 W w.heap.size m) := fun W k => P0.kp k
  have HK : Hid (Kp w W0) := K0
  generalize goodB m L = gd at *
  generalize slo m L = n at *
  generalize lod m L = F at *
  obtain ⟨p0, p1, p2, p3, p4, p5, p6, p7, p8⟩ := P0.all
  unfold Mc.v at *
  clear P0 K0
  cases gd with
  | false =>
    go_enter Try.func3, Try.ntmps3
    go_wp2_with fail
    rw [← HW.out]
    refine (HG.out _ HK.out).mono ?_
    rintro e w1 ⟨rfl, k1⟩
    go_wp2_with fail
    refine (aanswers_any _).mono ?_
    rintro e w2 ⟨rfl, k2⟩
    go_wp2
    go_ret
    exact ⟨rfl, HE.out _ ((HK.out.trans k1).trans k2)⟩
  | true =>
    have d := HD.out rfl
    have HQ' := HQ.out d
    have HS' := HS.out d
    have HR' := HR.out d
    have HN' := HN.out d
    obtain ⟨l1, l4⟩ := HC.out d
    clear HQ HS HR HN HC d HD
    have HQ : Hid (∀ W lev, Kp w W → Calls Try.prog 8 #[.agg #[.slice m.aL m.lL m.cL, .slice m.aS m.lS m.cS, .slice m.aD m.lD m.cD, .int .i64 m.idle, .int .i64 m.crit, .int .i64 m.sw, .int .i64 m.swe, .int .i64 m.sems, .int .i64 m.hor], .slice ao len cap, .int .i64 lev] W fun e w' => e = .returned (.int .i64 (F lev)) ∧ Kp W w') := HQ'
    have HS : Hid (∀ W, Kp w W → Calls Try.prog 7 #[.agg #[.slice m.aL m.lL m.cL, .slice m.aS m.lS m.cS, .slice m.aD m.lD m.cD, .int .i64 m.idle, .int .i64 m.crit, .int .i64 m.sw, .int .i64 m.swe, .int .i64 m.sems, .int .i64 m.hor], .slice ao len cap] W fun e w' => e = .returned (.int .i64 (n : Nat)) ∧ Kp W w') := HS'
    have HR : Hid (∀ i j : Nat, i ≤ j → j < m.lL → F i ≤ F j) := HR'
    have HN : Hid ((n : Int) ≤ m.crit ∧ (n = 0 ∨ F (n : Nat) ≤ 4294967296)) := HN'
    clear HQ' HS' HR' HN'
    obtain ⟨x, hx, ex, wx⟩ := mod_of ⟨a0, a1⟩ l1
    clear wx
    obtain ⟨y, hy, ey, wy⟩ := mod_of ⟨b0, b1⟩ l1
    clear wy
    have hl0 : ¬ m.lL = 0 := by omega
    have wa : IntKind.i64.wrap a = a := wrapI (by omega)
    have wb : IntKind.i64.wrap b = b := wrapI (by omega)
    go_enter Try.func3, Try.ntmps3
    try dsimp only [List.append]
    go_wp2_with fail
    rw [← HW.out]
    clear HW
    refine (HG.out _ HK.out).mono ?_
    rintro e w1 ⟨rfl, k1⟩
    have HK1 : Hid (Kp W0 w1) := k1
    clear k1 p0 p1 p2 p3 p4 p5 p6 p7 p8 HG
    obtain ⟨p0, p1, p2, p3, p4, p5, p6, p7, p8⟩ := (HP.out _ HK1.out).all
    go_wp2_with fail
    go_region_held3 (fun w' => w'.cell? ⟨w.heap.size, 0, none⟩ = some (.slice m.aL m.lL m.cL) ∧ w'.cell? ⟨w.heap.size, 1, none⟩ = some (.slice m.aS m.lS m.cS) ∧ w'.cell? ⟨w.heap.size, 2, none⟩ = some (.slice m.aD m.lD m.cD) ∧ w'.cell? ⟨w.heap.size, 3, none⟩ = some (.int .i64 m.idle) ∧ w'.cell? ⟨w.heap.size, 4, none⟩ = some (.int .i64 m.crit) ∧ w'.cell? ⟨w.heap.size, 5, none⟩ = some (.int .i64 m.sw) ∧ w'.cell? ⟨w.heap.size, 6, none⟩ = some (.int .i64 m.swe) ∧ w'.cell? ⟨w.heap.size, 7, none⟩ = some (.int .i64 m.sems) ∧ w'.cell? ⟨w.heap.size, 8, none⟩ = some (.int .i64 m.hor)) (go_keep) (fail)
    all_goals
      obtain ⟨V, HV⟩ : ∃ V, Hid (V = w1.drew) := ⟨_, rfl⟩
      have HK2 : Hid (Kp W0 V) := by show Kp _ _; rw [HV.out]; exact HK1.out.trans (tkp_drew _)
      rw [← HV.out]
      clear HV p0 p1 p2 p3 p4 p5 p6 p7 p8 ex ey wa wb hl0 a0 a1 b0 b1 l1 l4
      obtain ⟨p0, p1, p2, p3, p4, p5, p6, p7, p8⟩ := (HP.out _ HK2.out).all
      by_cases g : y < x
      · have g' : (y : Int) < (x : Int) := by omega
        go_wp2_with fail
        refine (HS.out _ (HK.out.trans HK2.out)).mono ?_
        rintro e w2 ⟨rfl, k2⟩
        have HK3 : Hid (Kp W0 w2) := HK2.out.trans k2
        clear k2 p0 p1 p2 p3 p4 p5 p6 p7 p8 HS
        obtain ⟨p0, p1, p2, p3, p4, p5, p6, p7, p8⟩ := (HP.out _ HK3.out).all
        have hle : F (y : Nat) ≤ F (x : Nat) := HR.out y x (by omega) (by omega)
        obtain ⟨hn1, hn2⟩ := HN.out
        have hn0 : (0 : Int) ≤ (n : Int) := by omega
        clear HR HN
        go_wp2_with fail
        by_cases hz : n = 0
        · subst hz
          have hc0 : 0 ≤ m.crit := by omega
          clear hn1 hn2 hn0
          refine wp_region_noPanic ?_
          refine wp_region_held_drew (S := fun w' => w'.cell? ⟨w.heap.size, 0, none⟩ = some (.slice m.aL m.lL m.cL) ∧ w'.cell? ⟨w.heap.size, 1, none⟩ = some (.slice m.aS m.lS m.cS) ∧ w'.cell? ⟨w.heap.size, 2, none⟩ = some (.slice m.aD m.lD m.cD) ∧ w'.cell? ⟨w.heap.size, 3, none⟩ = some (.int .i64 m.idle) ∧ w'.cell? ⟨w.heap.size, 4, none⟩ = some (.int .i64 m.crit) ∧ w'.cell? ⟨w.heap.size, 5, none⟩ = some (.int .i64 m.sw) ∧ w'.cell? ⟨w.heap.size, 6, none⟩ = some (.int .i64 m.swe) ∧ w'.cell? ⟨w.heap.size, 7, none⟩ = some (.int .i64 m.sems) ∧ w'.cell? ⟨w.heap.size, 8, none⟩ = some (.int .i64 m.hor)) (by kernel_rfl) ?_ (fun hHeld => ?_)
          · exact (HP.out _ (HK3.out.trans (tkp_drew _))).all
          obtain ⟨U, HU⟩ : ∃ U, Hid (U = w2.drew) := ⟨_, rfl⟩
          have HT0 : Hid (Kp W0 U) := by show Kp _ _; rw [HU.out]; exact HK3.out.trans (tkp_drew _)
          rw [← HU.out]
          clear HU p0 p1 p2 p3 p4 p5 p6 p7 p8
          have hHeld0 := (HP.out _ HT0.out).all
          refine wpAnyH_ready (rs := [0]) (by kernel_rfl) (by simp) ?_
          refine AllReadyH.cons (o := Oper.mk (some 37) _ _ _ _ _) rfl (fun K hK => ?_) AllReadyH.nil
          go_simp
          refine (aanswers_any _).mono ?_
          rintro e u1 ⟨rfl, k1⟩
          have HT1 : Hid (Kp W0 u1) := HT0.out.trans k1
          clear k1
          go_wp2_with fail
          refine hK.out _ _ ?_ (fun hHeld => ?_)
          · exact (HP.out _ HT1.out).all
          clear hK K
          try simp only [Act.put, List.setIfInBounds_toArray, List.set_cons_zero, List.set_cons_succ]
          refine wpAnyH_take (i := 1) (oi := Oper.mk (some 38) _ _ _ _ _) (v := ?v1yx) rfl (by kernel_rfl) (by kernel_rfl) (by kernel_rfl) (fun _ _ _ h => h) (Or.inl ⟨by rfl, ?hy1yx⟩) (by assumption) ?rest1yx
          case hy1yx => (intro w0 hSw; (try dsimp only at hSw); go_simp; try with_reducible rfl)
          try simp only [Act.put, List.setIfInBounds_toArray, List.set_cons_zero, List.set_cons_succ]
          refine wpAnyH_take (i := 2) (oi := Oper.mk (some 39) _ _ _ _ _) (v := ?v2yx) rfl (by kernel_rfl) (by kernel_rfl) (by kernel_rfl) (fun _ _ _ h => h) (Or.inl ⟨by rfl, ?hy2yx⟩) (by assumption) ?rest2yx
          case hy2yx => (intro w0 hSw; (try dsimp only at hSw); go_simp; try with_reducible rfl)
          try simp only [Act.put, List.setIfInBounds_toArray, List.set_cons_zero, List.set_cons_succ]
          refine wpAnyH_take (i := 3) (oi := Oper.mk (some 40) _ _ _ _ _) (v := ?v3yx) rfl (by kernel_rfl) (by kernel_rfl) (by kernel_rfl) (fun _ _ _ h => h) (Or.inl ⟨by rfl, ?hy3yx⟩) (by assumption) ?rest3yx
          case hy3yx => (intro w0 hSw; (try dsimp only at hSw); go_simp; try with_reducible rfl)
          try simp only [Act.put, List.setIfInBounds_toArray, List.set_cons_zero, List.set_cons_succ]
          refine wpAnyH_take (i := 4) (oi := Oper.mk (some 41) _ _ _ _ _) (v := ?v4yx) rfl (by kernel_rfl) (by kernel_rfl) (by kernel_rfl) (fun _ _ _ h => h) (Or.inl ⟨by rfl, ?hy4yx⟩) (by assumption) ?rest4yx
          case hy4yx => (intro w0 hSw; (try dsimp only at hSw); go_simp; try with_reducible rfl)
          try simp only [Act.put, List.setIfInBounds_toArray, List.set_cons_zero, List.set_cons_succ]
          refine wpAnyH_take (i := 6) (oi := Oper.mk (some 43) _ _ _ _ _) (v := ?v6yx) rfl (by kernel_rfl) (by kernel_rfl) (by kernel_rfl) (fun _ _ _ h => h) (Or.inl ⟨by rfl, ?hy6yx⟩) (by assumption) ?rest6yx
          case hy6yx => (intro w0 hSw; (try dsimp only at hSw); go_simp; try with_reducible rfl)
          try simp only [Act.put, List.setIfInBounds_toArray, List.set_cons_zero, List.set_cons_succ]
          refine wpAnyH_take (i := 7) (oi := Oper.mk (some 44) _ _ _ _ _) (v := ?v7yx) rfl (by kernel_rfl) (by kernel_rfl) (by kernel_rfl) (fun _ _ _ h => h) (Or.inl ⟨by rfl, ?hy7yx⟩) (by assumption) ?rest7yx
          case hy7yx => (intro w0 hSw; (try dsimp only at hSw); go_simp; try with_reducible rfl)
          try simp only [Act.put, List.setIfInBounds_toArray, List.set_cons_zero, List.set_cons_succ]
          refine wpAnyH_take (i := 8) (oi := Oper.mk (some 45) _ _ _ _ _) (v := ?v8yx) rfl (by kernel_rfl) (by kernel_rfl) (by kernel_rfl) (fun _ _ _ h => h) (Or.inl ⟨by rfl, ?hy8yx⟩) (by assumption) ?rest8yx
          case hy8yx => (intro w0 hSw; (try dsimp only at hSw); go_simp; try with_reducible rfl)
          try simp only [Act.put, List.setIfInBounds_toArray, List.set_cons_zero, List.set_cons_succ]
          refine wpAnyH_ready (rs := [5]) (by kernel_rfl) (by simp) ?_
          refine AllReadyH.cons (o := Oper.mk (some 42) _ _ _ _ _) rfl (fun K hK => ?_) AllReadyH.nil
          go_simp
          refine (HQ.out _ _ (HK.out.trans HT1.out)).mono ?_
          rintro e u2 ⟨rfl, k2⟩
          have HT2 : Hid (Kp W0 u2) := HT1.out.trans k2
          clear k2
          go_wp2_with fail
          refine hK.out _ _ ?_ (fun hHeld => ?_)
          · exact (HP.out _ HT2.out).all
          clear hK K
          try simp only [Act.put, List.setIfInBounds_toArray, List.set_cons_zero, List.set_cons_succ]
          refine wpAnyH_ready (rs := [9]) (by kernel_rfl) (by simp) ?_
          refine AllReadyH.cons (o := Oper.mk (some 46) _ _ _ _ _) rfl (fun K hK => ?_) AllReadyH.nil
          go_simp
          refine (HQ.out _ _ (HK.out.trans HT2.out)).mono ?_
          rintro e u3 ⟨rfl, k3⟩
          have HT3 : Hid (Kp W0 u3) := HT2.out.trans k3
          clear k3
          go_wp2_with fail
          refine hK.out _ _ ?_ (fun hHeld => ?_)
          · exact (HP.out _ HT3.out).all
          clear hK K
          try simp only [Act.put, List.setIfInBounds_toArray, List.set_cons_zero, List.set_cons_succ]
          refine wpAnyH_take (i := 10) (oi := Oper.mk (some 47) _ _ _ _ _) (v := ?v10yx) rfl (by kernel_rfl) (by kernel_rfl) (by kernel_rfl) (fun _ _ _ h => h) (Or.inl ⟨by rfl, ?hy10yx⟩) (by assumption) ?rest10yx
          case hy10yx => (intro w0 hSw; (try dsimp only at hSw); go_simp; try with_reducible rfl)
          try simp only [Act.put, List.setIfInBounds_toArray, List.set_cons_zero, List.set_cons_succ]
          refine wpAnyH_take (i := 11) (oi := Oper.mk (some 48) _ _ _ _ _) (v := ?v11yx) rfl (by kernel_rfl) (by kernel_rfl) (by kernel_rfl) (fun _ _ _ h => h) (Or.inl ⟨by rfl, ?hy11yx⟩) (by assumption) ?rest11yx
          case hy11yx => (intro w0 hSw; (try dsimp only at hSw); go_simp; try with_reducible rfl)
          try simp only [Act.put, List.setIfInBounds_toArray, List.set_cons_zero, List.set_cons_succ]
          refine wpAnyH_take (i := 12) (oi := Oper.mk (some 49) _ _ _ _ _) (v := ?v12yx) rfl (by kernel_rfl) (by kernel_rfl) (by kernel_rfl) (fun _ _ _ h => h) (Or.inl ⟨by rfl, ?hy12yx⟩) (by assumption) ?rest12yx
          case hy12yx => (intro w0 hSw; (try dsimp only at hSw); go_simp; try with_reducible rfl)
          try simp only [Act.put, List.setIfInBounds_toArray, List.set_cons_zero, List.set_cons_succ]
          refine wpAnyH_take (i := 13) (oi := Oper.mk (some 50) _ _ _ _ _) (v := ?v13yx) rfl (by kernel_rfl) (by kernel_rfl) (by kernel_rfl) (fun _ _ _ h => h) (Or.inl ⟨by rfl, ?hy13yx⟩) (by assumption) ?rest13yx
          case hy13yx => (intro w0 hSw; (try dsimp only at hSw); go_simp; try with_reducible rfl)
          try simp only [Act.put, List.setIfInBounds_toArray, List.set_cons_zero, List.set_cons_succ]
          refine wpAnyH_take (i := 14) (oi := Oper.mk (some 51) _ _ _ _ _) (v := ?v14yx) rfl (by kernel_rfl) (by kernel_rfl) (by kernel_rfl) (fun _ _ _ h => h) (Or.inl ⟨by rfl, ?hy14yx⟩) (by assumption) ?rest14yx
          case hy14yx => (intro w0 hSw; (try dsimp only at hSw); go_simp; try with_reducible rfl)
          try simp only [Act.put, List.setIfInBounds_toArray, List.set_cons_zero, List.set_cons_succ]
          refine wpAnyH_take (i := 15) (oi := Oper.mk (some 52) _ _ _ _ _) (v := ?v15yx) rfl (by kernel_rfl) (by kernel_rfl) (by kernel_rfl) (fun _ _ _ h => h) (Or.inl ⟨by rfl, ?hy15yx⟩) (by assumption) ?rest15yx
          case hy15yx => (intro w0 hSw; (try dsimp only at hSw); go_simp; try with_reducible rfl)
          try simp only [Act.put, List.setIfInBounds_toArray, List.set_cons_zero, List.set_cons_succ]
          refine wpAnyH_take (i := 16) (oi := Oper.mk (some 53) _ _ _ _ _) (v := ?v16yx) rfl (by kernel_rfl) (by kernel_rfl) (by kernel_rfl) (fun _ _ _ h => h) (Or.inl ⟨by rfl, ?hy16yx⟩) (by assumption) ?rest16yx
          case hy16yx => (intro w0 hSw; (try dsimp only at hSw); go_simp; try with_reducible rfl)
          try simp only [Act.put, List.setIfInBounds_toArray, List.set_cons_zero, List.set_cons_succ]
          refine wpAnyH_take (i := 17) (oi := Oper.mk (some 54) _ _ _ _ _) (v := ?v17yx) rfl (by kernel_rfl) (by kernel_rfl) (by kernel_rfl) (fun _ _ _ h => h) (Or.inl ⟨by rfl, ?hy17yx⟩) (by assumption) ?rest17yx
          case hy17yx => (intro w0 hSw; (try dsimp only at hSw); go_simp; try with_reducible rfl)
          try simp only [Act.put, List.setIfInBounds_toArray, List.set_cons_zero, List.set_cons_succ]
          refine wpAnyH_take (i := 18) (oi := Oper.mk (some 55) _ _ _ _ _) (v := ?v18yx) rfl (by kernel_rfl) (by kernel_rfl) (by kernel_rfl) (fun _ _ _ h => h) (Or.inl ⟨by rfl, ?hy18yx⟩) (by assumption) ?rest18yx
          case hy18yx => (intro w0 hSw; (try dsimp only at hSw); go_simp; try with_reducible rfl)
          try simp only [Act.put, List.setIfInBounds_toArray, List.set_cons_zero, List.set_cons_succ]
          refine wpAnyH_take (i := 19) (oi := Oper.mk (some 56) _ _ _ _ _) (v := ?v19yx) rfl (by kernel_rfl) (by kernel_rfl) (by kernel_rfl) (fun _ _ _ h => h) (Or.inl ⟨by rfl, ?hy19yx⟩) (by assumption) ?rest19yx
          case hy19yx => (intro w0 hSw; (try dsimp only at hSw); go_simp; try with_reducible rfl)
          try simp only [Act.put, List.setIfInBounds_toArray, List.set_cons_zero, List.set_cons_succ]
          refine wpAnyH_take (i := 20) (oi := Oper.mk (some 57) _ _ _ _ _) (v := ?v20yx) rfl (by kernel_rfl) (by kernel_rfl) (by kernel_rfl) (fun _ _ _ h => h) (Or.inl ⟨by rfl, ?hy20yx⟩) (by assumption) ?rest20yx
          case hy20yx => (intro w0 hSw; (try dsimp only at hSw); go_simp; try with_reducible rfl)
          try simp only [Act.put, List.setIfInBounds_toArray, List.set_cons_zero, List.set_cons_succ]
          refine wpAnyH_take (i := 21) (oi := Oper.mk (some 58) _ _ _ _ _) (v := ?v21yx) rfl (by kernel_rfl) (by kernel_rfl) (by kernel_rfl) (fun _ _ _ h => h) (Or.inl ⟨by rfl, ?hy21yx⟩) (by assumption) ?rest21yx
          case hy21yx => (intro w0 hSw; (try dsimp only at hSw); go_simp; try with_reducible rfl)
          try simp only [Act.put, List.setIfInBounds_toArray, List.set_cons_zero, List.set_cons_succ]
          refine wpAnyH_take (i := 22) (oi := Oper.mk (some 59) _ _ _ _ _) (v := ?v22yx) rfl (by kernel_rfl) (by kernel_rfl) (by kernel_rfl) (fun _ _ _ h => h) (Or.inl ⟨by rfl, ?hy22yx⟩) (by assumption) ?rest22yx
          case hy22yx => (intro w0 hSw; (try dsimp only at hSw); go_simp; try with_reducible rfl)
          try simp only [Act.put, List.setIfInBounds_toArray, List.set_cons_zero, List.set_cons_succ]
          refine wpAnyH_take (i := 23) (oi := Oper.mk (some 60) _ _ _ _ _) (v := ?v23yx) rfl (by kernel_rfl) (by kernel_rfl) (by kernel_rfl) (fun _ _ _ h => h) (Or.inl ⟨by rfl, ?hy23yx⟩) (by assumption) ?rest23yx
          case hy23yx => (intro w0 hSw; (try dsimp only at hSw); go_simp; try with_reducible rfl)
          try simp only [Act.put, List.setIfInBounds_toArray, List.set_cons_zero, List.set_cons_succ]
          refine wpAnyH_take (i := 24) (oi := Oper.mk (some 61) _ _ _ _ _) (v := ?v24yx) rfl (by kernel_rfl) (by kernel_rfl) (by kernel_rfl) (fun _ _ _ h => h) (Or.inl ⟨by rfl, ?hy24yx⟩) (by assumption) ?rest24yx
          case hy24yx => (intro w0 hSw; (try dsimp only at hSw); go_simp; try with_reducible rfl)
          try simp only [Act.put, List.setIfInBounds_toArray, List.set_cons_zero, List.set_cons_succ]
          refine wpAnyH_take (i := 25) (oi := Oper.mk (some 62) _ _ _ _ _) (v := ?v25yx) rfl (by kernel_rfl) (by kernel_rfl) (by kernel_rfl) (fun _ _ _ h => h) (Or.inl ⟨by rfl, ?hy25yx⟩) (by assumption) ?rest25yx
          case hy25yx => (intro w0 hSw; (try dsimp only at hSw); go_simp; try with_reducible rfl)
          try simp only [Act.put, List.setIfInBounds_toArray, List.set_cons_zero, List.set_cons_succ]
          refine wpAnyH_take (i := 26) (oi := Oper.mk (some 63) _ _ _ _ _) (v := undef) rfl (by kernel_rfl) (by kernel_rfl) (by kernel_rfl) (fun _ _ _ h => h) (Or.inr ⟨by rfl, rfl⟩) (by assumption) ?_
          try simp only [Act.put, List.setIfInBounds_toArray, List.set_cons_zero, List.set_cons_succ]
          refine wpAnyH_take (i := 27) (oi := Oper.mk (some 64) _ _ _ _ _) (v := undef) rfl (by kernel_rfl) (by kernel_rfl) (by kernel_rfl) (fun _ _ _ h => h) (Or.inr ⟨by rfl, rfl⟩) (by assumption) ?_
          try simp only [Act.put, List.setIfInBounds_toArray, List.set_cons_zero, List.set_cons_succ]
          refine wpAnyH_take (i := 28) (oi := Oper.mk (some 65) _ _ _ _ _) (v := undef) rfl (by kernel_rfl) (by kernel_rfl) (by kernel_rfl) (fun _ _ _ h => h) (Or.inr ⟨by rfl, rfl⟩) (by assumption) ?_
          try simp only [Act.put, List.setIfInBounds_toArray, List.set_cons_zero, List.set_cons_succ]
          refine wpAnyH_take (i := 29) (oi := Oper.mk (some 66) _ _ _ _ _) (v := undef) rfl (by kernel_rfl) (by kernel_rfl) (by kernel_rfl) (fun _ _ _ h => h) (Or.inr ⟨by rfl, rfl⟩) (by assumption) ?_
          try simp only [Act.put, List.setIfInBounds_toArray, List.set_cons_zero, List.set_cons_succ]
          refine wpAnyH_take (i := 30) (oi := Oper.mk (some 67) _ _ _ _ _) (v := undef) rfl (by kernel_rfl) (by kernel_rfl) (by kernel_rfl) (fun _ _ _ h => h) (Or.inr ⟨by rfl, rfl⟩) (by assumption) ?_
          try simp only [Act.put, List.setIfInBounds_toArray, List.set_cons_zero, List.set_cons_succ]
          refine wpAnyH_take (i := 31) (oi := Oper.mk (some 68) _ _ _ _ _) (v := ?v31yx) rfl (by kernel_rfl) (by kernel_rfl) (by kernel_rfl) (fun _ _ _ h => h) (Or.inl ⟨by rfl, ?hy31yx⟩) (by assumption) ?rest31yx
          case hy31yx => (intro w0 hSw; (try dsimp only at hSw); go_simp; try with_reducible rfl)
          try simp only [Act.put, List.setIfInBounds_toArray, List.set_cons_zero, List.set_cons_succ]
          refine wpAnyH_take (i := 32) (oi := Oper.mk (some 69) _ _ _ _ _) (v := ?v32yx) rfl (by kernel_rfl) (by kernel_rfl) (by kernel_rfl) (fun _ _ _ h => h) (Or.inl ⟨by rfl, ?hy32yx⟩) (by assumption) ?rest32yx
          case hy32yx => (intro w0 hSw; (try dsimp only at hSw); go_simp; try with_reducible rfl)
          try simp only [Act.put, List.setIfInBounds_toArray, List.set_cons_zero, List.set_cons_succ]
          refine wpAnyH_take (i := 33) (oi := Oper.mk (some 8) _ _ _ _ _) (v := ?v33yx) rfl (by kernel_rfl) (by kernel_rfl) (by kernel_rfl) (fun _ _ _ h => h) (Or.inl ⟨by rfl, ?hy33yx⟩) (by assumption) ?rest33yx
          case hy33yx => (intro w0 hSw; (try dsimp only at hSw); go_simp; try with_reducible rfl)
          try simp only [Act.put, List.setIfInBounds_toArray, List.set_cons_zero, List.set_cons_succ]
          refine wpAnyH_done (by kernel_rfl) ?_ _
          refine NoPanic.normal ?_
          go_wp2_with fail
          go_ret
          exact ⟨by simp, HE.out _ (HK.out.trans HT3.out)⟩
        · have hf : F (n : Nat) ≤ 4294967296 := hn2.resolve_left hz
          have hz2 : ((n : Int) == 0) = false := by simpa using hz
          clear hn2 hz
          go_region_held3 (fun w' => w'.cell? ⟨w.heap.size, 0, none⟩ = some (.slice m.aL m.lL m.cL) ∧ w'.cell? ⟨w.heap.size, 1, none⟩ = some (.slice m.aS m.lS m.cS) ∧ w'.cell? ⟨w.heap.size, 2, none⟩ = some (.slice m.aD m.lD m.cD) ∧ w'.cell? ⟨w.heap.size, 3, none⟩ = some (.int .i64 m.idle) ∧ w'.cell? ⟨w.heap.size, 4, none⟩ = some (.int .i64 m.crit) ∧ w'.cell? ⟨w.heap.size, 5, none⟩ = some (.int .i64 m.sw) ∧ w'.cell? ⟨w.heap.size, 6, none⟩ = some (.int .i64 m.swe) ∧ w'.cell? ⟨w.heap.size, 7, none⟩ = some (.int .i64 m.sems) ∧ w'.cell? ⟨w.heap.size, 8, none⟩ = some (.int .i64 m.hor)) (go_keep) (first
            | (go_at_call 6; refine (aanswers_any _).mono ?_; rintro e w3 ⟨rfl, k3⟩; have KC : Kp W0 w3 := HK3.out.trans (by first | exact (tkp_drew _).trans k3 | exact k3); clear k3; obtain ⟨z0, z1, z2, z3, z4, z5, z6, z7, z8⟩ := (HP.out _ KC).all)
            | (go_at_call 8; refine (HQ.out _ _ (HK.out.trans KC)).mono ?_; rintro e w4 ⟨rfl, k4⟩; have KC := KC.trans k4; clear k4; obtain ⟨z0, z1, z2, z3, z4, z5, z6, z7, z8⟩ := (HP.out _ KC).all)
            | fail)
          all_goals
            go_wp2
            go_ret
            exact ⟨by simp, HE.out _ (HK.out.trans KC)⟩
      · have g' : ¬ (y : Int) < (x : Int) := by omega
        go_wp2_with fail
        refine (HS.out _ (HK.out.trans HK2.out)).mono ?_
        rintro e w2 ⟨rfl, k2⟩
        have HK3 : Hid (Kp W0 w2) := HK2.out.trans k2
        clear k2 p0 p1 p2 p3 p4 p5 p6 p7 p8 HS
        obtain ⟨p0, p1, p2, p3, p4, p5, p6, p7, p8⟩ := (HP.out _ HK3.out).all
        have hle : F (x : Nat) ≤ F (y : Nat) := HR.out x y (by omega) (by omega)
        obtain ⟨hn1, hn2⟩ := HN.out
        have hn0 : (0 : Int) ≤ (n : Int) := by omega
        clear HR HN
        go_wp2_with fail
        by_cases hz : n = 0
        · subst hz
          have hc0 : 0 ≤ m.crit := by omega
          clear hn1 hn2 hn0
          refine wp_region_noPanic ?_
          refine wp_region_held_drew (S := fun w' => w'.cell? ⟨w.heap.size, 0, none⟩ = some (.slice m.aL m.lL m.cL) ∧ w'.cell? ⟨w.heap.size, 1, none⟩ = some (.slice m.aS m.lS m.cS) ∧ w'.cell? ⟨w.heap.size, 2, none⟩ = some (.slice m.aD m.lD m.cD) ∧ w'.cell? ⟨w.heap.size, 3, none⟩ = some (.int .i64 m.idle) ∧ w'.cell? ⟨w.heap.size, 4, none⟩ = some (.int .i64 m.crit) ∧ w'.cell? ⟨w.heap.size, 5, none⟩ = some (.int .i64 m.sw) ∧ w'.cell? ⟨w.heap.size, 6, none⟩ = some (.int .i64 m.swe) ∧ w'.cell? ⟨w.heap.size, 7, none⟩ = some (.int .i64 m.sems) ∧ w'.cell? ⟨w.heap.size, 8, none⟩ = some (.int .i64 m.hor)) (by kernel_rfl) ?_ (fun hHeld => ?_)
          · exact (HP.out _ (HK3.out.trans (tkp_drew _))).all
          obtain ⟨U, HU⟩ : ∃ U, Hid (U = w2.drew) := ⟨_, rfl⟩
          have HT0 : Hid (Kp W0 U) := by show Kp _ _; rw [HU.out]; exact HK3.out.trans (tkp_drew _)
          rw [← HU.out]
          clear HU p0 p1 p2 p3 p4 p5 p6 p7 p8
          have hHeld0 := (HP.out _ HT0.out).all
          refine wpAnyH_ready (rs := [0]) (by kernel_rfl) (by simp) ?_
          refine AllReadyH.cons (o := Oper.mk (some 37) _ _ _ _ _) rfl (fun K hK => ?_) AllReadyH.nil
          go_simp
          refine (aanswers_any _).mono ?_
          rintro e u1 ⟨rfl, k1⟩
          have HT1 : Hid (Kp W0 u1) := HT0.out.trans k1
          clear k1
          go_wp2_with fail
          refine hK.out _ _ ?_ (fun hHeld => ?_)
          · exact (HP.out _ HT1.out).all
          clear hK K
          try simp only [Act.put, List.setIfInBounds_toArray, List.set_cons_zero, List.set_cons_succ]
          refine wpAnyH_take (i := 1) (oi := Oper.mk (some 38) _ _ _ _ _) (v := ?v1xy) rfl (by kernel_rfl) (by kernel_rfl) (by kernel_rfl) (fun _ _ _ h => h) (Or.inl ⟨by rfl, ?hy1xy⟩) (by assumption) ?rest1xy
          case hy1xy => (intro w0 hSw; (try dsimp only at hSw); go_simp; try with_reducible rfl)
          try simp only [Act.put, List.setIfInBounds_toArray, List.set_cons_zero, List.set_cons_succ]
          refine wpAnyH_take (i := 2) (oi := Oper.mk (some 39) _ _ _ _ _) (v := ?v2xy) rfl (by kernel_rfl) (by kernel_rfl) (by kernel_rfl) (fun _ _ _ h => h) (Or.inl ⟨by rfl, ?hy2xy⟩) (by assumption) ?rest2xy
          case hy2xy => (intro w0 hSw; (try dsimp only at hSw); go_simp; try with_reducible rfl)
          try simp only [Act.put, List.setIfInBounds_toArray, List.set_cons_zero, List.set_cons_succ]
          refine wpAnyH_take (i := 3) (oi := Oper.mk (some 40) _ _ _ _ _) (v := ?v3xy) rfl (by kernel_rfl) (by kernel_rfl) (by kernel_rfl) (fun _ _ _ h => h) (Or.inl ⟨by rfl, ?hy3xy⟩) (by assumption) ?rest3xy
          case hy3xy => (intro w0 hSw; (try dsimp only at hSw); go_simp; try with_reducible rfl)
          try simp only [Act.put, List.setIfInBounds_toArray, List.set_cons_zero, List.set_cons_succ]
          refine wpAnyH_take (i := 4) (oi := Oper.mk (some 41) _ _ _ _ _) (v := ?v4xy) rfl (by kernel_rfl) (by kernel_rfl) (by kernel_rfl) (fun _ _ _ h => h) (Or.inl ⟨by rfl, ?hy4xy⟩) (by assumption) ?rest4xy
          case hy4xy => (intro w0 hSw; (try dsimp only at hSw); go_simp; try with_reducible rfl)
          try simp only [Act.put, List.setIfInBounds_toArray, List.set_cons_zero, List.set_cons_succ]
          refine wpAnyH_take (i := 6) (oi := Oper.mk (some 43) _ _ _ _ _) (v := ?v6xy) rfl (by kernel_rfl) (by kernel_rfl) (by kernel_rfl) (fun _ _ _ h => h) (Or.inl ⟨by rfl, ?hy6xy⟩) (by assumption) ?rest6xy
          case hy6xy => (intro w0 hSw; (try dsimp only at hSw); go_simp; try with_reducible rfl)
          try simp only [Act.put, List.setIfInBounds_toArray, List.set_cons_zero, List.set_cons_succ]
          refine wpAnyH_take (i := 7) (oi := Oper.mk (some 44) _ _ _ _ _) (v := ?v7xy) rfl (by kernel_rfl) (by kernel_rfl) (by kernel_rfl) (fun _ _ _ h => h) (Or.inl ⟨by rfl, ?hy7xy⟩) (by assumption) ?rest7xy
          case hy7xy => (intro w0 hSw; (try dsimp only at hSw); go_simp; try with_reducible rfl)
          try simp only [Act.put, List.setIfInBounds_toArray, List.set_cons_zero, List.set_cons_succ]
          refine wpAnyH_take (i := 8) (oi := Oper.mk (some 45) _ _ _ _ _) (v := ?v8xy) rfl (by kernel_rfl) (by kernel_rfl) (by kernel_rfl) (fun _ _ _ h => h) (Or.inl ⟨by rfl, ?hy8xy⟩) (by assumption) ?rest8xy
          case hy8xy => (intro w0 hSw; (try dsimp only at hSw); go_simp; try with_reducible rfl)
          try simp only [Act.put, List.setIfInBounds_toArray, List.set_cons_zero, List.set_cons_succ]
          refine wpAnyH_ready (rs := [5]) (by kernel_rfl) (by simp) ?_
          refine AllReadyH.cons (o := Oper.mk (some 42) _ _ _ _ _) rfl (fun K hK => ?_) AllReadyH.nil
          go_simp
          refine (HQ.out _ _ (HK.out.trans HT1.out)).mono ?_
          rintro e u2 ⟨rfl, k2⟩
          have HT2 : Hid (Kp W0 u2) := HT1.out.trans k2
          clear k2
          go_wp2_with fail
          refine hK.out _ _ ?_ (fun hHeld => ?_)
          · exact (HP.out _ HT2.out).all
          clear hK K
          try simp only [Act.put, List.setIfInBounds_toArray, List.set_cons_zero, List.set_cons_succ]
          refine wpAnyH_ready (rs := [9]) (by kernel_rfl) (by simp) ?_
          refine AllReadyH.cons (o := Oper.mk (some 46) _ _ _ _ _) rfl (fun K hK => ?_) AllReadyH.nil
          go_simp
          refine (HQ.out _ _ (HK.out.trans HT2.out)).mono ?_
          rintro e u3 ⟨rfl, k3⟩
          have HT3 : Hid (Kp W0 u3) := HT2.out.trans k3
          clear k3
          go_wp2_with fail
          refine hK.out _ _ ?_ (fun hHeld => ?_)
          · exact (HP.out _ HT3.out).all
          clear hK K
          try simp only [Act.put, List.setIfInBounds_toArray, List.set_cons_zero, List.set_cons_succ]
          refine wpAnyH_take (i := 10) (oi := Oper.mk (some 47) _ _ _ _ _) (v := ?v10xy) rfl (by kernel_rfl) (by kernel_rfl) (by kernel_rfl) (fun _ _ _ h => h) (Or.inl ⟨by rfl, ?hy10xy⟩) (by assumption) ?rest10xy
          case hy10xy => (intro w0 hSw; (try dsimp only at hSw); go_simp; try with_reducible rfl)
          try simp only [Act.put, List.setIfInBounds_toArray, List.set_cons_zero, List.set_cons_succ]
          refine wpAnyH_take (i := 11) (oi := Oper.mk (some 48) _ _ _ _ _) (v := ?v11xy) rfl (by kernel_rfl) (by kernel_rfl) (by kernel_rfl) (fun _ _ _ h => h) (Or.inl ⟨by rfl, ?hy11xy⟩) (by assumption) ?rest11xy
          case hy11xy => (intro w0 hSw; (try dsimp only at hSw); go_simp; try with_reducible rfl)
          try simp only [Act.put, List.setIfInBounds_toArray, List.set_cons_zero, List.set_cons_succ]
          refine wpAnyH_take (i := 12) (oi := Oper.mk (some 49) _ _ _ _ _) (v := ?v12xy) rfl (by kernel_rfl) (by kernel_rfl) (by kernel_rfl) (fun _ _ _ h => h) (Or.inl ⟨by rfl, ?hy12xy⟩) (by assumption) ?rest12xy
          case hy12xy => (intro w0 hSw; (try dsimp only at hSw); go_simp; try with_reducible rfl)
          try simp only [Act.put, List.setIfInBounds_toArray, List.set_cons_zero, List.set_cons_succ]
          refine wpAnyH_take (i := 13) (oi := Oper.mk (some 50) _ _ _ _ _) (v := ?v13xy) rfl (by kernel_rfl) (by kernel_rfl) (by kernel_rfl) (fun _ _ _ h => h) (Or.inl ⟨by rfl, ?hy13xy⟩) (by assumption) ?rest13xy
          case hy13xy => (intro w0 hSw; (try dsimp only at hSw); go_simp; try with_reducible rfl)
          try simp only [Act.put, List.setIfInBounds_toArray, List.set_cons_zero, List.set_cons_succ]
          refine wpAnyH_take (i := 14) (oi := Oper.mk (some 51) _ _ _ _ _) (v := ?v14xy) rfl (by kernel_rfl) (by kernel_rfl) (by kernel_rfl) (fun _ _ _ h => h) (Or.inl ⟨by rfl, ?hy14xy⟩) (by assumption) ?rest14xy
          case hy14xy => (intro w0 hSw; (try dsimp only at hSw); go_simp; try with_reducible rfl)
          try simp only [Act.put, List.setIfInBounds_toArray, List.set_cons_zero, List.set_cons_succ]
          refine wpAnyH_take (i := 15) (oi := Oper.mk (some 52) _ _ _ _ _) (v := ?v15xy) rfl (by kernel_rfl) (by kernel_rfl) (by kernel_rfl) (fun _ _ _ h => h) (Or.inl ⟨by rfl, ?hy15xy⟩) (by assumption) ?rest15xy
          case hy15xy => (intro w0 hSw; (try dsimp only at hSw); go_simp; try with_reducible rfl)
          try simp only [Act.put, List.setIfInBounds_toArray, List.set_cons_zero, List.set_cons_succ]
          refine wpAnyH_take (i := 16) (oi := Oper.mk (some 53) _ _ _ _ _) (v := ?v16xy) rfl (by kernel_rfl) (by kernel_rfl) (by kernel_rfl) (fun _ _ _ h => h) (Or.inl ⟨by rfl, ?hy16xy⟩) (by assumption) ?rest16xy
          case hy16xy => (intro w0 hSw; (try dsimp only at hSw); go_simp; try with_reducible rfl)
          try simp only [Act.put, List.setIfInBounds_toArray, List.set_cons_zero, List.set_cons_succ]
          refine wpAnyH_take (i := 17) (oi := Oper.mk (some 54) _ _ _ _ _) (v := ?v17xy) rfl (by kernel_rfl) (by kernel_rfl) (by kernel_rfl) (fun _ _ _ h => h) (Or.inl ⟨by rfl, ?hy17xy⟩) (by assumption) ?rest17xy
          case hy17xy => (intro w0 hSw; (try dsimp only at hSw); go_simp; try with_reducible rfl)
          try simp only [Act.put, List.setIfInBounds_toArray, List.set_cons_zero, List.set_cons_succ]
          refine wpAnyH_take (i := 18) (oi := Oper.mk (some 55) _ _ _ _ _) (v := ?v18xy) rfl (by kernel_rfl) (by kernel_rfl) (by kernel_rfl) (fun _ _ _ h => h) (Or.inl ⟨by rfl, ?hy18xy⟩) (by assumption) ?rest18xy
          case hy18xy => (intro w0 hSw; (try dsimp only at hSw); go_simp; try with_reducible rfl)
          try simp only [Act.put, List.setIfInBounds_toArray, List.set_cons_zero, List.set_cons_succ]
          refine wpAnyH_take (i := 19) (oi := Oper.mk (some 56) _ _ _ _ _) (v := ?v19xy) rfl (by kernel_rfl) (by kernel_rfl) (by kernel_rfl) (fun _ _ _ h => h) (Or.inl ⟨by rfl, ?hy19xy⟩) (by assumption) ?rest19xy
          case hy19xy => (intro w0 hSw; (try dsimp only at hSw); go_simp; try with_reducible rfl)
          try simp only [Act.put, List.setIfInBounds_toArray, List.set_cons_zero, List.set_cons_succ]
          refine wpAnyH_take (i := 20) (oi := Oper.mk (some 57) _ _ _ _ _) (v := ?v20xy) rfl (by kernel_rfl) (by kernel_rfl) (by kernel_rfl) (fun _ _ _ h => h) (Or.inl ⟨by rfl, ?hy20xy⟩) (by assumption) ?rest20xy
          case hy20xy => (intro w0 hSw; (try dsimp only at hSw); go_simp; try with_reducible rfl)
          try simp only [Act.put, List.setIfInBounds_toArray, List.set_cons_zero, List.set_cons_succ]
          refine wpAnyH_take (i := 21) (oi := Oper.mk (some 58) _ _ _ _ _) (v := ?v21xy) rfl (by kernel_rfl) (by kernel_rfl) (by kernel_rfl) (fun _ _ _ h => h) (Or.inl ⟨by rfl, ?hy21xy⟩) (by assumption) ?rest21xy
          case hy21xy => (intro w0 hSw; (try dsimp only at hSw); go_simp; try with_reducible rfl)
          try simp only [Act.put, List.setIfInBounds_toArray, List.set_cons_zero, List.set_cons_succ]
          refine wpAnyH_take (i := 22) (oi := Oper.mk (some 59) _ _ _ _ _) (v := ?v22xy) rfl (by kernel_rfl) (by kernel_rfl) (by kernel_rfl) (fun _ _ _ h => h) (Or.inl ⟨by rfl, ?hy22xy⟩) (by assumption) ?rest22xy
          case hy22xy => (intro w0 hSw; (try dsimp only at hSw); go_simp; try with_reducible rfl)
          try simp only [Act.put, List.setIfInBounds_toArray, List.set_cons_zero, List.set_cons_succ]
          refine wpAnyH_take (i := 23) (oi := Oper.mk (some 60) _ _ _ _ _) (v := ?v23xy) rfl (by kernel_rfl) (by kernel_rfl) (by kernel_rfl) (fun _ _ _ h => h) (Or.inl ⟨by rfl, ?hy23xy⟩) (by assumption) ?rest23xy
          case hy23xy => (intro w0 hSw; (try dsimp only at hSw); go_simp; try with_reducible rfl)
          try simp only [Act.put, List.setIfInBounds_toArray, List.set_cons_zero, List.set_cons_succ]
          refine wpAnyH_take (i := 24) (oi := Oper.mk (some 61) _ _ _ _ _) (v := ?v24xy) rfl (by kernel_rfl) (by kernel_rfl) (by kernel_rfl) (fun _ _ _ h => h) (Or.inl ⟨by rfl, ?hy24xy⟩) (by assumption) ?rest24xy
          case hy24xy => (intro w0 hSw; (try dsimp only at hSw); go_simp; try with_reducible rfl)
          try simp only [Act.put, List.setIfInBounds_toArray, List.set_cons_zero, List.set_cons_succ]
          refine wpAnyH_take (i := 25) (oi := Oper.mk (some 62) _ _ _ _ _) (v := ?v25xy) rfl (by kernel_rfl) (by kernel_rfl) (by kernel_rfl) (fun _ _ _ h => h) (Or.inl ⟨by rfl, ?hy25xy⟩) (by assumption) ?rest25xy
          case hy25xy => (intro w0 hSw; (try dsimp only at hSw); go_simp; try with_reducible rfl)
          try simp only [Act.put, List.setIfInBounds_toArray, List.set_cons_zero, List.set_cons_succ]
          refine wpAnyH_take (i := 26) (oi := Oper.mk (some 63) _ _ _ _ _) (v := undef) rfl (by kernel_rfl) (by kernel_rfl) (by kernel_rfl) (fun _ _ _ h => h) (Or.inr ⟨by rfl, rfl⟩) (by assumption) ?_
          try simp only [Act.put, List.setIfInBounds_toArray, List.set_cons_zero, List.set_cons_succ]
          refine wpAnyH_take (i := 27) (oi := Oper.mk (some 64) _ _ _ _ _) (v := undef) rfl (by kernel_rfl) (by kernel_rfl) (by kernel_rfl) (fun _ _ _ h => h) (Or.inr ⟨by rfl, rfl⟩) (by assumption) ?_
          try simp only [Act.put, List.setIfInBounds_toArray, List.set_cons_zero, List.set_cons_succ]
          refine wpAnyH_take (i := 28) (oi := Oper.mk (some 65) _ _ _ _ _) (v := undef) rfl (by kernel_rfl) (by kernel_rfl) (by kernel_rfl) (fun _ _ _ h => h) (Or.inr ⟨by rfl, rfl⟩) (by assumption) ?_
          try simp only [Act.put, List.setIfInBounds_toArray, List.set_cons_zero, List.set_cons_succ]
          refine wpAnyH_take (i := 29) (oi := Oper.mk (some 66) _ _ _ _ _) (v := undef) rfl (by kernel_rfl) (by kernel_rfl) (by kernel_rfl) (fun _ _ _ h => h) (Or.inr ⟨by rfl, rfl⟩) (by assumption) ?_
          try simp only [Act.put, List.setIfInBounds_toArray, List.set_cons_zero, List.set_cons_succ]
          refine wpAnyH_take (i := 30) (oi := Oper.mk (some 67) _ _ _ _ _) (v := undef) rfl (by kernel_rfl) (by kernel_rfl) (by kernel_rfl) (fun _ _ _ h => h) (Or.inr ⟨by rfl, rfl⟩) (by assumption) ?_
          try simp only [Act.put, List.setIfInBounds_toArray, List.set_cons_zero, List.set_cons_succ]
          refine wpAnyH_take (i := 31) (oi := Oper.mk (some 68) _ _ _ _ _) (v := ?v31xy) rfl (by kernel_rfl) (by kernel_rfl) (by kernel_rfl) (fun _ _ _ h => h) (Or.inl ⟨by rfl, ?hy31xy⟩) (by assumption) ?rest31xy
          case hy31xy => (intro w0 hSw; (try dsimp only at hSw); go_simp; try with_reducible rfl)
          try simp only [Act.put, List.setIfInBounds_toArray, List.set_cons_zero, List.set_cons_succ]
          refine wpAnyH_take (i := 32) (oi := Oper.mk (some 69) _ _ _ _ _) (v := ?v32xy) rfl (by kernel_rfl) (by kernel_rfl) (by kernel_rfl) (fun _ _ _ h => h) (Or.inl ⟨by rfl, ?hy32xy⟩) (by assumption) ?rest32xy
          case hy32xy => (intro w0 hSw; (try dsimp only at hSw); go_simp; try with_reducible rfl)
          try simp only [Act.put, List.setIfInBounds_toArray, List.set_cons_zero, List.set_cons_succ]
          refine wpAnyH_take (i := 33) (oi := Oper.mk (some 8) _ _ _ _ _) (v := ?v33xy) rfl (by kernel_rfl) (by kernel_rfl) (by kernel_rfl) (fun _ _ _ h => h) (Or.inl ⟨by rfl, ?hy33xy⟩) (by assumption) ?rest33xy
          case hy33xy => (intro w0 hSw; (try dsimp only at hSw); go_simp; try with_reducible rfl)
          try simp only [Act.put, List.setIfInBounds_toArray, List.set_cons_zero, List.set_cons_succ]
          refine wpAnyH_done (by kernel_rfl) ?_ _
          refine NoPanic.normal ?_
          go_wp2_with fail
          go_ret
          exact ⟨by simp, HE.out _ (HK.out.trans HT3.out)⟩
        · have hf : F (n : Nat) ≤ 4294967296 := hn2.resolve_left hz
          have hz2 : ((n : Int) == 0) = false := by simpa using hz
          clear hn2 hz
          go_region_held3 (fun w' => w'.cell? ⟨w.heap.size, 0, none⟩ = some (.slice m.aL m.lL m.cL) ∧ w'.cell? ⟨w.heap.size, 1, none⟩ = some (.slice m.aS m.lS m.cS) ∧ w'.cell? ⟨w.heap.size, 2, none⟩ = some (.slice m.aD m.lD m.cD) ∧ w'.cell? ⟨w.heap.size, 3, none⟩ = some (.int .i64 m.idle) ∧ w'.cell? ⟨w.heap.size, 4, none⟩ = some (.int .i64 m.crit) ∧ w'.cell? ⟨w.heap.size, 5, none⟩ = some (.int .i64 m.sw) ∧ w'.cell? ⟨w.heap.size, 6, none⟩ = some (.int .i64 m.swe) ∧ w'.cell? ⟨w.heap.size, 7, none⟩ = some (.int .i64 m.sems) ∧ w'.cell? ⟨w.heap.size, 8, none⟩ = some (.int .i64 m.hor)) (go_keep) (first
            | (go_at_call 6; refine (aanswers_any _).mono ?_; rintro e w3 ⟨rfl, k3⟩; have KC : Kp W0 w3 := HK3.out.trans (by first | exact (tkp_drew _).trans k3 | exact k3); clear k3; obtain ⟨z0, z1, z2, z3, z4, z5, z6, z7, z8⟩ := (HP.out _ KC).all)
            | (go_at_call 8; refine (HQ.out _ _ (HK.out.trans KC)).mono ?_; rintro e w4 ⟨rfl, k4⟩; have KC := KC.trans k4; clear k4; obtain ⟨z0, z1, z2, z3, z4, z5, z6, z7, z8⟩ := (HP.out _ KC).all)
            | fail)
          all_goals
            go_wp2
            go_ret
            exact ⟨by simp, HE.out _ (HK.out.trans KC)⟩

theorem admitSlower_walk (aL : Option Addr) (lL cL : Nat) (rL : List (List Int)) (aS : Option Addr) (lS cS : Nat) (rS : List (List Int)) (aD : Option Addr) (lD cD : Nat) (rD : List (List Int)) (idle crit sw swe sems hor : Int) (ao : Option Addr) (len cap : Nat) (L : List Tk) (a b : Int) (w : World)
    (hm : Mach w aL lL rL aS lS rS aD lD rD) (h : LAt w ao len L) (_ : len * 64 ≤ 140737488351232) (ha : (Lit.int .u8 a).wf = true) (hb : (Lit.int .u8 b).wf = true) :
    Calls Try.prog 3 #[pv aL lL cL aS lS cS aD lD cD idle crit sw swe sems hor, .slice ao len cap, .int .u8 a, .int .u8 b] w fun e w' => e = .returned (.bool true) ∧ Below w.heap.size w w' :=
  admitSlower_go ⟨aL, lL, cL, rL, aS, lS, cS, rS, aD, lD, cD, rD, idle, crit, sw, swe, sems, hor⟩ ao len cap L a b w hm h ha hb

end Go.Proofs.Ytgecandbbmljbab.AD
