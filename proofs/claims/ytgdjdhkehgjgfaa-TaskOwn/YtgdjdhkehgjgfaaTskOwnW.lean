/- A task in memory of its own is the same, and stays so when the other one turns. -/
import Derived.Test.YtgdjdhkehgjgfaaTskOwnP
import Derived.Deep.CutRange
namespace Go.Proofs.Ytgdjdhkehgjgfaa.TK
open Go.ChangeShapes Go.WideShapes Go.ChangeAt Go.RowKit Go.Proofs.Ytgdjdhkehgjgfaa.AR Go.Proofs.Ytgdjdhkehgjgfaa.TB

set_option maxHeartbeats 16000000 in
theorem taskOwn_walk (t : Tk) (w : World) (h : TAt w t) :
    Calls Try.prog 5 #[t.v] w fun e w' => e = .returned (.bool true) ∧ Below w.heap.size w w' := by
  have HE : Hid (∀ w', Kp w w' → Below w.heap.size w w') := fun w' q => q
  have HO : Hid (∀ W, Kp w W → Calls Try.prog 16 #[t.v] W (Owned W t)) := fun W k => own_any t W (h.kept k)
  obtain ⟨W0, HW⟩ : ∃ W0, Hid (W0 = w.alloc (.cells #[.int .i64 t.p, .int .i64 t.c, .slice t.sa t.sl t.sc, .slice t.da t.dl t.dc] 29)) := ⟨_, rfl⟩
  have K0 : Kp w W0 := by rw [HW.out]; exact (Kp.refl _).alloc _
  have X : TB4 W0 w.heap.size t := by rw [HW.out]; exact b4_new (Kp.refl _)
  unfold Tk.v at *
  go_enter Try.func5, Try.ntmps5
  go_upto_region 1 with fail
  rw [← HW.out]
  clear HW
  go_cut [3, 4] from 7 to 10 (fun a b wx => Own2R w wx t a b)
  case first =>
    refine wp_region_noPanic ?_
    refine wp_region_held_drew (S := fun w' => w'.cell? ⟨w.heap.size, 0, none⟩ = some (.int .i64 t.p) ∧ w'.cell? ⟨w.heap.size, 1, none⟩ = some (.int .i64 t.c) ∧ w'.cell? ⟨w.heap.size, 2, none⟩ = some (.slice t.sa t.sl t.sc) ∧ w'.cell? ⟨w.heap.size, 3, none⟩ = some (.slice t.da t.dl t.dc)) (by kernel_rfl) ?_ (fun hHeld => ?_)
    · exact X.all
    obtain ⟨V0, HV0⟩ : ∃ V0, Hid (V0 = W0.drew) := ⟨_, rfl⟩
    have KW0 : Kp w V0 := by rw [HV0.out]; exact K0.trans (tkp_drew _)
    have X0 : TB4 V0 w.heap.size t := by rw [HV0.out]; exact X.kp (tkp_drew _)
    have hlt0 : w.heap.size < V0.heap.size := X0.lt
    rw [← HV0.out]
    clear HV0
    have hHeld0 := X0.all
    refine wpAnyH_take (i := 0) (oi := Oper.mk (some 7) _ _ _ _ _) (v := ?v0A) rfl (by kernel_rfl) (by kernel_rfl) (by kernel_rfl) (fun _ _ _ h => h) (Or.inl ⟨by rfl, ?hy0A⟩) (by assumption) ?rest0A
    case hy0A => (intro w0 hSw; (try dsimp only at hSw); go_simp; try with_reducible rfl)
    try simp only [Act.put, List.setIfInBounds_toArray, List.set_cons_zero, List.set_cons_succ]
    refine wpAnyH_take (i := 2) (oi := Oper.mk (some 9) _ _ _ _ _) (v := ?v2A) rfl (by kernel_rfl) (by kernel_rfl) (by kernel_rfl) (fun _ _ _ h => h) (Or.inl ⟨by rfl, ?hy2A⟩) (by assumption) ?rest2A
    case hy2A => (intro w0 hSw; (try dsimp only at hSw); go_simp; try with_reducible rfl)
    try simp only [Act.put, List.setIfInBounds_toArray, List.set_cons_zero, List.set_cons_succ]
    refine wpAnyH_ready (rs := [1, 4, 5]) (by kernel_rfl) (by simp) ?_
    refine AllReadyH.cons (o := Oper.mk (some 8) _ _ _ _ _) rfl (fun K hK => ?_) (AllReadyH.cons (o := Oper.mk (some 3) _ _ _ _ _) rfl (fun K hK => ?_) (AllReadyH.cons (o := Oper.mk (some 4) _ _ _ _ _) rfl (fun K hK => ?_) AllReadyH.nil))
    · go_simp
      refine (HO.out _ (KW0.trans (Kp.refl _))).mono ?_
      rintro e V1 ⟨sa, da, rfl, rS1, rD1, ap1, KV1⟩
      go_wp2_with fail
      refine hK.out _ _ ?_ (fun hHeld => ?_)
      · exact (X0.kp KV1).all
      clear hK K
      try simp only [Act.put, List.setIfInBounds_toArray, List.set_cons_zero, List.set_cons_succ]
      refine wpAnyH_ready (rs := [3, 4, 5]) (by kernel_rfl) (by simp) ?_
      refine AllReadyH.cons (o := Oper.mk (some 10) _ _ _ _ _) rfl (fun K hK => ?_) (AllReadyH.cons (o := Oper.mk (some 3) _ _ _ _ _) rfl (fun K hK => ?_) (AllReadyH.cons (o := Oper.mk (some 4) _ _ _ _ _) rfl (fun K hK => ?_) AllReadyH.nil))
      · go_simp
        refine (HO.out _ (KW0.trans KV1)).mono ?_
        rintro e V2 ⟨sb, db, rfl, rS2, rD2, ap2, KV2⟩
        go_wp2_with fail
        refine hK.out _ _ ?_ (fun hHeld => ?_)
        · exact (X0.kp (KV1.trans KV2)).all
        clear hK K
        try simp only [Act.put, List.setIfInBounds_toArray, List.set_cons_zero, List.set_cons_succ]
        refine wpAnyH_ready (rs := [4, 5]) (by kernel_rfl) (by simp) ?_
        refine AllReadyH.cons (o := Oper.mk (some 3) _ _ _ _ _) rfl (fun K hK => ?_) (AllReadyH.cons (o := Oper.mk (some 4) _ _ _ _ _) rfl (fun K hK => ?_) AllReadyH.nil)
        · go_simp
          go_wp2_with fail
          obtain ⟨V3, HV3⟩ : ∃ V3, Hid (V3 = V2.alloc (.cells #[.int .i64 0, .int .i64 0, .slice none 0 0, .slice none 0 0] 29)) := ⟨_, rfl⟩
          have KV3 : Kp V2 V3 := by rw [HV3.out]; exact (Kp.refl _).alloc _
          have U : B4 V3 V2.heap.size (.int .i64 0) (.int .i64 0) (.slice none 0 0) (.slice none 0 0) := by rw [HV3.out]; exact b4_new (Kp.refl _)
          rw [← HV3.out]
          clear HV3
          refine hK.out _ _ ?_ (fun hHeld => ?_)
          · exact (X0.kp ((KV1.trans KV2).trans KV3)).all
          clear hK K
          try simp only [Act.put, List.setIfInBounds_toArray, List.set_cons_zero, List.set_cons_succ]
          refine wpAnyH_ready (rs := [5]) (by kernel_rfl) (by simp) ?_
          refine AllReadyH.cons (o := Oper.mk (some 4) _ _ _ _ _) rfl (fun K hK => ?_) AllReadyH.nil
          go_simp
          go_wp2_with fail
          obtain ⟨V4, HV4⟩ : ∃ V4, Hid (V4 = V3.alloc (.cells #[.int .i64 0, .int .i64 0, .slice none 0 0, .slice none 0 0] 29)) := ⟨_, rfl⟩
          have KV4 : Kp V3 V4 := by rw [HV4.out]; exact (Kp.refl _).alloc _
          have G : B4 V4 V3.heap.size (.int .i64 0) (.int .i64 0) (.slice none 0 0) (.slice none 0 0) := by rw [HV4.out]; exact b4_new (Kp.refl _)
          rw [← HV4.out]
          clear HV4
          refine hK.out _ _ ?_ (fun hHeld => ?_)
          · exact (X0.kp (((KV1.trans KV2).trans KV3).trans KV4)).all
          clear hK K
          try simp only [Act.put, List.setIfInBounds_toArray, List.set_cons_zero, List.set_cons_succ]
          have P4 : Pre2 w V4 t V2.heap.size V3.heap.size sa da sb db := ⟨KW0.trans (((KV1.trans KV2).trans KV3).trans KV4), X0.kp (((KV1.trans KV2).trans KV3).trans KV4), U.kp KV4, G.kp (Kp.refl _), (Nat.lt_of_lt_of_le hlt0 (KV1.trans KV2).size), (Nat.lt_of_lt_of_le hlt0 ((KV1.trans KV2).trans KV3).size), (Nat.ne_of_lt (Nat.lt_of_lt_of_le U.lt (Kp.refl _).size)), (rS1.kept ((KV2.trans KV3).trans KV4)).low (KW0.trans (Kp.refl _)).size, (rD1.kept ((KV2.trans KV3).trans KV4)).low (KW0.trans (Kp.refl _)).size, (rS2.kept (KV3.trans KV4)).low (KW0.trans KV1).size, (rD2.kept (KV3.trans KV4)).low (KW0.trans KV1).size, ap1, (apart_of rS1 rS2 (Kp.refl _).size), (apart_of rS1 rD2 (Kp.refl _).size), (apart_of rD1 rS2 (Kp.refl _).size), (apart_of rD1 rD2 (Kp.refl _).size)⟩
          obtain ⟨c0, c1, c2, c3⟩ := P4.u.all
          have f0 := P4.u.fr 0
          have f1 := P4.u.fr 1
          have f2 := P4.u.fr 2
          have f3 := P4.u.fr 3
          obtain ⟨V5, HV5, X5, G5, V6, HV6, X6, O6⟩ := P4.one
          refine wpAnyH_ready (rs := [6]) (by kernel_rfl) (by simp) ?_
          refine AllReadyH.cons (o := Oper.mk none _ _ _ _ _) rfl (fun K hK => ?_) AllReadyH.nil
          go_simp
          go_wp2_with fail
          rw [← HV5.out]
          refine hK.out _ _ ?_ (fun hHeld => ?_)
          · exact X5.all
          clear hK K HV5 c0 c1 c2 c3 f0 f1 f2 f3
          try simp only [Act.put, List.setIfInBounds_toArray, List.set_cons_zero, List.set_cons_succ]
          obtain ⟨c0, c1, c2, c3⟩ := G5.all
          have f0 := G5.fr 0
          have f1 := G5.fr 1
          have f2 := G5.fr 2
          have f3 := G5.fr 3
          refine wpAnyH_ready (rs := [7]) (by kernel_rfl) (by simp) ?_
          refine AllReadyH.cons (o := Oper.mk none _ _ _ _ _) rfl (fun K hK => ?_) AllReadyH.nil
          go_simp
          go_wp2_with fail
          rw [← HV6.out]
          refine hK.out _ _ ?_ (fun hHeld => ?_)
          · exact X6.all
          clear hK K HV6 c0 c1 c2 c3 f0 f1 f2 f3
          try simp only [Act.put, List.setIfInBounds_toArray, List.set_cons_zero, List.set_cons_succ]
          refine wpAnyH_done (by kernel_rfl) ?_ _
          refine NoPanic.normal ?_
          go_wp2_with fail
          go_meet
          exact ⟨_, _, _, _, _, _, rfl, rfl, O6⟩
        · go_simp
          go_wp2_with fail
          obtain ⟨V3, HV3⟩ : ∃ V3, Hid (V3 = V2.alloc (.cells #[.int .i64 0, .int .i64 0, .slice none 0 0, .slice none 0 0] 29)) := ⟨_, rfl⟩
          have KV3 : Kp V2 V3 := by rw [HV3.out]; exact (Kp.refl _).alloc _
          have G : B4 V3 V2.heap.size (.int .i64 0) (.int .i64 0) (.slice none 0 0) (.slice none 0 0) := by rw [HV3.out]; exact b4_new (Kp.refl _)
          rw [← HV3.out]
          clear HV3
          refine hK.out _ _ ?_ (fun hHeld => ?_)
          · exact (X0.kp ((KV1.trans KV2).trans KV3)).all
          clear hK K
          try simp only [Act.put, List.setIfInBounds_toArray, List.set_cons_zero, List.set_cons_succ]
          refine wpAnyH_ready (rs := [4]) (by kernel_rfl) (by simp) ?_
          refine AllReadyH.cons (o := Oper.mk (some 3) _ _ _ _ _) rfl (fun K hK => ?_) AllReadyH.nil
          go_simp
          go_wp2_with fail
          obtain ⟨V4, HV4⟩ : ∃ V4, Hid (V4 = V3.alloc (.cells #[.int .i64 0, .int .i64 0, .slice none 0 0, .slice none 0 0] 29)) := ⟨_, rfl⟩
          have KV4 : Kp V3 V4 := by rw [HV4.out]; exact (Kp.refl _).alloc _
          have U : B4 V4 V3.heap.size (.int .i64 0) (.int .i64 0) (.slice none 0 0) (.slice none 0 0) := by rw [HV4.out]; exact b4_new (Kp.refl _)
          rw [← HV4.out]
          clear HV4
          refine hK.out _ _ ?_ (fun hHeld => ?_)
          · exact (X0.kp (((KV1.trans KV2).trans KV3).trans KV4)).all
          clear hK K
          try simp only [Act.put, List.setIfInBounds_toArray, List.set_cons_zero, List.set_cons_succ]
          have P4 : Pre2 w V4 t V3.heap.size V2.heap.size sa da sb db := ⟨KW0.trans (((KV1.trans KV2).trans KV3).trans KV4), X0.kp (((KV1.trans KV2).trans KV3).trans KV4), U.kp (Kp.refl _), G.kp KV4, (Nat.lt_of_lt_of_le hlt0 ((KV1.trans KV2).trans KV3).size), (Nat.lt_of_lt_of_le hlt0 (KV1.trans KV2).size), (Nat.ne_of_gt (Nat.lt_of_lt_of_le G.lt (Kp.refl _).size)), (rS1.kept ((KV2.trans KV3).trans KV4)).low (KW0.trans (Kp.refl _)).size, (rD1.kept ((KV2.trans KV3).trans KV4)).low (KW0.trans (Kp.refl _)).size, (rS2.kept (KV3.trans KV4)).low (KW0.trans KV1).size, (rD2.kept (KV3.trans KV4)).low (KW0.trans KV1).size, ap1, (apart_of rS1 rS2 (Kp.refl _).size), (apart_of rS1 rD2 (Kp.refl _).size), (apart_of rD1 rS2 (Kp.refl _).size), (apart_of rD1 rD2 (Kp.refl _).size)⟩
          obtain ⟨c0, c1, c2, c3⟩ := P4.u.all
          have f0 := P4.u.fr 0
          have f1 := P4.u.fr 1
          have f2 := P4.u.fr 2
          have f3 := P4.u.fr 3
          obtain ⟨V5, HV5, X5, G5, V6, HV6, X6, O6⟩ := P4.one
          refine wpAnyH_ready (rs := [6]) (by kernel_rfl) (by simp) ?_
          refine AllReadyH.cons (o := Oper.mk none _ _ _ _ _) rfl (fun K hK => ?_) AllReadyH.nil
          go_simp
          go_wp2_with fail
          rw [← HV5.out]
          refine hK.out _ _ ?_ (fun hHeld => ?_)
          · exact X5.all
          clear hK K HV5 c0 c1 c2 c3 f0 f1 f2 f3
          try simp only [Act.put, List.setIfInBounds_toArray, List.set_cons_zero, List.set_cons_succ]
          obtain ⟨c0, c1, c2, c3⟩ := G5.all
          have f0 := G5.fr 0
          have f1 := G5.fr 1
          have f2 := G5.fr 2
          have f3 := G5.fr 3
          refine wpAnyH_ready (rs := [7]) (by kernel_rfl) (by simp) ?_
          refine AllReadyH.cons (o := Oper.mk none _ _ _ _ _) rfl (fun K hK => ?_) AllReadyH.nil
          go_simp
          go_wp2_with fail
          rw [← HV6.out]
          refine hK.out _ _ ?_ (fun hHeld => ?_)
          · exact X6.all
          clear hK K HV6 c0 c1 c2 c3 f0 f1 f2 f3
          try simp only [Act.put, List.setIfInBounds_toArray, List.set_cons_zero, List.set_cons_succ]
          refine wpAnyH_done (by kernel_rfl) ?_ _
          refine NoPanic.normal ?_
          go_wp2_with fail
          go_meet
          exact ⟨_, _, _, _, _, _, rfl, rfl, O6⟩
      · go_simp
        go_wp2_with fail
        obtain ⟨V2, HV2⟩ : ∃ V2, Hid (V2 = V1.alloc (.cells #[.int .i64 0, .int .i64 0, .slice none 0 0, .slice none 0 0] 29)) := ⟨_, rfl⟩
        have KV2 : Kp V1 V2 := by rw [HV2.out]; exact (Kp.refl _).alloc _
        have U : B4 V2 V1.heap.size (.int .i64 0) (.int .i64 0) (.slice none 0 0) (.slice none 0 0) := by rw [HV2.out]; exact b4_new (Kp.refl _)
        rw [← HV2.out]
        clear HV2
        refine hK.out _ _ ?_ (fun hHeld => ?_)
        · exact (X0.kp (KV1.trans KV2)).all
        clear hK K
        try simp only [Act.put, List.setIfInBounds_toArray, List.set_cons_zero, List.set_cons_succ]
        refine wpAnyH_ready (rs := [3, 5]) (by kernel_rfl) (by simp) ?_
        refine AllReadyH.cons (o := Oper.mk (some 10) _ _ _ _ _) rfl (fun K hK => ?_) (AllReadyH.cons (o := Oper.mk (some 4) _ _ _ _ _) rfl (fun K hK => ?_) AllReadyH.nil)
        · go_simp
          refine (HO.out _ (KW0.trans (KV1.trans KV2))).mono ?_
          rintro e V3 ⟨sb, db, rfl, rS2, rD2, ap2, KV3⟩
          go_wp2_with fail
          refine hK.out _ _ ?_ (fun hHeld => ?_)
          · exact (X0.kp ((KV1.trans KV2).trans KV3)).all
          clear hK K
          try simp only [Act.put, List.setIfInBounds_toArray, List.set_cons_zero, List.set_cons_succ]
          refine wpAnyH_ready (rs := [5]) (by kernel_rfl) (by simp) ?_
          refine AllReadyH.cons (o := Oper.mk (some 4) _ _ _ _ _) rfl (fun K hK => ?_) AllReadyH.nil
          go_simp
          go_wp2_with fail
          obtain ⟨V4, HV4⟩ : ∃ V4, Hid (V4 = V3.alloc (.cells #[.int .i64 0, .int .i64 0, .slice none 0 0, .slice none 0 0] 29)) := ⟨_, rfl⟩
          have KV4 : Kp V3 V4 := by rw [HV4.out]; exact (Kp.refl _).alloc _
          have G : B4 V4 V3.heap.size (.int .i64 0) (.int .i64 0) (.slice none 0 0) (.slice none 0 0) := by rw [HV4.out]; exact b4_new (Kp.refl _)
          rw [← HV4.out]
          clear HV4
          refine hK.out _ _ ?_ (fun hHeld => ?_)
          · exact (X0.kp (((KV1.trans KV2).trans KV3).trans KV4)).all
          clear hK K
          try simp only [Act.put, List.setIfInBounds_toArray, List.set_cons_zero, List.set_cons_succ]
          have P4 : Pre2 w V4 t V1.heap.size V3.heap.size sa da sb db := ⟨KW0.trans (((KV1.trans KV2).trans KV3).trans KV4), X0.kp (((KV1.trans KV2).trans KV3).trans KV4), U.kp (KV3.trans KV4), G.kp (Kp.refl _), (Nat.lt_of_lt_of_le hlt0 KV1.size), (Nat.lt_of_lt_of_le hlt0 ((KV1.trans KV2).trans KV3).size), (Nat.ne_of_lt (Nat.lt_of_lt_of_le U.lt KV3.size)), (rS1.kept ((KV2.trans KV3).trans KV4)).low (KW0.trans (Kp.refl _)).size, (rD1.kept ((KV2.trans KV3).trans KV4)).low (KW0.trans (Kp.refl _)).size, (rS2.kept KV4).low (KW0.trans (KV1.trans KV2)).size, (rD2.kept KV4).low (KW0.trans (KV1.trans KV2)).size, ap1, (apart_of rS1 rS2 KV2.size), (apart_of rS1 rD2 KV2.size), (apart_of rD1 rS2 KV2.size), (apart_of rD1 rD2 KV2.size)⟩
          obtain ⟨c0, c1, c2, c3⟩ := P4.u.all
          have f0 := P4.u.fr 0
          have f1 := P4.u.fr 1
          have f2 := P4.u.fr 2
          have f3 := P4.u.fr 3
          obtain ⟨V5, HV5, X5, G5, V6, HV6, X6, O6⟩ := P4.one
          refine wpAnyH_ready (rs := [6]) (by kernel_rfl) (by simp) ?_
          refine AllReadyH.cons (o := Oper.mk none _ _ _ _ _) rfl (fun K hK => ?_) AllReadyH.nil
          go_simp
          go_wp2_with fail
          rw [← HV5.out]
          refine hK.out _ _ ?_ (fun hHeld => ?_)
          · exact X5.all
          clear hK K HV5 c0 c1 c2 c3 f0 f1 f2 f3
          try simp only [Act.put, List.setIfInBounds_toArray, List.set_cons_zero, List.set_cons_succ]
          obtain ⟨c0, c1, c2, c3⟩ := G5.all
          have f0 := G5.fr 0
          have f1 := G5.fr 1
          have f2 := G5.fr 2
          have f3 := G5.fr 3
          refine wpAnyH_ready (rs := [7]) (by kernel_rfl) (by simp) ?_
          refine AllReadyH.cons (o := Oper.mk none _ _ _ _ _) rfl (fun K hK => ?_) AllReadyH.nil
          go_simp
          go_wp2_with fail
          rw [← HV6.out]
          refine hK.out _ _ ?_ (fun hHeld => ?_)
          · exact X6.all
          clear hK K HV6 c0 c1 c2 c3 f0 f1 f2 f3
          try simp only [Act.put, List.setIfInBounds_toArray, List.set_cons_zero, List.set_cons_succ]
          refine wpAnyH_done (by kernel_rfl) ?_ _
          refine NoPanic.normal ?_
          go_wp2_with fail
          go_meet
          exact ⟨_, _, _, _, _, _, rfl, rfl, O6⟩
        · go_simp
          go_wp2_with fail
          obtain ⟨V3, HV3⟩ : ∃ V3, Hid (V3 = V2.alloc (.cells #[.int .i64 0, .int .i64 0, .slice none 0 0, .slice none 0 0] 29)) := ⟨_, rfl⟩
          have KV3 : Kp V2 V3 := by rw [HV3.out]; exact (Kp.refl _).alloc _
          have G : B4 V3 V2.heap.size (.int .i64 0) (.int .i64 0) (.slice none 0 0) (.slice none 0 0) := by rw [HV3.out]; exact b4_new (Kp.refl _)
          rw [← HV3.out]
          clear HV3
          refine hK.out _ _ ?_ (fun hHeld => ?_)
          · exact (X0.kp ((KV1.trans KV2).trans KV3)).all
          clear hK K
          try simp only [Act.put, List.setIfInBounds_toArray, List.set_cons_zero, List.set_cons_succ]
          refine wpAnyH_ready (rs := [3]) (by kernel_rfl) (by simp) ?_
          refine AllReadyH.cons (o := Oper.mk (some 10) _ _ _ _ _) rfl (fun K hK => ?_) AllReadyH.nil
          go_simp
          refine (HO.out _ (KW0.trans ((KV1.trans KV2).trans KV3))).mono ?_
          rintro e V4 ⟨sb, db, rfl, rS2, rD2, ap2, KV4⟩
          go_wp2_with fail
          refine hK.out _ _ ?_ (fun hHeld => ?_)
          · exact (X0.kp (((KV1.trans KV2).trans KV3).trans KV4)).all
          clear hK K
          try simp only [Act.put, List.setIfInBounds_toArray, List.set_cons_zero, List.set_cons_succ]
          have P4 : Pre2 w V4 t V1.heap.size V2.heap.size sa da sb db := ⟨KW0.trans (((KV1.trans KV2).trans KV3).trans KV4), X0.kp (((KV1.trans KV2).trans KV3).trans KV4), U.kp (KV3.trans KV4), G.kp KV4, (Nat.lt_of_lt_of_le hlt0 KV1.size), (Nat.lt_of_lt_of_le hlt0 (KV1.trans KV2).size), (Nat.ne_of_lt (Nat.lt_of_lt_of_le U.lt (Kp.refl _).size)), (rS1.kept ((KV2.trans KV3).trans KV4)).low (KW0.trans (Kp.refl _)).size, (rD1.kept ((KV2.trans KV3).trans KV4)).low (KW0.trans (Kp.refl _)).size, (rS2.kept (Kp.refl _)).low (KW0.trans ((KV1.trans KV2).trans KV3)).size, (rD2.kept (Kp.refl _)).low (KW0.trans ((KV1.trans KV2).trans KV3)).size, ap1, (apart_of rS1 rS2 (KV2.trans KV3).size), (apart_of rS1 rD2 (KV2.trans KV3).size), (apart_of rD1 rS2 (KV2.trans KV3).size), (apart_of rD1 rD2 (KV2.trans KV3).size)⟩
          obtain ⟨c0, c1, c2, c3⟩ := P4.u.all
          have f0 := P4.u.fr 0
          have f1 := P4.u.fr 1
          have f2 := P4.u.fr 2
          have f3 := P4.u.fr 3
          obtain ⟨V5, HV5, X5, G5, V6, HV6, X6, O6⟩ := P4.one
          refine wpAnyH_ready (rs := [6]) (by kernel_rfl) (by simp) ?_
          refine AllReadyH.cons (o := Oper.mk none _ _ _ _ _) rfl (fun K hK => ?_) AllReadyH.nil
          go_simp
          go_wp2_with fail
          rw [← HV5.out]
          refine hK.out _ _ ?_ (fun hHeld => ?_)
          · exact X5.all
          clear hK K HV5 c0 c1 c2 c3 f0 f1 f2 f3
          try simp only [Act.put, List.setIfInBounds_toArray, List.set_cons_zero, List.set_cons_succ]
          obtain ⟨c0, c1, c2, c3⟩ := G5.all
          have f0 := G5.fr 0
          have f1 := G5.fr 1
          have f2 := G5.fr 2
          have f3 := G5.fr 3
          refine wpAnyH_ready (rs := [7]) (by kernel_rfl) (by simp) ?_
          refine AllReadyH.cons (o := Oper.mk none _ _ _ _ _) rfl (fun K hK => ?_) AllReadyH.nil
          go_simp
          go_wp2_with fail
          rw [← HV6.out]
          refine hK.out _ _ ?_ (fun hHeld => ?_)
          · exact X6.all
          clear hK K HV6 c0 c1 c2 c3 f0 f1 f2 f3
          try simp only [Act.put, List.setIfInBounds_toArray, List.set_cons_zero, List.set_cons_succ]
          refine wpAnyH_done (by kernel_rfl) ?_ _
          refine NoPanic.normal ?_
          go_wp2_with fail
          go_meet
          exact ⟨_, _, _, _, _, _, rfl, rfl, O6⟩
      · go_simp
        go_wp2_with fail
        obtain ⟨V2, HV2⟩ : ∃ V2, Hid (V2 = V1.alloc (.cells #[.int .i64 0, .int .i64 0, .slice none 0 0, .slice none 0 0] 29)) := ⟨_, rfl⟩
        have KV2 : Kp V1 V2 := by rw [HV2.out]; exact (Kp.refl _).alloc _
        have G : B4 V2 V1.heap.size (.int .i64 0) (.int .i64 0) (.slice none 0 0) (.slice none 0 0) := by rw [HV2.out]; exact b4_new (Kp.refl _)
        rw [← HV2.out]
        clear HV2
        refine hK.out _ _ ?_ (fun hHeld => ?_)
        · exact (X0.kp (KV1.trans KV2)).all
        clear hK K
        try simp only [Act.put, List.setIfInBounds_toArray, List.set_cons_zero, List.set_cons_succ]
        refine wpAnyH_ready (rs := [3, 4]) (by kernel_rfl) (by simp) ?_
        refine AllReadyH.cons (o := Oper.mk (some 10) _ _ _ _ _) rfl (fun K hK => ?_) (AllReadyH.cons (o := Oper.mk (some 3) _ _ _ _ _) rfl (fun K hK => ?_) AllReadyH.nil)
        · go_simp
          refine (HO.out _ (KW0.trans (KV1.trans KV2))).mono ?_
          rintro e V3 ⟨sb, db, rfl, rS2, rD2, ap2, KV3⟩
          go_wp2_with fail
          refine hK.out _ _ ?_ (fun hHeld => ?_)
          · exact (X0.kp ((KV1.trans KV2).trans KV3)).all
          clear hK K
          try simp only [Act.put, List.setIfInBounds_toArray, List.set_cons_zero, List.set_cons_succ]
          refine wpAnyH_ready (rs := [4]) (by kernel_rfl) (by simp) ?_
          refine AllReadyH.cons (o := Oper.mk (some 3) _ _ _ _ _) rfl (fun K hK => ?_) AllReadyH.nil
          go_simp
          go_wp2_with fail
          obtain ⟨V4, HV4⟩ : ∃ V4, Hid (V4 = V3.alloc (.cells #[.int .i64 0, .int .i64 0, .slice none 0 0, .slice none 0 0] 29)) := ⟨_, rfl⟩
          have KV4 : Kp V3 V4 := by rw [HV4.out]; exact (Kp.refl _).alloc _
          have U : B4 V4 V3.heap.size (.int .i64 0) (.int .i64 0) (.slice none 0 0) (.slice none 0 0) := by rw [HV4.out]; exact b4_new (Kp.refl _)
          rw [← HV4.out]
          clear HV4
          refine hK.out _ _ ?_ (fun hHeld => ?_)
          · exact (X0.kp (((KV1.trans KV2).trans KV3).trans KV4)).all
          clear hK K
          try simp only [Act.put, List.setIfInBounds_toArray, List.set_cons_zero, List.set_cons_succ]
          have P4 : Pre2 w V4 t V3.heap.size V1.heap.size sa da sb db := ⟨KW0.trans (((KV1.trans KV2).trans KV3).trans KV4), X0.kp (((KV1.trans KV2).trans KV3).trans KV4), U.kp (Kp.refl _), G.kp (KV3.trans KV4), (Nat.lt_of_lt_of_le hlt0 ((KV1.trans KV2).trans KV3).size), (Nat.lt_of_lt_of_le hlt0 KV1.size), (Nat.ne_of_gt (Nat.lt_of_lt_of_le G.lt KV3.size)), (rS1.kept ((KV2.trans KV3).trans KV4)).low (KW0.trans (Kp.refl _)).size, (rD1.kept ((KV2.trans KV3).trans KV4)).low (KW0.trans (Kp.refl _)).size, (rS2.kept KV4).low (KW0.trans (KV1.trans KV2)).size, (rD2.kept KV4).low (KW0.trans (KV1.trans KV2)).size, ap1, (apart_of rS1 rS2 KV2.size), (apart_of rS1 rD2 KV2.size), (apart_of rD1 rS2 KV2.size), (apart_of rD1 rD2 KV2.size)⟩
          obtain ⟨c0, c1, c2, c3⟩ := P4.u.all
          have f0 := P4.u.fr 0
          have f1 := P4.u.fr 1
          have f2 := P4.u.fr 2
          have f3 := P4.u.fr 3
          obtain ⟨V5, HV5, X5, G5, V6, HV6, X6, O6⟩ := P4.one
          refine wpAnyH_ready (rs := [6]) (by kernel_rfl) (by simp) ?_
          refine AllReadyH.cons (o := Oper.mk none _ _ _ _ _) rfl (fun K hK => ?_) AllReadyH.nil
          go_simp
          go_wp2_with fail
          rw [← HV5.out]
          refine hK.out _ _ ?_ (fun hHeld => ?_)
          · exact X5.all
          clear hK K HV5 c0 c1 c2 c3 f0 f1 f2 f3
          try simp only [Act.put, List.setIfInBounds_toArray, List.set_cons_zero, List.set_cons_succ]
          obtain ⟨c0, c1, c2, c3⟩ := G5.all
          have f0 := G5.fr 0
          have f1 := G5.fr 1
          have f2 := G5.fr 2
          have f3 := G5.fr 3
          refine wpAnyH_ready (rs := [7]) (by kernel_rfl) (by simp) ?_
          refine AllReadyH.cons (o := Oper.mk none _ _ _ _ _) rfl (fun K hK => ?_) AllReadyH.nil
          go_simp
          go_wp2_with fail
          rw [← HV6.out]
          refine hK.out _ _ ?_ (fun hHeld => ?_)
          · exact X6.all
          clear hK K HV6 c0 c1 c2 c3 f0 f1 f2 f3
          try simp only [Act.put, List.setIfInBounds_toArray, List.set_cons_zero, List.set_cons_succ]
          refine wpAnyH_done (by kernel_rfl) ?_ _
          refine NoPanic.normal ?_
          go_wp2_with fail
          go_meet
          exact ⟨_, _, _, _, _, _, rfl, rfl, O6⟩
        · go_simp
          go_wp2_with fail
          obtain ⟨V3, HV3⟩ : ∃ V3, Hid (V3 = V2.alloc (.cells #[.int .i64 0, .int .i64 0, .slice none 0 0, .slice none 0 0] 29)) := ⟨_, rfl⟩
          have KV3 : Kp V2 V3 := by rw [HV3.out]; exact (Kp.refl _).alloc _
          have U : B4 V3 V2.heap.size (.int .i64 0) (.int .i64 0) (.slice none 0 0) (.slice none 0 0) := by rw [HV3.out]; exact b4_new (Kp.refl _)
          rw [← HV3.out]
          clear HV3
          refine hK.out _ _ ?_ (fun hHeld => ?_)
          · exact (X0.kp ((KV1.trans KV2).trans KV3)).all
          clear hK K
          try simp only [Act.put, List.setIfInBounds_toArray, List.set_cons_zero, List.set_cons_succ]
          refine wpAnyH_ready (rs := [3]) (by kernel_rfl) (by simp) ?_
          refine AllReadyH.cons (o := Oper.mk (some 10) _ _ _ _ _) rfl (fun K hK => ?_) AllReadyH.nil
          go_simp
          refine (HO.out _ (KW0.trans ((KV1.trans KV2).trans KV3))).mono ?_
          rintro e V4 ⟨sb, db, rfl, rS2, rD2, ap2, KV4⟩
          go_wp2_with fail
          refine hK.out _ _ ?_ (fun hHeld => ?_)
          · exact (X0.kp (((KV1.trans KV2).trans KV3).trans KV4)).all
          clear hK K
          try simp only [Act.put, List.setIfInBounds_toArray, List.set_cons_zero, List.set_cons_succ]
          have P4 : Pre2 w V4 t V2.heap.size V1.heap.size sa da sb db := ⟨KW0.trans (((KV1.trans KV2).trans KV3).trans KV4), X0.kp (((KV1.trans KV2).trans KV3).trans KV4), U.kp KV4, G.kp (KV3.trans KV4), (Nat.lt_of_lt_of_le hlt0 (KV1.trans KV2).size), (Nat.lt_of_lt_of_le hlt0 KV1.size), (Nat.ne_of_gt (Nat.lt_of_lt_of_le G.lt (Kp.refl _).size)), (rS1.kept ((KV2.trans KV3).trans KV4)).low (KW0.trans (Kp.refl _)).size, (rD1.kept ((KV2.trans KV3).trans KV4)).low (KW0.trans (Kp.refl _)).size, (rS2.kept (Kp.refl _)).low (KW0.trans ((KV1.trans KV2).trans KV3)).size, (rD2.kept (Kp.refl _)).low (KW0.trans ((KV1.trans KV2).trans KV3)).size, ap1, (apart_of rS1 rS2 (KV2.trans KV3).size), (apart_of rS1 rD2 (KV2.trans KV3).size), (apart_of rD1 rS2 (KV2.trans KV3).size), (apart_of rD1 rD2 (KV2.trans KV3).size)⟩
          obtain ⟨c0, c1, c2, c3⟩ := P4.u.all
          have f0 := P4.u.fr 0
          have f1 := P4.u.fr 1
          have f2 := P4.u.fr 2
          have f3 := P4.u.fr 3
          obtain ⟨V5, HV5, X5, G5, V6, HV6, X6, O6⟩ := P4.one
          refine wpAnyH_ready (rs := [6]) (by kernel_rfl) (by simp) ?_
          refine AllReadyH.cons (o := Oper.mk none _ _ _ _ _) rfl (fun K hK => ?_) AllReadyH.nil
          go_simp
          go_wp2_with fail
          rw [← HV5.out]
          refine hK.out _ _ ?_ (fun hHeld => ?_)
          · exact X5.all
          clear hK K HV5 c0 c1 c2 c3 f0 f1 f2 f3
          try simp only [Act.put, List.setIfInBounds_toArray, List.set_cons_zero, List.set_cons_succ]
          obtain ⟨c0, c1, c2, c3⟩ := G5.all
          have f0 := G5.fr 0
          have f1 := G5.fr 1
          have f2 := G5.fr 2
          have f3 := G5.fr 3
          refine wpAnyH_ready (rs := [7]) (by kernel_rfl) (by simp) ?_
          refine AllReadyH.cons (o := Oper.mk none _ _ _ _ _) rfl (fun K hK => ?_) AllReadyH.nil
          go_simp
          go_wp2_with fail
          rw [← HV6.out]
          refine hK.out _ _ ?_ (fun hHeld => ?_)
          · exact X6.all
          clear hK K HV6 c0 c1 c2 c3 f0 f1 f2 f3
          try simp only [Act.put, List.setIfInBounds_toArray, List.set_cons_zero, List.set_cons_succ]
          refine wpAnyH_done (by kernel_rfl) ?_ _
          refine NoPanic.normal ?_
          go_wp2_with fail
          go_meet
          exact ⟨_, _, _, _, _, _, rfl, rfl, O6⟩
    · go_simp
      go_wp2_with fail
      obtain ⟨V1, HV1⟩ : ∃ V1, Hid (V1 = V0.alloc (.cells #[.int .i64 0, .int .i64 0, .slice none 0 0, .slice none 0 0] 29)) := ⟨_, rfl⟩
      have KV1 : Kp V0 V1 := by rw [HV1.out]; exact (Kp.refl _).alloc _
      have U : B4 V1 V0.heap.size (.int .i64 0) (.int .i64 0) (.slice none 0 0) (.slice none 0 0) := by rw [HV1.out]; exact b4_new (Kp.refl _)
      rw [← HV1.out]
      clear HV1
      refine hK.out _ _ ?_ (fun hHeld => ?_)
      · exact (X0.kp KV1).all
      clear hK K
      try simp only [Act.put, List.setIfInBounds_toArray, List.set_cons_zero, List.set_cons_succ]
      refine wpAnyH_ready (rs := [1, 5]) (by kernel_rfl) (by simp) ?_
      refine AllReadyH.cons (o := Oper.mk (some 8) _ _ _ _ _) rfl (fun K hK => ?_) (AllReadyH.cons (o := Oper.mk (some 4) _ _ _ _ _) rfl (fun K hK => ?_) AllReadyH.nil)
      · go_simp
        refine (HO.out _ (KW0.trans KV1)).mono ?_
        rintro e V2 ⟨sa, da, rfl, rS1, rD1, ap1, KV2⟩
        go_wp2_with fail
        refine hK.out _ _ ?_ (fun hHeld => ?_)
        · exact (X0.kp (KV1.trans KV2)).all
        clear hK K
        try simp only [Act.put, List.setIfInBounds_toArray, List.set_cons_zero, List.set_cons_succ]
        refine wpAnyH_ready (rs := [3, 5]) (by kernel_rfl) (by simp) ?_
        refine AllReadyH.cons (o := Oper.mk (some 10) _ _ _ _ _) rfl (fun K hK => ?_) (AllReadyH.cons (o := Oper.mk (some 4) _ _ _ _ _) rfl (fun K hK => ?_) AllReadyH.nil)
        · go_simp
          refine (HO.out _ (KW0.trans (KV1.trans KV2))).mono ?_
          rintro e V3 ⟨sb, db, rfl, rS2, rD2, ap2, KV3⟩
          go_wp2_with fail
          refine hK.out _ _ ?_ (fun hHeld => ?_)
          · exact (X0.kp ((KV1.trans KV2).trans KV3)).all
          clear hK K
          try simp only [Act.put, List.setIfInBounds_toArray, List.set_cons_zero, List.set_cons_succ]
          refine wpAnyH_ready (rs := [5]) (by kernel_rfl) (by simp) ?_
          refine AllReadyH.cons (o := Oper.mk (some 4) _ _ _ _ _) rfl (fun K hK => ?_) AllReadyH.nil
          go_simp
          go_wp2_with fail
          obtain ⟨V4, HV4⟩ : ∃ V4, Hid (V4 = V3.alloc (.cells #[.int .i64 0, .int .i64 0, .slice none 0 0, .slice none 0 0] 29)) := ⟨_, rfl⟩
          have KV4 : Kp V3 V4 := by rw [HV4.out]; exact (Kp.refl _).alloc _
          have G : B4 V4 V3.heap.size (.int .i64 0) (.int .i64 0) (.slice none 0 0) (.slice none 0 0) := by rw [HV4.out]; exact b4_new (Kp.refl _)
          rw [← HV4.out]
          clear HV4
          refine hK.out _ _ ?_ (fun hHeld => ?_)
          · exact (X0.kp (((KV1.trans KV2).trans KV3).trans KV4)).all
          clear hK K
          try simp only [Act.put, List.setIfInBounds_toArray, List.set_cons_zero, List.set_cons_succ]
          have P4 : Pre2 w V4 t V0.heap.size V3.heap.size sa da sb db := ⟨KW0.trans (((KV1.trans KV2).trans KV3).trans KV4), X0.kp (((KV1.trans KV2).trans KV3).trans KV4), U.kp ((KV2.trans KV3).trans KV4), G.kp (Kp.refl _), (Nat.lt_of_lt_of_le hlt0 (Kp.refl _).size), (Nat.lt_of_lt_of_le hlt0 ((KV1.trans KV2).trans KV3).size), (Nat.ne_of_lt (Nat.lt_of_lt_of_le U.lt (KV2.trans KV3).size)), (rS1.kept (KV3.trans KV4)).low (KW0.trans KV1).size, (rD1.kept (KV3.trans KV4)).low (KW0.trans KV1).size, (rS2.kept KV4).low (KW0.trans (KV1.trans KV2)).size, (rD2.kept KV4).low (KW0.trans (KV1.trans KV2)).size, ap1, (apart_of rS1 rS2 (Kp.refl _).size), (apart_of rS1 rD2 (Kp.refl _).size), (apart_of rD1 rS2 (Kp.refl _).size), (apart_of rD1 rD2 (Kp.refl _).size)⟩
          obtain ⟨c0, c1, c2, c3⟩ := P4.u.all
          have f0 := P4.u.fr 0
          have f1 := P4.u.fr 1
          have f2 := P4.u.fr 2
          have f3 := P4.u.fr 3
          obtain ⟨V5, HV5, X5, G5, V6, HV6, X6, O6⟩ := P4.one
          refine wpAnyH_ready (rs := [6]) (by kernel_rfl) (by simp) ?_
          refine AllReadyH.cons (o := Oper.mk none _ _ _ _ _) rfl (fun K hK => ?_) AllReadyH.nil
          go_simp
          go_wp2_with fail
          rw [← HV5.out]
          refine hK.out _ _ ?_ (fun hHeld => ?_)
          · exact X5.all
          clear hK K HV5 c0 c1 c2 c3 f0 f1 f2 f3
          try simp only [Act.put, List.setIfInBounds_toArray, List.set_cons_zero, List.set_cons_succ]
          obtain ⟨c0, c1, c2, c3⟩ := G5.all
          have f0 := G5.fr 0
          have f1 := G5.fr 1
          have f2 := G5.fr 2
          have f3 := G5.fr 3
          refine wpAnyH_ready (rs := [7]) (by kernel_rfl) (by simp) ?_
          refine AllReadyH.cons (o := Oper.mk none _ _ _ _ _) rfl (fun K hK => ?_) AllReadyH.nil
          go_simp
          go_wp2_with fail
          rw [← HV6.out]
          refine hK.out _ _ ?_ (fun hHeld => ?_)
          · exact X6.all
          clear hK K HV6 c0 c1 c2 c3 f0 f1 f2 f3
          try simp only [Act.put, List.setIfInBounds_toArray, List.set_cons_zero, List.set_cons_succ]
          refine wpAnyH_done (by kernel_rfl) ?_ _
          refine NoPanic.normal ?_
          go_wp2_with fail
          go_meet
          exact ⟨_, _, _, _, _, _, rfl, rfl, O6⟩
        · go_simp
          go_wp2_with fail
          obtain ⟨V3, HV3⟩ : ∃ V3, Hid (V3 = V2.alloc (.cells #[.int .i64 0, .int .i64 0, .slice none 0 0, .slice none 0 0] 29)) := ⟨_, rfl⟩
          have KV3 : Kp V2 V3 := by rw [HV3.out]; exact (Kp.refl _).alloc _
          have G : B4 V3 V2.heap.size (.int .i64 0) (.int .i64 0) (.slice none 0 0) (.slice none 0 0) := by rw [HV3.out]; exact b4_new (Kp.refl _)
          rw [← HV3.out]
          clear HV3
          refine hK.out _ _ ?_ (fun hHeld => ?_)
          · exact (X0.kp ((KV1.trans KV2).trans KV3)).all
          clear hK K
          try simp only [Act.put, List.setIfInBounds_toArray, List.set_cons_zero, List.set_cons_succ]
          refine wpAnyH_ready (rs := [3]) (by kernel_rfl) (by simp) ?_
          refine AllReadyH.cons (o := Oper.mk (some 10) _ _ _ _ _) rfl (fun K hK => ?_) AllReadyH.nil
          go_simp
          refine (HO.out _ (KW0.trans ((KV1.trans KV2).trans KV3))).mono ?_
          rintro e V4 ⟨sb, db, rfl, rS2, rD2, ap2, KV4⟩
          go_wp2_with fail
          refine hK.out _ _ ?_ (fun hHeld => ?_)
          · exact (X0.kp (((KV1.trans KV2).trans KV3).trans KV4)).all
          clear hK K
          try simp only [Act.put, List.setIfInBounds_toArray, List.set_cons_zero, List.set_cons_succ]
          have P4 : Pre2 w V4 t V0.heap.size V2.heap.size sa da sb db := ⟨KW0.trans (((KV1.trans KV2).trans KV3).trans KV4), X0.kp (((KV1.trans KV2).trans KV3).trans KV4), U.kp ((KV2.trans KV3).trans KV4), G.kp KV4, (Nat.lt_of_lt_of_le hlt0 (Kp.refl _).size), (Nat.lt_of_lt_of_le hlt0 (KV1.trans KV2).size), (Nat.ne_of_lt (Nat.lt_of_lt_of_le U.lt KV2.size)), (rS1.kept (KV3.trans KV4)).low (KW0.trans KV1).size, (rD1.kept (KV3.trans KV4)).low (KW0.trans KV1).size, (rS2.kept (Kp.refl _)).low (KW0.trans ((KV1.trans KV2).trans KV3)).size, (rD2.kept (Kp.refl _)).low (KW0.trans ((KV1.trans KV2).trans KV3)).size, ap1, (apart_of rS1 rS2 KV3.size), (apart_of rS1 rD2 KV3.size), (apart_of rD1 rS2 KV3.size), (apart_of rD1 rD2 KV3.size)⟩
          obtain ⟨c0, c1, c2, c3⟩ := P4.u.all
          have f0 := P4.u.fr 0
          have f1 := P4.u.fr 1
          have f2 := P4.u.fr 2
          have f3 := P4.u.fr 3
          obtain ⟨V5, HV5, X5, G5, V6, HV6, X6, O6⟩ := P4.one
          refine wpAnyH_ready (rs := [6]) (by kernel_rfl) (by simp) ?_
          refine AllReadyH.cons (o := Oper.mk none _ _ _ _ _) rfl (fun K hK => ?_) AllReadyH.nil
          go_simp
          go_wp2_with fail
          rw [← HV5.out]
          refine hK.out _ _ ?_ (fun hHeld => ?_)
          · exact X5.all
          clear hK K HV5 c0 c1 c2 c3 f0 f1 f2 f3
          try simp only [Act.put, List.setIfInBounds_toArray, List.set_cons_zero, List.set_cons_succ]
          obtain ⟨c0, c1, c2, c3⟩ := G5.all
          have f0 := G5.fr 0
          have f1 := G5.fr 1
          have f2 := G5.fr 2
          have f3 := G5.fr 3
          refine wpAnyH_ready (rs := [7]) (by kernel_rfl) (by simp) ?_
          refine AllReadyH.cons (o := Oper.mk none _ _ _ _ _) rfl (fun K hK => ?_) AllReadyH.nil
          go_simp
          go_wp2_with fail
          rw [← HV6.out]
          refine hK.out _ _ ?_ (fun hHeld => ?_)
          · exact X6.all
          clear hK K HV6 c0 c1 c2 c3 f0 f1 f2 f3
          try simp only [Act.put, List.setIfInBounds_toArray, List.set_cons_zero, List.set_cons_succ]
          refine wpAnyH_done (by kernel_rfl) ?_ _
          refine NoPanic.normal ?_
          go_wp2_with fail
          go_meet
          exact ⟨_, _, _, _, _, _, rfl, rfl, O6⟩
      · go_simp
        go_wp2_with fail
        obtain ⟨V2, HV2⟩ : ∃ V2, Hid (V2 = V1.alloc (.cells #[.int .i64 0, .int .i64 0, .slice none 0 0, .slice none 0 0] 29)) := ⟨_, rfl⟩
        have KV2 : Kp V1 V2 := by rw [HV2.out]; exact (Kp.refl _).alloc _
        have G : B4 V2 V1.heap.size (.int .i64 0) (.int .i64 0) (.slice none 0 0) (.slice none 0 0) := by rw [HV2.out]; exact b4_new (Kp.refl _)
        rw [← HV2.out]
        clear HV2
        refine hK.out _ _ ?_ (fun hHeld => ?_)
        · exact (X0.kp (KV1.trans KV2)).all
        clear hK K
        try simp only [Act.put, List.setIfInBounds_toArray, List.set_cons_zero, List.set_cons_succ]
        refine wpAnyH_ready (rs := [1]) (by kernel_rfl) (by simp) ?_
        refine AllReadyH.cons (o := Oper.mk (some 8) _ _ _ _ _) rfl (fun K hK => ?_) AllReadyH.nil
        go_simp
        refine (HO.out _ (KW0.trans (KV1.trans KV2))).mono ?_
        rintro e V3 ⟨sa, da, rfl, rS1, rD1, ap1, KV3⟩
        go_wp2_with fail
        refine hK.out _ _ ?_ (fun hHeld => ?_)
        · exact (X0.kp ((KV1.trans KV2).trans KV3)).all
        clear hK K
        try simp only [Act.put, List.setIfInBounds_toArray, List.set_cons_zero, List.set_cons_succ]
        refine wpAnyH_ready (rs := [3]) (by kernel_rfl) (by simp) ?_
        refine AllReadyH.cons (o := Oper.mk (some 10) _ _ _ _ _) rfl (fun K hK => ?_) AllReadyH.nil
        go_simp
        refine (HO.out _ (KW0.trans ((KV1.trans KV2).trans KV3))).mono ?_
        rintro e V4 ⟨sb, db, rfl, rS2, rD2, ap2, KV4⟩
        go_wp2_with fail
        refine hK.out _ _ ?_ (fun hHeld => ?_)
        · exact (X0.kp (((KV1.trans KV2).trans KV3).trans KV4)).all
        clear hK K
        try simp only [Act.put, List.setIfInBounds_toArray, List.set_cons_zero, List.set_cons_succ]
        have P4 : Pre2 w V4 t V0.heap.size V1.heap.size sa da sb db := ⟨KW0.trans (((KV1.trans KV2).trans KV3).trans KV4), X0.kp (((KV1.trans KV2).trans KV3).trans KV4), U.kp ((KV2.trans KV3).trans KV4), G.kp (KV3.trans KV4), (Nat.lt_of_lt_of_le hlt0 (Kp.refl _).size), (Nat.lt_of_lt_of_le hlt0 KV1.size), (Nat.ne_of_lt (Nat.lt_of_lt_of_le U.lt (Kp.refl _).size)), (rS1.kept KV4).low (KW0.trans (KV1.trans KV2)).size, (rD1.kept KV4).low (KW0.trans (KV1.trans KV2)).size, (rS2.kept (Kp.refl _)).low (KW0.trans ((KV1.trans KV2).trans KV3)).size, (rD2.kept (Kp.refl _)).low (KW0.trans ((KV1.trans KV2).trans KV3)).size, ap1, (apart_of rS1 rS2 (Kp.refl _).size), (apart_of rS1 rD2 (Kp.refl _).size), (apart_of rD1 rS2 (Kp.refl _).size), (apart_of rD1 rD2 (Kp.refl _).size)⟩
        obtain ⟨c0, c1, c2, c3⟩ := P4.u.all
        have f0 := P4.u.fr 0
        have f1 := P4.u.fr 1
        have f2 := P4.u.fr 2
        have f3 := P4.u.fr 3
        obtain ⟨V5, HV5, X5, G5, V6, HV6, X6, O6⟩ := P4.one
        refine wpAnyH_ready (rs := [6]) (by kernel_rfl) (by simp) ?_
        refine AllReadyH.cons (o := Oper.mk none _ _ _ _ _) rfl (fun K hK => ?_) AllReadyH.nil
        go_simp
        go_wp2_with fail
        rw [← HV5.out]
        refine hK.out _ _ ?_ (fun hHeld => ?_)
        · exact X5.all
        clear hK K HV5 c0 c1 c2 c3 f0 f1 f2 f3
        try simp only [Act.put, List.setIfInBounds_toArray, List.set_cons_zero, List.set_cons_succ]
        obtain ⟨c0, c1, c2, c3⟩ := G5.all
        have f0 := G5.fr 0
        have f1 := G5.fr 1
        have f2 := G5.fr 2
        have f3 := G5.fr 3
        refine wpAnyH_ready (rs := [7]) (by kernel_rfl) (by simp) ?_
        refine AllReadyH.cons (o := Oper.mk none _ _ _ _ _) rfl (fun K hK => ?_) AllReadyH.nil
        go_simp
        go_wp2_with fail
        rw [← HV6.out]
        refine hK.out _ _ ?_ (fun hHeld => ?_)
        · exact X6.all
        clear hK K HV6 c0 c1 c2 c3 f0 f1 f2 f3
        try simp only [Act.put, List.setIfInBounds_toArray, List.set_cons_zero, List.set_cons_succ]
        refine wpAnyH_done (by kernel_rfl) ?_ _
        refine NoPanic.normal ?_
        go_wp2_with fail
        go_meet
        exact ⟨_, _, _, _, _, _, rfl, rfl, O6⟩
    · go_simp
      go_wp2_with fail
      obtain ⟨V1, HV1⟩ : ∃ V1, Hid (V1 = V0.alloc (.cells #[.int .i64 0, .int .i64 0, .slice none 0 0, .slice none 0 0] 29)) := ⟨_, rfl⟩
      have KV1 : Kp V0 V1 := by rw [HV1.out]; exact (Kp.refl _).alloc _
      have G : B4 V1 V0.heap.size (.int .i64 0) (.int .i64 0) (.slice none 0 0) (.slice none 0 0) := by rw [HV1.out]; exact b4_new (Kp.refl _)
      rw [← HV1.out]
      clear HV1
      refine hK.out _ _ ?_ (fun hHeld => ?_)
      · exact (X0.kp KV1).all
      clear hK K
      try simp only [Act.put, List.setIfInBounds_toArray, List.set_cons_zero, List.set_cons_succ]
      refine wpAnyH_ready (rs := [1, 4]) (by kernel_rfl) (by simp) ?_
      refine AllReadyH.cons (o := Oper.mk (some 8) _ _ _ _ _) rfl (fun K hK => ?_) (AllReadyH.cons (o := Oper.mk (some 3) _ _ _ _ _) rfl (fun K hK => ?_) AllReadyH.nil)
      · go_simp
        refine (HO.out _ (KW0.trans KV1)).mono ?_
        rintro e V2 ⟨sa, da, rfl, rS1, rD1, ap1, KV2⟩
        go_wp2_with fail
        refine hK.out _ _ ?_ (fun hHeld => ?_)
        · exact (X0.kp (KV1.trans KV2)).all
        clear hK K
        try simp only [Act.put, List.setIfInBounds_toArray, List.set_cons_zero, List.set_cons_succ]
        refine wpAnyH_ready (rs := [3, 4]) (by kernel_rfl) (by simp) ?_
        refine AllReadyH.cons (o := Oper.mk (some 10) _ _ _ _ _) rfl (fun K hK => ?_) (AllReadyH.cons (o := Oper.mk (some 3) _ _ _ _ _) rfl (fun K hK => ?_) AllReadyH.nil)
        · go_simp
          refine (HO.out _ (KW0.trans (KV1.trans KV2))).mono ?_
          rintro e V3 ⟨sb, db, rfl, rS2, rD2, ap2, KV3⟩
          go_wp2_with fail
          refine hK.out _ _ ?_ (fun hHeld => ?_)
          · exact (X0.kp ((KV1.trans KV2).trans KV3)).all
          clear hK K
          try simp only [Act.put, List.setIfInBounds_toArray, List.set_cons_zero, List.set_cons_succ]
          refine wpAnyH_ready (rs := [4]) (by kernel_rfl) (by simp) ?_
          refine AllReadyH.cons (o := Oper.mk (some 3) _ _ _ _ _) rfl (fun K hK => ?_) AllReadyH.nil
          go_simp
          go_wp2_with fail
          obtain ⟨V4, HV4⟩ : ∃ V4, Hid (V4 = V3.alloc (.cells #[.int .i64 0, .int .i64 0, .slice none 0 0, .slice none 0 0] 29)) := ⟨_, rfl⟩
          have KV4 : Kp V3 V4 := by rw [HV4.out]; exact (Kp.refl _).alloc _
          have U : B4 V4 V3.heap.size (.int .i64 0) (.int .i64 0) (.slice none 0 0) (.slice none 0 0) := by rw [HV4.out]; exact b4_new (Kp.refl _)
          rw [← HV4.out]
          clear HV4
          refine hK.out _ _ ?_ (fun hHeld => ?_)
          · exact (X0.kp (((KV1.trans KV2).trans KV3).trans KV4)).all
          clear hK K
          try simp only [Act.put, List.setIfInBounds_toArray, List.set_cons_zero, List.set_cons_succ]
          have P4 : Pre2 w V4 t V3.heap.size V0.heap.size sa da sb db := ⟨KW0.trans (((KV1.trans KV2).trans KV3).trans KV4), X0.kp (((KV1.trans KV2).trans KV3).trans KV4), U.kp (Kp.refl _), G.kp ((KV2.trans KV3).trans KV4), (Nat.lt_of_lt_of_le hlt0 ((KV1.trans KV2).trans KV3).size), (Nat.lt_of_lt_of_le hlt0 (Kp.refl _).size), (Nat.ne_of_gt (Nat.lt_of_lt_of_le G.lt (KV2.trans KV3).size)), (rS1.kept (KV3.trans KV4)).low (KW0.trans KV1).size, (rD1.kept (KV3.trans KV4)).low (KW0.trans KV1).size, (rS2.kept KV4).low (KW0.trans (KV1.trans KV2)).size, (rD2.kept KV4).low (KW0.trans (KV1.trans KV2)).size, ap1, (apart_of rS1 rS2 (Kp.refl _).size), (apart_of rS1 rD2 (Kp.refl _).size), (apart_of rD1 rS2 (Kp.refl _).size), (apart_of rD1 rD2 (Kp.refl _).size)⟩
          obtain ⟨c0, c1, c2, c3⟩ := P4.u.all
          have f0 := P4.u.fr 0
          have f1 := P4.u.fr 1
          have f2 := P4.u.fr 2
          have f3 := P4.u.fr 3
          obtain ⟨V5, HV5, X5, G5, V6, HV6, X6, O6⟩ := P4.one
          refine wpAnyH_ready (rs := [6]) (by kernel_rfl) (by simp) ?_
          refine AllReadyH.cons (o := Oper.mk none _ _ _ _ _) rfl (fun K hK => ?_) AllReadyH.nil
          go_simp
          go_wp2_with fail
          rw [← HV5.out]
          refine hK.out _ _ ?_ (fun hHeld => ?_)
          · exact X5.all
          clear hK K HV5 c0 c1 c2 c3 f0 f1 f2 f3
          try simp only [Act.put, List.setIfInBounds_toArray, List.set_cons_zero, List.set_cons_succ]
          obtain ⟨c0, c1, c2, c3⟩ := G5.all
          have f0 := G5.fr 0
          have f1 := G5.fr 1
          have f2 := G5.fr 2
          have f3 := G5.fr 3
          refine wpAnyH_ready (rs := [7]) (by kernel_rfl) (by simp) ?_
          refine AllReadyH.cons (o := Oper.mk none _ _ _ _ _) rfl (fun K hK => ?_) AllReadyH.nil
          go_simp
          go_wp2_with fail
          rw [← HV6.out]
          refine hK.out _ _ ?_ (fun hHeld => ?_)
          · exact X6.all
          clear hK K HV6 c0 c1 c2 c3 f0 f1 f2 f3
          try simp only [Act.put, List.setIfInBounds_toArray, List.set_cons_zero, List.set_cons_succ]
          refine wpAnyH_done (by kernel_rfl) ?_ _
          refine NoPanic.normal ?_
          go_wp2_with fail
          go_meet
          exact ⟨_, _, _, _, _, _, rfl, rfl, O6⟩
        · go_simp
          go_wp2_with fail
          obtain ⟨V3, HV3⟩ : ∃ V3, Hid (V3 = V2.alloc (.cells #[.int .i64 0, .int .i64 0, .slice none 0 0, .slice none 0 0] 29)) := ⟨_, rfl⟩
          have KV3 : Kp V2 V3 := by rw [HV3.out]; exact (Kp.refl _).alloc _
          have U : B4 V3 V2.heap.size (.int .i64 0) (.int .i64 0) (.slice none 0 0) (.slice none 0 0) := by rw [HV3.out]; exact b4_new (Kp.refl _)
          rw [← HV3.out]
          clear HV3
          refine hK.out _ _ ?_ (fun hHeld => ?_)
          · exact (X0.kp ((KV1.trans KV2).trans KV3)).all
          clear hK K
          try simp only [Act.put, List.setIfInBounds_toArray, List.set_cons_zero, List.set_cons_succ]
          refine wpAnyH_ready (rs := [3]) (by kernel_rfl) (by simp) ?_
          refine AllReadyH.cons (o := Oper.mk (some 10) _ _ _ _ _) rfl (fun K hK => ?_) AllReadyH.nil
          go_simp
          refine (HO.out _ (KW0.trans ((KV1.trans KV2).trans KV3))).mono ?_
          rintro e V4 ⟨sb, db, rfl, rS2, rD2, ap2, KV4⟩
          go_wp2_with fail
          refine hK.out _ _ ?_ (fun hHeld => ?_)
          · exact (X0.kp (((KV1.trans KV2).trans KV3).trans KV4)).all
          clear hK K
          try simp only [Act.put, List.setIfInBounds_toArray, List.set_cons_zero, List.set_cons_succ]
          have P4 : Pre2 w V4 t V2.heap.size V0.heap.size sa da sb db := ⟨KW0.trans (((KV1.trans KV2).trans KV3).trans KV4), X0.kp (((KV1.trans KV2).trans KV3).trans KV4), U.kp KV4, G.kp ((KV2.trans KV3).trans KV4), (Nat.lt_of_lt_of_le hlt0 (KV1.trans KV2).size), (Nat.lt_of_lt_of_le hlt0 (Kp.refl _).size), (Nat.ne_of_gt (Nat.lt_of_lt_of_le G.lt KV2.size)), (rS1.kept (KV3.trans KV4)).low (KW0.trans KV1).size, (rD1.kept (KV3.trans KV4)).low (KW0.trans KV1).size, (rS2.kept (Kp.refl _)).low (KW0.trans ((KV1.trans KV2).trans KV3)).size, (rD2.kept (Kp.refl _)).low (KW0.trans ((KV1.trans KV2).trans KV3)).size, ap1, (apart_of rS1 rS2 KV3.size), (apart_of rS1 rD2 KV3.size), (apart_of rD1 rS2 KV3.size), (apart_of rD1 rD2 KV3.size)⟩
          obtain ⟨c0, c1, c2, c3⟩ := P4.u.all
          have f0 := P4.u.fr 0
          have f1 := P4.u.fr 1
          have f2 := P4.u.fr 2
          have f3 := P4.u.fr 3
          obtain ⟨V5, HV5, X5, G5, V6, HV6, X6, O6⟩ := P4.one
          refine wpAnyH_ready (rs := [6]) (by kernel_rfl) (by simp) ?_
          refine AllReadyH.cons (o := Oper.mk none _ _ _ _ _) rfl (fun K hK => ?_) AllReadyH.nil
          go_simp
          go_wp2_with fail
          rw [← HV5.out]
          refine hK.out _ _ ?_ (fun hHeld => ?_)
          · exact X5.all
          clear hK K HV5 c0 c1 c2 c3 f0 f1 f2 f3
          try simp only [Act.put, List.setIfInBounds_toArray, List.set_cons_zero, List.set_cons_succ]
          obtain ⟨c0, c1, c2, c3⟩ := G5.all
          have f0 := G5.fr 0
          have f1 := G5.fr 1
          have f2 := G5.fr 2
          have f3 := G5.fr 3
          refine wpAnyH_ready (rs := [7]) (by kernel_rfl) (by simp) ?_
          refine AllReadyH.cons (o := Oper.mk none _ _ _ _ _) rfl (fun K hK => ?_) AllReadyH.nil
          go_simp
          go_wp2_with fail
          rw [← HV6.out]
          refine hK.out _ _ ?_ (fun hHeld => ?_)
          · exact X6.all
          clear hK K HV6 c0 c1 c2 c3 f0 f1 f2 f3
          try simp only [Act.put, List.setIfInBounds_toArray, List.set_cons_zero, List.set_cons_succ]
          refine wpAnyH_done (by kernel_rfl) ?_ _
          refine NoPanic.normal ?_
          go_wp2_with fail
          go_meet
          exact ⟨_, _, _, _, _, _, rfl, rfl, O6⟩
      · go_simp
        go_wp2_with fail
        obtain ⟨V2, HV2⟩ : ∃ V2, Hid (V2 = V1.alloc (.cells #[.int .i64 0, .int .i64 0, .slice none 0 0, .slice none 0 0] 29)) := ⟨_, rfl⟩
        have KV2 : Kp V1 V2 := by rw [HV2.out]; exact (Kp.refl _).alloc _
        have U : B4 V2 V1.heap.size (.int .i64 0) (.int .i64 0) (.slice none 0 0) (.slice none 0 0) := by rw [HV2.out]; exact b4_new (Kp.refl _)
        rw [← HV2.out]
        clear HV2
        refine hK.out _ _ ?_ (fun hHeld => ?_)
        · exact (X0.kp (KV1.trans KV2)).all
        clear hK K
        try simp only [Act.put, List.setIfInBounds_toArray, List.set_cons_zero, List.set_cons_succ]
        refine wpAnyH_ready (rs := [1]) (by kernel_rfl) (by simp) ?_
        refine AllReadyH.cons (o := Oper.mk (some 8) _ _ _ _ _) rfl (fun K hK => ?_) AllReadyH.nil
        go_simp
        refine (HO.out _ (KW0.trans (KV1.trans KV2))).mono ?_
        rintro e V3 ⟨sa, da, rfl, rS1, rD1, ap1, KV3⟩
        go_wp2_with fail
        refine hK.out _ _ ?_ (fun hHeld => ?_)
        · exact (X0.kp ((KV1.trans KV2).trans KV3)).all
        clear hK K
        try simp only [Act.put, List.setIfInBounds_toArray, List.set_cons_zero, List.set_cons_succ]
        refine wpAnyH_ready (rs := [3]) (by kernel_rfl) (by simp) ?_
        refine AllReadyH.cons (o := Oper.mk (some 10) _ _ _ _ _) rfl (fun K hK => ?_) AllReadyH.nil
        go_simp
        refine (HO.out _ (KW0.trans ((KV1.trans KV2).trans KV3))).mono ?_
        rintro e V4 ⟨sb, db, rfl, rS2, rD2, ap2, KV4⟩
        go_wp2_with fail
        refine hK.out _ _ ?_ (fun hHeld => ?_)
        · exact (X0.kp (((KV1.trans KV2).trans KV3).trans KV4)).all
        clear hK K
        try simp only [Act.put, List.setIfInBounds_toArray, List.set_cons_zero, List.set_cons_succ]
        have P4 : Pre2 w V4 t V1.heap.size V0.heap.size sa da sb db := ⟨KW0.trans (((KV1.trans KV2).trans KV3).trans KV4), X0.kp (((KV1.trans KV2).trans KV3).trans KV4), U.kp (KV3.trans KV4), G.kp ((KV2.trans KV3).trans KV4), (Nat.lt_of_lt_of_le hlt0 KV1.size), (Nat.lt_of_lt_of_le hlt0 (Kp.refl _).size), (Nat.ne_of_gt (Nat.lt_of_lt_of_le G.lt (Kp.refl _).size)), (rS1.kept KV4).low (KW0.trans (KV1.trans KV2)).size, (rD1.kept KV4).low (KW0.trans (KV1.trans KV2)).size, (rS2.kept (Kp.refl _)).low (KW0.trans ((KV1.trans KV2).trans KV3)).size, (rD2.kept (Kp.refl _)).low (KW0.trans ((KV1.trans KV2).trans KV3)).size, ap1, (apart_of rS1 rS2 (Kp.refl _).size), (apart_of rS1 rD2 (Kp.refl _).size), (apart_of rD1 rS2 (Kp.refl _).size), (apart_of rD1 rD2 (Kp.refl _).size)⟩
        obtain ⟨c0, c1, c2, c3⟩ := P4.u.all
        have f0 := P4.u.fr 0
        have f1 := P4.u.fr 1
        have f2 := P4.u.fr 2
        have f3 := P4.u.fr 3
        obtain ⟨V5, HV5, X5, G5, V6, HV6, X6, O6⟩ := P4.one
        refine wpAnyH_ready (rs := [6]) (by kernel_rfl) (by simp) ?_
        refine AllReadyH.cons (o := Oper.mk none _ _ _ _ _) rfl (fun K hK => ?_) AllReadyH.nil
        go_simp
        go_wp2_with fail
        rw [← HV5.out]
        refine hK.out _ _ ?_ (fun hHeld => ?_)
        · exact X5.all
        clear hK K HV5 c0 c1 c2 c3 f0 f1 f2 f3
        try simp only [Act.put, List.setIfInBounds_toArray, List.set_cons_zero, List.set_cons_succ]
        obtain ⟨c0, c1, c2, c3⟩ := G5.all
        have f0 := G5.fr 0
        have f1 := G5.fr 1
        have f2 := G5.fr 2
        have f3 := G5.fr 3
        refine wpAnyH_ready (rs := [7]) (by kernel_rfl) (by simp) ?_
        refine AllReadyH.cons (o := Oper.mk none _ _ _ _ _) rfl (fun K hK => ?_) AllReadyH.nil
        go_simp
        go_wp2_with fail
        rw [← HV6.out]
        refine hK.out _ _ ?_ (fun hHeld => ?_)
        · exact X6.all
        clear hK K HV6 c0 c1 c2 c3 f0 f1 f2 f3
        try simp only [Act.put, List.setIfInBounds_toArray, List.set_cons_zero, List.set_cons_succ]
        refine wpAnyH_done (by kernel_rfl) ?_ _
        refine NoPanic.normal ?_
        go_wp2_with fail
        go_meet
        exact ⟨_, _, _, _, _, _, rfl, rfl, O6⟩
  case rest =>
    obtain ⟨gu, gv, sa, da, sb, db, rfl, rfl, O⟩ := hcut
    have hsy := h.s.by'
    have hdy := h.d.by'
    have HS1 : Hid (∀ W, Own2 w W t gu gv sa da sb db t.sz t.dz → Calls Try.prog 17 #[.agg #[.int .i64 t.p, .int .i64 t.c, .slice sa t.sl t.sl, .slice da t.dl t.dl], .agg #[.int .i64 t.p, .int .i64 t.c, .slice t.sa t.sl t.sc, .slice t.da t.dl t.dc]] W fun e w' => e = .returned (.bool true) ∧ Kp W w') := fun W o => same_any _ _ _ _ _ _ _ _ _ _ _ _ _ _ W o.us.nat o.ud.nat (h.s.kept o.kp) (h.d.kept o.kp)
    have HS2 : Hid (∀ W, Kp w W → Row W w.heap.size sb t.sl t.sz → Row W w.heap.size db t.dl t.dz → Calls Try.prog 17 #[.agg #[.int .i64 t.p, .int .i64 t.c, .slice t.sa t.sl t.sc, .slice t.da t.dl t.dc], .agg #[.int .i64 t.p, .int .i64 t.c, .slice sb t.sl t.sl, .slice db t.dl t.dl]] W fun e w' => e = .returned (.bool true) ∧ Kp W w') := fun W k r1 r2 => same_any _ _ _ _ _ _ _ _ _ _ _ _ _ _ W (h.s.kept k) (h.d.kept k) r1.nat r2.nat
    clear HO X K0 h
    obtain ⟨y0, y1, y2, y3⟩ := O.u.all
    obtain ⟨x0, x1, x2, x3⟩ := O.x.all
    go_wp2_with fail
    refine (HS1.out _ O).mono ?_
    rintro e w1 ⟨rfl, k1⟩
    have O1 := O.kept k1
    clear y0 y1 y2 y3 x0 x1 x2 x3 O k1 HS1
    go_wp2
    go_loopw [5] (fun i wr => ∃ (k : Nat) (zs ds : List Int), k ≤ t.sl ∧ i = .int .i64 k ∧ Own2 w wr t gu gv sa da sb db zs ds) (fun i _ => t.sl - (intOf i).toNat)
    case atStart => exact ⟨0, _, _, Nat.zero_le _, rfl, O1⟩
    case round =>
      clear O1
      obtain ⟨k, zs, ds, hk, rfl, O⟩ := hrel
      obtain ⟨y0, y1, y2, y3⟩ := O.u.all
      by_cases hlt : k < t.sl
      · have hlt' : (k : Int) < (t.sl : Int) := by omega
        have hk0 : (0 : Int) ≤ (k : Int) := by omega
        have hk1 : (k : Int).toNat = k := by omega
        obtain ⟨g, e, hg, hc, hf⟩ := O.us.one hlt
        have HN : Hid (∀ x, Own2 w (wr.drew.setCell ⟨g, k, none⟩ (.int .i64 (bits .xor .i64 x 1))) t gu gv sa da sb db (zs.set k (bits .xor .i64 x 1)) ds) := fun x => (O.kept (tkp_drew _)).setS e hlt (xor_in _ _)
        rw [e] at y2
        clear O
        generalize zs.getD k 0 = x at *
        go_wp2_with fail
        go_region
        all_goals
          go_wp2
          go_roundw
          case rel => exact ⟨k + 1, _, _, by omega, by go_num, HN.out x⟩
          case measure => simp [intOf]; omega
      · have hlt' : ¬ (k : Int) < (t.sl : Int) := by omega
        go_wp2
        go_loopw [6] (fun i wr => ∃ (k : Nat) (zs ds : List Int), k ≤ t.dl ∧ i = .int .i64 k ∧ Own2 w wr t gu gv sa da sb db zs ds) (fun i _ => t.dl - (intOf i).toNat)
        case atStart => exact ⟨0, _, _, Nat.zero_le _, rfl, O⟩
        case round =>
          clear O y0 y1 y2 y3 hlt hlt' hk
          obtain ⟨k, zs, ds, hk, rfl, O⟩ := hrel
          obtain ⟨y0, y1, y2, y3⟩ := O.u.all
          by_cases hlt : k < t.dl
          · have hlt' : (k : Int) < (t.dl : Int) := by omega
            have hk0 : (0 : Int) ≤ (k : Int) := by omega
            have hk1 : (k : Int).toNat = k := by omega
            obtain ⟨g, e, hg, hc, hf⟩ := O.ud.one hlt
            have HN : Hid (∀ x, Own2 w (wr.drew.setCell ⟨g, k, none⟩ (.int .i64 (bits .xor .i64 x 1))) t gu gv sa da sb db zs (ds.set k (bits .xor .i64 x 1))) := fun x => (O.kept (tkp_drew _)).setD e hlt (xor_in _ _)
            rw [e] at y3
            clear O
            generalize ds.getD k 0 = x at *
            go_wp2_with fail
            go_region
            all_goals
              go_wp2
              go_roundw
              case rel => exact ⟨k + 1, _, _, by omega, by go_num, HN.out x⟩
              case measure => simp [intOf]; omega
          · have hlt' : ¬ (k : Int) < (t.dl : Int) := by omega
            go_wp2_with fail
            refine (tanswers_any _).mono ?_
            rintro e w2 ⟨rfl, k2⟩
            have O2 := O.kept k2
            clear O k2 y0 y1 y2 y3
            obtain ⟨x0, x1, x2, x3⟩ := O2.x.all
            obtain ⟨y0, y1, y2, y3⟩ := O2.v.all
            go_wp2_with fail
            refine (HS2.out _ O2.kp O2.vs O2.vd).mono ?_
            rintro e w3 ⟨rfl, k3⟩
            go_wp2
            go_ret
            exact ⟨rfl, HE.out _ (O2.kp.trans k3)⟩

end Go.Proofs.Ytgdjdhkehgjgfaa.TK
