/- Without a policy it is the fastest level; as the static or the saving one says it is no slower than the level that would do, and no slower than when it is as slow as can be. -/
import Derived.Test.YtlhacdbeadchjaaGovLaw
import Derived.Deep.CutRange
namespace Go.Proofs.Ytlhacdbeadchjaa.GV
open Go.ChangeShapes Go.WideShapes Go.ChangeAt Go.RowKit Go.Proofs.Ytlhacdbeadchjaa.AR Go.Proofs.Ytlhacdbeadchjaa.TB Go.Proofs.Ytlhacdbeadchjaa.FX
set_option linter.unusedVariables false

theorem zero_facts {V : World} {b : Nat} (e : V.heap[b]? = some (.cells #[.int .i64 0, .int .i64 0, .int .i64 0, .int .i64 0, .int .i64 0] 28 (0, 0))) :
    (V.cell? ⟨b, 0, none⟩ = some (.int .i64 0) ∧ V.cell? ⟨b, 1, none⟩ = some (.int .i64 0) ∧ V.cell? ⟨b, 2, none⟩ = some (.int .i64 0) ∧ V.cell? ⟨b, 3, none⟩ = some (.int .i64 0) ∧ V.cell? ⟨b, 4, none⟩ = some (.int .i64 0)) ∧
    (V.frozen? ⟨b, 0, none⟩ = false ∧ V.frozen? ⟨b, 1, none⟩ = false ∧ V.frozen? ⟨b, 2, none⟩ = false ∧ V.frozen? ⟨b, 3, none⟩ = false ∧ V.frozen? ⟨b, 4, none⟩ = false) := by
  simp [World.cell?, World.frozen?, e]

/-- a block of zeros is filled -/
theorem fill {w V : World} {b : Nat} {a : Ak} (hb : w.heap.size ≤ b) (k : Kp w V) (e : V.heap[b]? = some (.cells #[.int .i64 0, .int .i64 0, .int .i64 0, .int .i64 0, .int .i64 0] 28 (0, 0))) :
    ∃ X, Hid (X = ((((V.setCell ⟨b, 0, none⟩ (.int .i64 a.pol)).setCell ⟨b, 0 + 1, none⟩ (.int .i64 a.st)).setCell ⟨b, 0 + 2, none⟩ (.int .i64 a.lf)).setCell ⟨b, 0 + 3, none⟩ (.int .i64 a.sl)).setCell ⟨b, 0 + 4, none⟩ (.int .i64 a.lv)) ∧
      Kp w X ∧ A5 X b a ∧ ∀ (c : Nat) (o : Obj), c ≠ b → V.heap[c]? = some o → X.heap[c]? = some o := by
  refine ⟨_, rfl, ((((k.setCell (p := ⟨b, 0, none⟩) hb _).setCell (p := ⟨b, 0 + 1, none⟩) hb _).setCell (p := ⟨b, 0 + 2, none⟩) hb _).setCell (p := ⟨b, 0 + 3, none⟩) hb _).setCell (p := ⟨b, 0 + 4, none⟩) hb _, ⟨?_⟩, fun c o hc q => ?_⟩
  · have s0 := heap_setCell_same V b 0 _ _ (.int .i64 a.pol) e
    have s1 := heap_setCell_same _ b 1 _ _ (.int .i64 a.st) s0
    have s2 := heap_setCell_same _ b 2 _ _ (.int .i64 a.lf) s1
    have s3 := heap_setCell_same _ b 3 _ _ (.int .i64 a.sl) s2
    exact (heap_setCell_same _ b 4 _ _ (.int .i64 a.lv) s3).trans rfl
  · exact (heap_setCell_other _ _ c _ hc).trans ((heap_setCell_other _ _ c _ hc).trans ((heap_setCell_other _ _ c _ hc).trans ((heap_setCell_other _ _ c _ hc).trans ((heap_setCell_other _ _ c _ hc).trans q))))

/-- the question with another policy -/
def Ak.pl (a : Ak) (p : Int) : Ak := ⟨p, a.st, a.lf, a.sl, a.lv⟩

theorem A5.fr {w : World} {g : Nat} {a : Ak} (h : A5 w g a) (i : Nat) : w.frozen? ⟨g, i, none⟩ = false := by simp [World.frozen?, h.blk]
theorem A5.pol {w : World} {g : Nat} {a : Ak} (h : A5 w g a) (p : Int) : A5 (w.setCell ⟨g, 0, none⟩ (.int .i64 p)) g (a.pl p) := ⟨(heap_setCell_same w g 0 _ _ (.int .i64 p) h.blk).trans rfl⟩
theorem A5.other {w : World} {g : Nat} {a : Ak} (h : A5 w g a) {p : Addr} (hp : g ≠ p.block) (u : Value) : A5 (w.setCell p u) g a := ⟨(heap_setCell_other w p g u hp).trans h.blk⟩

/-- the four, each with its policy -/
theorem four_pol {w wc : World} {a : Ak} {g5 g6 g7 g8 : Nat} (kc : Kp w wc) (z5 : w.heap.size ≤ g5) (z6 : w.heap.size ≤ g6) (z7 : w.heap.size ≤ g7) (z8 : w.heap.size ≤ g8) (n56 : g5 ≠ g6) (n57 : g5 ≠ g7) (n58 : g5 ≠ g8) (n67 : g6 ≠ g7) (n68 : g6 ≠ g8) (n78 : g7 ≠ g8) (a5 : A5 wc g5 a) (a6 : A5 wc g6 a) (a7 : A5 wc g7 a) (a8 : A5 wc g8 a) :
    ∃ X, Hid (X = (((wc.setCell ⟨g5, 0, none⟩ (.int .i64 0)).setCell ⟨g6, 0, none⟩ (.int .i64 1)).setCell ⟨g7, 0, none⟩ (.int .i64 2)).setCell ⟨g8, 0, none⟩ (.int .i64 3)) ∧
      Kp w X ∧ A5 X g5 (a.pl 0) ∧ A5 X g6 (a.pl 1) ∧ A5 X g7 (a.pl 2) ∧ A5 X g8 (a.pl 3) :=
  ⟨_, rfl, (((kc.setCell (p := ⟨g5, 0, none⟩) z5 _).setCell (p := ⟨g6, 0, none⟩) z6 _).setCell (p := ⟨g7, 0, none⟩) z7 _).setCell (p := ⟨g8, 0, none⟩) z8 _,
    (((a5.pol 0).other (p := ⟨g6, 0, none⟩) n56 _).other (p := ⟨g7, 0, none⟩) n57 _).other (p := ⟨g8, 0, none⟩) n58 _,
    (((a6.other (p := ⟨g5, 0, none⟩) (Ne.symm n56) _).pol 1).other (p := ⟨g7, 0, none⟩) n67 _).other (p := ⟨g8, 0, none⟩) n68 _,
    (((a7.other (p := ⟨g5, 0, none⟩) (Ne.symm n57) _).other (p := ⟨g6, 0, none⟩) (Ne.symm n67) _).pol 2).other (p := ⟨g8, 0, none⟩) n78 _,
    (((a8.other (p := ⟨g5, 0, none⟩) (Ne.symm n58) _).other (p := ⟨g6, 0, none⟩) (Ne.symm n68) _).other (p := ⟨g7, 0, none⟩) (Ne.symm n78) _).pol 3⟩

/-- four copies of a question, in blocks of their own -/
def FourR (w1 : World) (a : Ak) (c5 c6 c7 c8 : Value) (wx : World) : Prop :=
  ∃ g5 g6 g7 g8 : Nat, c5 = .pointer (some ⟨g5, 0, none⟩) ∧ c6 = .pointer (some ⟨g6, 0, none⟩) ∧ c7 = .pointer (some ⟨g7, 0, none⟩) ∧ c8 = .pointer (some ⟨g8, 0, none⟩) ∧ Kp w1 wx ∧
    (w1.heap.size ≤ g5 ∧ w1.heap.size ≤ g6 ∧ w1.heap.size ≤ g7 ∧ w1.heap.size ≤ g8) ∧ (g5 ≠ g6 ∧ g5 ≠ g7 ∧ g5 ≠ g8 ∧ g6 ≠ g7 ∧ g6 ≠ g8 ∧ g7 ≠ g8) ∧ A5 wx g5 a ∧ A5 wx g6 a ∧ A5 wx g7 a ∧ A5 wx g8 a

set_option maxRecDepth 100000 in
set_option maxHeartbeats 40000000 in
theorem governPolicies_go (m : Mc) (a : Ak) (w : World) (hm : m.At w) (ha : I64 a.sl) :
    Calls Try.prog 7 #[m.v, a.v] w fun e w' => e = .returned (.bool true) ∧ Below w.heap.size w w' := by
  have HE : Hid (∀ w', Kp w w' → Below w.heap.size w w') := fun w' q => q
  obtain ⟨W0, HW, K0, P0, A0⟩ := ma_box w m a
  have HP : Hid (∀ W, Kp W0 W → B9 W w.heap.size m ∧ A5 W (w.heap.size + 1) a) := fun W k => ⟨P0.kp k, A0.kp k⟩
  have HK : Hid (Kp w W0) := K0
  have HG : Hid (Calls Try.prog 8 #[m.v, a.v] W0 fun e w' => e = .returned (.bool (goodB m a)) ∧ Kp W0 w') := good_any m a W0 (hm.kept K0)
  have HD : Hid (goodB m a = true → Bd m ∧ 0 ≤ a.lf ∧ a.lf ≤ 8192) := good_t
  obtain ⟨p0, p1, p2, p3, p4, p5, p6, p7, p8⟩ := P0.all
  obtain ⟨q0, q1, q2, q3, q4⟩ := A0.all
  generalize goodB m a = gd at *
  have HM : Hid (m.At W0) := hm.kept K0
  unfold Mc.v Ak.v at *
  clear K0 P0 A0
  cases gd with
  | false =>
    go_enter Try.func7, Try.ntmps7
    go_wp2_with fail
    rw [← HW.out]
    refine Calls.mono HG.out ?_
    rintro e w1 ⟨rfl, k1⟩
    go_wp2_with fail
    refine (ganswers_any _).mono ?_
    rintro e w2 ⟨rfl, k2⟩
    go_wp2
    go_ret
    exact ⟨rfl, HE.out _ ((HK.out.trans k1).trans k2)⟩
  | true =>
    obtain ⟨hb, hl⟩ := HD.out rfl
    have HB : Hid (Bd m) := hb
    have HL : Hid (0 ≤ a.lf ∧ a.lf ≤ 8192) := hl
    clear HD hb hl
    go_enter Try.func7, Try.ntmps7
    try dsimp only [List.append]
    go_wp2_with fail
    rw [← HW.out]
    clear HW
    refine Calls.mono HG.out ?_
    rintro e w1 ⟨rfl, k1⟩
    have HK1 : Hid (Kp W0 w1) := k1
    have HSx : Hid (∀ W, Kp w1 W → W.cell? ⟨w.heap.size + 1, 0, none⟩ = some (.int .i64 a.pol) ∧ W.cell? ⟨w.heap.size + 1, 1, none⟩ = some (.int .i64 a.st) ∧ W.cell? ⟨w.heap.size + 1, 2, none⟩ = some (.int .i64 a.lf) ∧ W.cell? ⟨w.heap.size + 1, 3, none⟩ = some (.int .i64 a.sl) ∧ W.cell? ⟨w.heap.size + 1, 4, none⟩ = some (.int .i64 a.lv)) := fun W q => (HP.out _ (HK1.out.trans q)).2.all
    clear p0 p1 p2 p3 p4 p5 p6 p7 p8 q0 q1 q2 q3 q4 k1 HG
    go_upto_region 3 with fail
    go_cut [5, 6, 7, 8] from 15 to 18 (fun c5 c6 c7 c8 wx => FourR w1 a c5 c6 c7 c8 wx)
    case first =>
      refine wp_region_noPanic ?_
      refine wp_region_held_drew (S := fun w' => w'.cell? ⟨w.heap.size + 1, 0, none⟩ = some (.int .i64 a.pol) ∧ w'.cell? ⟨w.heap.size + 1, 1, none⟩ = some (.int .i64 a.st) ∧ w'.cell? ⟨w.heap.size + 1, 2, none⟩ = some (.int .i64 a.lf) ∧ w'.cell? ⟨w.heap.size + 1, 3, none⟩ = some (.int .i64 a.sl) ∧ w'.cell? ⟨w.heap.size + 1, 4, none⟩ = some (.int .i64 a.lv)) (by kernel_rfl) ?_ (fun hHeld => ?_)
      · exact HSx.out _ (TB.kp_drew _)
      obtain ⟨V0, HV0⟩ : ∃ V0, Hid (V0 = w1.drew) := ⟨_, rfl⟩
      have KV0 : Kp w1 V0 := by rw [HV0.out]; exact TB.kp_drew _
      have hq0 := KV0.size
      rw [← HV0.out]
      clear HV0
      have hHeld0 := HSx.out _ KV0
      refine wpAnyH_take (i := 0) (oi := Oper.mk (some 15) _ _ _ _ _) (v := ?v0A) rfl (by kernel_rfl) (by kernel_rfl) (by kernel_rfl) (fun _ _ _ h => h) (Or.inl ⟨by rfl, ?hy0A⟩) (by assumption) ?rest0A
      case hy0A => (intro w0 hSw; (try dsimp only at hSw); go_simp; try with_reducible rfl)
      try simp only [Act.put, List.setIfInBounds_toArray, List.set_cons_zero, List.set_cons_succ]
      refine wpAnyH_take (i := 1) (oi := Oper.mk (some 16) _ _ _ _ _) (v := ?v1A) rfl (by kernel_rfl) (by kernel_rfl) (by kernel_rfl) (fun _ _ _ h => h) (Or.inl ⟨by rfl, ?hy1A⟩) (by assumption) ?rest1A
      case hy1A => (intro w0 hSw; (try dsimp only at hSw); go_simp; try with_reducible rfl)
      try simp only [Act.put, List.setIfInBounds_toArray, List.set_cons_zero, List.set_cons_succ]
      refine wpAnyH_take (i := 2) (oi := Oper.mk (some 17) _ _ _ _ _) (v := ?v2A) rfl (by kernel_rfl) (by kernel_rfl) (by kernel_rfl) (fun _ _ _ h => h) (Or.inl ⟨by rfl, ?hy2A⟩) (by assumption) ?rest2A
      case hy2A => (intro w0 hSw; (try dsimp only at hSw); go_simp; try with_reducible rfl)
      try simp only [Act.put, List.setIfInBounds_toArray, List.set_cons_zero, List.set_cons_succ]
      refine wpAnyH_take (i := 3) (oi := Oper.mk (some 18) _ _ _ _ _) (v := ?v3A) rfl (by kernel_rfl) (by kernel_rfl) (by kernel_rfl) (fun _ _ _ h => h) (Or.inl ⟨by rfl, ?hy3A⟩) (by assumption) ?rest3A
      case hy3A => (intro w0 hSw; (try dsimp only at hSw); go_simp; try with_reducible rfl)
      try simp only [Act.put, List.setIfInBounds_toArray, List.set_cons_zero, List.set_cons_succ]
      refine wpAnyH_ready (rs := [4, 5, 6, 7]) (by kernel_rfl) (by simp) ?_
      refine AllReadyH.cons (o := Oper.mk (some 5) _ _ _ _ _) rfl (fun K hK => ?_) (AllReadyH.cons (o := Oper.mk (some 6) _ _ _ _ _) rfl (fun K hK => ?_) (AllReadyH.cons (o := Oper.mk (some 7) _ _ _ _ _) rfl (fun K hK => ?_) (AllReadyH.cons (o := Oper.mk (some 8) _ _ _ _ _) rfl (fun K hK => ?_) AllReadyH.nil)))
      · go_simp
        go_wp2_with fail
        obtain ⟨V1, HV1⟩ : ∃ V1, Hid (V1 = V0.alloc (.cells #[.int .i64 0, .int .i64 0, .int .i64 0, .int .i64 0, .int .i64 0] 28)) := ⟨_, rfl⟩
        have KS1 : Kp V0 V1 := by rw [HV1.out]; exact (Kp.refl _).alloc _
        have KV1 : Kp w1 V1 := KV0.trans KS1
        have E4_1 : V1.heap[V0.heap.size]? = some (.cells #[.int .i64 0, .int .i64 0, .int .i64 0, .int .i64 0, .int .i64 0] 28 (0, 0)) := by rw [HV1.out]; exact heap_alloc_at _ _
        have hq1 := lt_blk E4_1
        rw [← HV1.out]
        clear HV1
        refine hK.out _ _ ?_ (fun hHeld => ?_)
        · exact HSx.out _ KV1
        clear hK K
        try simp only [Act.put, List.setIfInBounds_toArray, List.set_cons_zero, List.set_cons_succ]
        refine wpAnyH_ready (rs := [5, 6, 7]) (by kernel_rfl) (by simp) ?_
        refine AllReadyH.cons (o := Oper.mk (some 6) _ _ _ _ _) rfl (fun K hK => ?_) (AllReadyH.cons (o := Oper.mk (some 7) _ _ _ _ _) rfl (fun K hK => ?_) (AllReadyH.cons (o := Oper.mk (some 8) _ _ _ _ _) rfl (fun K hK => ?_) AllReadyH.nil))
        · go_simp
          go_wp2_with fail
          obtain ⟨V2, HV2⟩ : ∃ V2, Hid (V2 = V1.alloc (.cells #[.int .i64 0, .int .i64 0, .int .i64 0, .int .i64 0, .int .i64 0] 28)) := ⟨_, rfl⟩
          have KS2 : Kp V1 V2 := by rw [HV2.out]; exact (Kp.refl _).alloc _
          have KV2 : Kp w1 V2 := KV1.trans KS2
          have E5_2 : V2.heap[V1.heap.size]? = some (.cells #[.int .i64 0, .int .i64 0, .int .i64 0, .int .i64 0, .int .i64 0] 28 (0, 0)) := by rw [HV2.out]; exact heap_alloc_at _ _
          have hq2 := lt_blk E5_2
          rw [← HV2.out]
          clear HV2
          have E4_2 := kp_block E4_1 KS2
          clear E4_1
          refine hK.out _ _ ?_ (fun hHeld => ?_)
          · exact HSx.out _ KV2
          clear hK K
          try simp only [Act.put, List.setIfInBounds_toArray, List.set_cons_zero, List.set_cons_succ]
          refine wpAnyH_ready (rs := [6, 7]) (by kernel_rfl) (by simp) ?_
          refine AllReadyH.cons (o := Oper.mk (some 7) _ _ _ _ _) rfl (fun K hK => ?_) (AllReadyH.cons (o := Oper.mk (some 8) _ _ _ _ _) rfl (fun K hK => ?_) AllReadyH.nil)
          · go_simp
            go_wp2_with fail
            obtain ⟨V3, HV3⟩ : ∃ V3, Hid (V3 = V2.alloc (.cells #[.int .i64 0, .int .i64 0, .int .i64 0, .int .i64 0, .int .i64 0] 28)) := ⟨_, rfl⟩
            have KS3 : Kp V2 V3 := by rw [HV3.out]; exact (Kp.refl _).alloc _
            have KV3 : Kp w1 V3 := KV2.trans KS3
            have E6_3 : V3.heap[V2.heap.size]? = some (.cells #[.int .i64 0, .int .i64 0, .int .i64 0, .int .i64 0, .int .i64 0] 28 (0, 0)) := by rw [HV3.out]; exact heap_alloc_at _ _
            have hq3 := lt_blk E6_3
            rw [← HV3.out]
            clear HV3
            have E4_3 := kp_block E4_2 KS3
            have E5_3 := kp_block E5_2 KS3
            clear E4_2 E5_2
            refine hK.out _ _ ?_ (fun hHeld => ?_)
            · exact HSx.out _ KV3
            clear hK K
            try simp only [Act.put, List.setIfInBounds_toArray, List.set_cons_zero, List.set_cons_succ]
            refine wpAnyH_ready (rs := [7]) (by kernel_rfl) (by simp) ?_
            refine AllReadyH.cons (o := Oper.mk (some 8) _ _ _ _ _) rfl (fun K hK => ?_) AllReadyH.nil
            go_simp
            go_wp2_with fail
            obtain ⟨V4, HV4⟩ : ∃ V4, Hid (V4 = V3.alloc (.cells #[.int .i64 0, .int .i64 0, .int .i64 0, .int .i64 0, .int .i64 0] 28)) := ⟨_, rfl⟩
            have KS4 : Kp V3 V4 := by rw [HV4.out]; exact (Kp.refl _).alloc _
            have KV4 : Kp w1 V4 := KV3.trans KS4
            have E7_4 : V4.heap[V3.heap.size]? = some (.cells #[.int .i64 0, .int .i64 0, .int .i64 0, .int .i64 0, .int .i64 0] 28 (0, 0)) := by rw [HV4.out]; exact heap_alloc_at _ _
            have hq4 := lt_blk E7_4
            rw [← HV4.out]
            clear HV4
            have E4_4 := kp_block E4_3 KS4
            have E5_4 := kp_block E5_3 KS4
            have E6_4 := kp_block E6_3 KS4
            clear E4_3 E5_3 E6_3
            refine hK.out _ _ ?_ (fun hHeld => ?_)
            · exact HSx.out _ KV4
            clear hK K
            try simp only [Act.put, List.setIfInBounds_toArray, List.set_cons_zero, List.set_cons_succ]
            obtain ⟨X0, HX0⟩ : ∃ X0, X0 = V4 := ⟨_, rfl⟩
            have KX0 : Kp w1 X0 := HX0 ▸ KV4
            have F4_0 := HX0 ▸ E4_4
            have F5_0 := HX0 ▸ E5_4
            have F6_0 := HX0 ▸ E6_4
            have F7_0 := HX0 ▸ E7_4
            rw [← HX0]
            clear HX0
            refine wpAnyH_ready (rs := [8]) (by kernel_rfl) (by simp) ?_
            refine AllReadyH.cons (o := Oper.mk none _ _ _ _ _) rfl (fun K hK => ?_) AllReadyH.nil
            obtain ⟨⟨c0, c1, c2, c3, c4⟩, ⟨f0, f1, f2, f3, f4⟩⟩ := zero_facts F4_0
            obtain ⟨X1, HX1, KX1, A4_1, N1⟩ := fill (a := a) (show w1.heap.size ≤ V0.heap.size by omega) KX0 F4_0
            go_simp
            go_wp2_with fail
            rw [← HX1.out]
            clear HX1 c0 c1 c2 c3 c4 f0 f1 f2 f3 f4
            have F5_1 := N1 _ _ (by omega) F5_0
            have F6_1 := N1 _ _ (by omega) F6_0
            have F7_1 := N1 _ _ (by omega) F7_0
            refine hK.out _ _ ?_ (fun hHeld => ?_)
            · exact HSx.out _ KX1
            clear hK K
            try simp only [Act.put, List.setIfInBounds_toArray, List.set_cons_zero, List.set_cons_succ]
            refine wpAnyH_ready (rs := [9]) (by kernel_rfl) (by simp) ?_
            refine AllReadyH.cons (o := Oper.mk none _ _ _ _ _) rfl (fun K hK => ?_) AllReadyH.nil
            obtain ⟨⟨c0, c1, c2, c3, c4⟩, ⟨f0, f1, f2, f3, f4⟩⟩ := zero_facts F5_1
            obtain ⟨X2, HX2, KX2, A5_2, N2⟩ := fill (a := a) (show w1.heap.size ≤ V1.heap.size by omega) KX1 F5_1
            go_simp
            go_wp2_with fail
            rw [← HX2.out]
            clear HX2 c0 c1 c2 c3 c4 f0 f1 f2 f3 f4
            have A4_2 := A5.mk (N2 _ _ (by omega) A4_1.blk)
            have F6_2 := N2 _ _ (by omega) F6_1
            have F7_2 := N2 _ _ (by omega) F7_1
            refine hK.out _ _ ?_ (fun hHeld => ?_)
            · exact HSx.out _ KX2
            clear hK K
            try simp only [Act.put, List.setIfInBounds_toArray, List.set_cons_zero, List.set_cons_succ]
            refine wpAnyH_ready (rs := [10]) (by kernel_rfl) (by simp) ?_
            refine AllReadyH.cons (o := Oper.mk none _ _ _ _ _) rfl (fun K hK => ?_) AllReadyH.nil
            obtain ⟨⟨c0, c1, c2, c3, c4⟩, ⟨f0, f1, f2, f3, f4⟩⟩ := zero_facts F6_2
            obtain ⟨X3, HX3, KX3, A6_3, N3⟩ := fill (a := a) (show w1.heap.size ≤ V2.heap.size by omega) KX2 F6_2
            go_simp
            go_wp2_with fail
            rw [← HX3.out]
            clear HX3 c0 c1 c2 c3 c4 f0 f1 f2 f3 f4
            have A4_3 := A5.mk (N3 _ _ (by omega) A4_2.blk)
            have A5_3 := A5.mk (N3 _ _ (by omega) A5_2.blk)
            have F7_3 := N3 _ _ (by omega) F7_2
            refine hK.out _ _ ?_ (fun hHeld => ?_)
            · exact HSx.out _ KX3
            clear hK K
            try simp only [Act.put, List.setIfInBounds_toArray, List.set_cons_zero, List.set_cons_succ]
            refine wpAnyH_ready (rs := [11]) (by kernel_rfl) (by simp) ?_
            refine AllReadyH.cons (o := Oper.mk none _ _ _ _ _) rfl (fun K hK => ?_) AllReadyH.nil
            obtain ⟨⟨c0, c1, c2, c3, c4⟩, ⟨f0, f1, f2, f3, f4⟩⟩ := zero_facts F7_3
            obtain ⟨X4, HX4, KX4, A7_4, N4⟩ := fill (a := a) (show w1.heap.size ≤ V3.heap.size by omega) KX3 F7_3
            go_simp
            go_wp2_with fail
            rw [← HX4.out]
            clear HX4 c0 c1 c2 c3 c4 f0 f1 f2 f3 f4
            have A4_4 := A5.mk (N4 _ _ (by omega) A4_3.blk)
            have A5_4 := A5.mk (N4 _ _ (by omega) A5_3.blk)
            have A6_4 := A5.mk (N4 _ _ (by omega) A6_3.blk)
            refine hK.out _ _ ?_ (fun hHeld => ?_)
            · exact HSx.out _ KX4
            clear hK K
            try simp only [Act.put, List.setIfInBounds_toArray, List.set_cons_zero, List.set_cons_succ]
            refine wpAnyH_done (by kernel_rfl) ?_ _
            refine NoPanic.normal ?_
            go_wp2
            go_meet
            exact ⟨V0.heap.size, V1.heap.size, V2.heap.size, V3.heap.size, rfl, rfl, rfl, rfl, KX4, ⟨by omega, by omega, by omega, by omega⟩, ⟨by omega, by omega, by omega, by omega, by omega, by omega⟩, A4_4, A5_4, A6_4, A7_4⟩
          · go_simp
            go_wp2_with fail
            obtain ⟨V3, HV3⟩ : ∃ V3, Hid (V3 = V2.alloc (.cells #[.int .i64 0, .int .i64 0, .int .i64 0, .int .i64 0, .int .i64 0] 28)) := ⟨_, rfl⟩
            have KS3 : Kp V2 V3 := by rw [HV3.out]; exact (Kp.refl _).alloc _
            have KV3 : Kp w1 V3 := KV2.trans KS3
            have E7_3 : V3.heap[V2.heap.size]? = some (.cells #[.int .i64 0, .int .i64 0, .int .i64 0, .int .i64 0, .int .i64 0] 28 (0, 0)) := by rw [HV3.out]; exact heap_alloc_at _ _
            have hq3 := lt_blk E7_3
            rw [← HV3.out]
            clear HV3
            have E4_3 := kp_block E4_2 KS3
            have E5_3 := kp_block E5_2 KS3
            clear E4_2 E5_2
            refine hK.out _ _ ?_ (fun hHeld => ?_)
            · exact HSx.out _ KV3
            clear hK K
            try simp only [Act.put, List.setIfInBounds_toArray, List.set_cons_zero, List.set_cons_succ]
            refine wpAnyH_ready (rs := [6]) (by kernel_rfl) (by simp) ?_
            refine AllReadyH.cons (o := Oper.mk (some 7) _ _ _ _ _) rfl (fun K hK => ?_) AllReadyH.nil
            go_simp
            go_wp2_with fail
            obtain ⟨V4, HV4⟩ : ∃ V4, Hid (V4 = V3.alloc (.cells #[.int .i64 0, .int .i64 0, .int .i64 0, .int .i64 0, .int .i64 0] 28)) := ⟨_, rfl⟩
            have KS4 : Kp V3 V4 := by rw [HV4.out]; exact (Kp.refl _).alloc _
            have KV4 : Kp w1 V4 := KV3.trans KS4
            have E6_4 : V4.heap[V3.heap.size]? = some (.cells #[.int .i64 0, .int .i64 0, .int .i64 0, .int .i64 0, .int .i64 0] 28 (0, 0)) := by rw [HV4.out]; exact heap_alloc_at _ _
            have hq4 := lt_blk E6_4
            rw [← HV4.out]
            clear HV4
            have E4_4 := kp_block E4_3 KS4
            have E5_4 := kp_block E5_3 KS4
            have E7_4 := kp_block E7_3 KS4
            clear E4_3 E5_3 E7_3
            refine hK.out _ _ ?_ (fun hHeld => ?_)
            · exact HSx.out _ KV4
            clear hK K
            try simp only [Act.put, List.setIfInBounds_toArray, List.set_cons_zero, List.set_cons_succ]
            obtain ⟨X0, HX0⟩ : ∃ X0, X0 = V4 := ⟨_, rfl⟩
            have KX0 : Kp w1 X0 := HX0 ▸ KV4
            have F4_0 := HX0 ▸ E4_4
            have F5_0 := HX0 ▸ E5_4
            have F6_0 := HX0 ▸ E6_4
            have F7_0 := HX0 ▸ E7_4
            rw [← HX0]
            clear HX0
            refine wpAnyH_ready (rs := [8]) (by kernel_rfl) (by simp) ?_
            refine AllReadyH.cons (o := Oper.mk none _ _ _ _ _) rfl (fun K hK => ?_) AllReadyH.nil
            obtain ⟨⟨c0, c1, c2, c3, c4⟩, ⟨f0, f1, f2, f3, f4⟩⟩ := zero_facts F4_0
            obtain ⟨X1, HX1, KX1, A4_1, N1⟩ := fill (a := a) (show w1.heap.size ≤ V0.heap.size by omega) KX0 F4_0
            go_simp
            go_wp2_with fail
            rw [← HX1.out]
            clear HX1 c0 c1 c2 c3 c4 f0 f1 f2 f3 f4
            have F5_1 := N1 _ _ (by omega) F5_0
            have F6_1 := N1 _ _ (by omega) F6_0
            have F7_1 := N1 _ _ (by omega) F7_0
            refine hK.out _ _ ?_ (fun hHeld => ?_)
            · exact HSx.out _ KX1
            clear hK K
            try simp only [Act.put, List.setIfInBounds_toArray, List.set_cons_zero, List.set_cons_succ]
            refine wpAnyH_ready (rs := [9]) (by kernel_rfl) (by simp) ?_
            refine AllReadyH.cons (o := Oper.mk none _ _ _ _ _) rfl (fun K hK => ?_) AllReadyH.nil
            obtain ⟨⟨c0, c1, c2, c3, c4⟩, ⟨f0, f1, f2, f3, f4⟩⟩ := zero_facts F5_1
            obtain ⟨X2, HX2, KX2, A5_2, N2⟩ := fill (a := a) (show w1.heap.size ≤ V1.heap.size by omega) KX1 F5_1
            go_simp
            go_wp2_with fail
            rw [← HX2.out]
            clear HX2 c0 c1 c2 c3 c4 f0 f1 f2 f3 f4
            have A4_2 := A5.mk (N2 _ _ (by omega) A4_1.blk)
            have F6_2 := N2 _ _ (by omega) F6_1
            have F7_2 := N2 _ _ (by omega) F7_1
            refine hK.out _ _ ?_ (fun hHeld => ?_)
            · exact HSx.out _ KX2
            clear hK K
            try simp only [Act.put, List.setIfInBounds_toArray, List.set_cons_zero, List.set_cons_succ]
            refine wpAnyH_ready (rs := [10]) (by kernel_rfl) (by simp) ?_
            refine AllReadyH.cons (o := Oper.mk none _ _ _ _ _) rfl (fun K hK => ?_) AllReadyH.nil
            obtain ⟨⟨c0, c1, c2, c3, c4⟩, ⟨f0, f1, f2, f3, f4⟩⟩ := zero_facts F6_2
            obtain ⟨X3, HX3, KX3, A6_3, N3⟩ := fill (a := a) (show w1.heap.size ≤ V3.heap.size by omega) KX2 F6_2
            go_simp
            go_wp2_with fail
            rw [← HX3.out]
            clear HX3 c0 c1 c2 c3 c4 f0 f1 f2 f3 f4
            have A4_3 := A5.mk (N3 _ _ (by omega) A4_2.blk)
            have A5_3 := A5.mk (N3 _ _ (by omega) A5_2.blk)
            have F7_3 := N3 _ _ (by omega) F7_2
            refine hK.out _ _ ?_ (fun hHeld => ?_)
            · exact HSx.out _ KX3
            clear hK K
            try simp only [Act.put, List.setIfInBounds_toArray, List.set_cons_zero, List.set_cons_succ]
            refine wpAnyH_ready (rs := [11]) (by kernel_rfl) (by simp) ?_
            refine AllReadyH.cons (o := Oper.mk none _ _ _ _ _) rfl (fun K hK => ?_) AllReadyH.nil
            obtain ⟨⟨c0, c1, c2, c3, c4⟩, ⟨f0, f1, f2, f3, f4⟩⟩ := zero_facts F7_3
            obtain ⟨X4, HX4, KX4, A7_4, N4⟩ := fill (a := a) (show w1.heap.size ≤ V2.heap.size by omega) KX3 F7_3
            go_simp
            go_wp2_with fail
            rw [← HX4.out]
            clear HX4 c0 c1 c2 c3 c4 f0 f1 f2 f3 f4
            have A4_4 := A5.mk (N4 _ _ (by omega) A4_3.blk)
            have A5_4 := A5.mk (N4 _ _ (by omega) A5_3.blk)
            have A6_4 := A5.mk (N4 _ _ (by omega) A6_3.blk)
            refine hK.out _ _ ?_ (fun hHeld => ?_)
            · exact HSx.out _ KX4
            clear hK K
            try simp only [Act.put, List.setIfInBounds_toArray, List.set_cons_zero, List.set_cons_succ]
            refine wpAnyH_done (by kernel_rfl) ?_ _
            refine NoPanic.normal ?_
            go_wp2
            go_meet
            exact ⟨V0.heap.size, V1.heap.size, V3.heap.size, V2.heap.size, rfl, rfl, rfl, rfl, KX4, ⟨by omega, by omega, by omega, by omega⟩, ⟨by omega, by omega, by omega, by omega, by omega, by omega⟩, A4_4, A5_4, A6_4, A7_4⟩
        · go_simp
          go_wp2_with fail
          obtain ⟨V2, HV2⟩ : ∃ V2, Hid (V2 = V1.alloc (.cells #[.int .i64 0, .int .i64 0, .int .i64 0, .int .i64 0, .int .i64 0] 28)) := ⟨_, rfl⟩
          have KS2 : Kp V1 V2 := by rw [HV2.out]; exact (Kp.refl _).alloc _
          have KV2 : Kp w1 V2 := KV1.trans KS2
          have E6_2 : V2.heap[V1.heap.size]? = some (.cells #[.int .i64 0, .int .i64 0, .int .i64 0, .int .i64 0, .int .i64 0] 28 (0, 0)) := by rw [HV2.out]; exact heap_alloc_at _ _
          have hq2 := lt_blk E6_2
          rw [← HV2.out]
          clear HV2
          have E4_2 := kp_block E4_1 KS2
          clear E4_1
          refine hK.out _ _ ?_ (fun hHeld => ?_)
          · exact HSx.out _ KV2
          clear hK K
          try simp only [Act.put, List.setIfInBounds_toArray, List.set_cons_zero, List.set_cons_succ]
          refine wpAnyH_ready (rs := [5, 7]) (by kernel_rfl) (by simp) ?_
          refine AllReadyH.cons (o := Oper.mk (some 6) _ _ _ _ _) rfl (fun K hK => ?_) (AllReadyH.cons (o := Oper.mk (some 8) _ _ _ _ _) rfl (fun K hK => ?_) AllReadyH.nil)
          · go_simp
            go_wp2_with fail
            obtain ⟨V3, HV3⟩ : ∃ V3, Hid (V3 = V2.alloc (.cells #[.int .i64 0, .int .i64 0, .int .i64 0, .int .i64 0, .int .i64 0] 28)) := ⟨_, rfl⟩
            have KS3 : Kp V2 V3 := by rw [HV3.out]; exact (Kp.refl _).alloc _
            have KV3 : Kp w1 V3 := KV2.trans KS3
            have E5_3 : V3.heap[V2.heap.size]? = some (.cells #[.int .i64 0, .int .i64 0, .int .i64 0, .int .i64 0, .int .i64 0] 28 (0, 0)) := by rw [HV3.out]; exact heap_alloc_at _ _
            have hq3 := lt_blk E5_3
            rw [← HV3.out]
            clear HV3
            have E4_3 := kp_block E4_2 KS3
            have E6_3 := kp_block E6_2 KS3
            clear E4_2 E6_2
            refine hK.out _ _ ?_ (fun hHeld => ?_)
            · exact HSx.out _ KV3
            clear hK K
            try simp only [Act.put, List.setIfInBounds_toArray, List.set_cons_zero, List.set_cons_succ]
            refine wpAnyH_ready (rs := [7]) (by kernel_rfl) (by simp) ?_
            refine AllReadyH.cons (o := Oper.mk (some 8) _ _ _ _ _) rfl (fun K hK => ?_) AllReadyH.nil
            go_simp
            go_wp2_with fail
            obtain ⟨V4, HV4⟩ : ∃ V4, Hid (V4 = V3.alloc (.cells #[.int .i64 0, .int .i64 0, .int .i64 0, .int .i64 0, .int .i64 0] 28)) := ⟨_, rfl⟩
            have KS4 : Kp V3 V4 := by rw [HV4.out]; exact (Kp.refl _).alloc _
            have KV4 : Kp w1 V4 := KV3.trans KS4
            have E7_4 : V4.heap[V3.heap.size]? = some (.cells #[.int .i64 0, .int .i64 0, .int .i64 0, .int .i64 0, .int .i64 0] 28 (0, 0)) := by rw [HV4.out]; exact heap_alloc_at _ _
            have hq4 := lt_blk E7_4
            rw [← HV4.out]
            clear HV4
            have E4_4 := kp_block E4_3 KS4
            have E6_4 := kp_block E6_3 KS4
            have E5_4 := kp_block E5_3 KS4
            clear E4_3 E6_3 E5_3
            refine hK.out _ _ ?_ (fun hHeld => ?_)
            · exact HSx.out _ KV4
            clear hK K
            try simp only [Act.put, List.setIfInBounds_toArray, List.set_cons_zero, List.set_cons_succ]
            obtain ⟨X0, HX0⟩ : ∃ X0, X0 = V4 := ⟨_, rfl⟩
            have KX0 : Kp w1 X0 := HX0 ▸ KV4
            have F4_0 := HX0 ▸ E4_4
            have F5_0 := HX0 ▸ E5_4
            have F6_0 := HX0 ▸ E6_4
            have F7_0 := HX0 ▸ E7_4
            rw [← HX0]
            clear HX0
            refine wpAnyH_ready (rs := [8]) (by kernel_rfl) (by simp) ?_
            refine AllReadyH.cons (o := Oper.mk none _ _ _ _ _) rfl (fun K hK => ?_) AllReadyH.nil
            obtain ⟨⟨c0, c1, c2, c3, c4⟩, ⟨f0, f1, f2, f3, f4⟩⟩ := zero_facts F4_0
            obtain ⟨X1, HX1, KX1, A4_1, N1⟩ := fill (a := a) (show w1.heap.size ≤ V0.heap.size by omega) KX0 F4_0
            go_simp
            go_wp2_with fail
            rw [← HX1.out]
            clear HX1 c0 c1 c2 c3 c4 f0 f1 f2 f3 f4
            have F5_1 := N1 _ _ (by omega) F5_0
            have F6_1 := N1 _ _ (by omega) F6_0
            have F7_1 := N1 _ _ (by omega) F7_0
            refine hK.out _ _ ?_ (fun hHeld => ?_)
            · exact HSx.out _ KX1
            clear hK K
            try simp only [Act.put, List.setIfInBounds_toArray, List.set_cons_zero, List.set_cons_succ]
            refine wpAnyH_ready (rs := [9]) (by kernel_rfl) (by simp) ?_
            refine AllReadyH.cons (o := Oper.mk none _ _ _ _ _) rfl (fun K hK => ?_) AllReadyH.nil
            obtain ⟨⟨c0, c1, c2, c3, c4⟩, ⟨f0, f1, f2, f3, f4⟩⟩ := zero_facts F5_1
            obtain ⟨X2, HX2, KX2, A5_2, N2⟩ := fill (a := a) (show w1.heap.size ≤ V2.heap.size by omega) KX1 F5_1
            go_simp
            go_wp2_with fail
            rw [← HX2.out]
            clear HX2 c0 c1 c2 c3 c4 f0 f1 f2 f3 f4
            have A4_2 := A5.mk (N2 _ _ (by omega) A4_1.blk)
            have F6_2 := N2 _ _ (by omega) F6_1
            have F7_2 := N2 _ _ (by omega) F7_1
            refine hK.out _ _ ?_ (fun hHeld => ?_)
            · exact HSx.out _ KX2
            clear hK K
            try simp only [Act.put, List.setIfInBounds_toArray, List.set_cons_zero, List.set_cons_succ]
            refine wpAnyH_ready (rs := [10]) (by kernel_rfl) (by simp) ?_
            refine AllReadyH.cons (o := Oper.mk none _ _ _ _ _) rfl (fun K hK => ?_) AllReadyH.nil
            obtain ⟨⟨c0, c1, c2, c3, c4⟩, ⟨f0, f1, f2, f3, f4⟩⟩ := zero_facts F6_2
            obtain ⟨X3, HX3, KX3, A6_3, N3⟩ := fill (a := a) (show w1.heap.size ≤ V1.heap.size by omega) KX2 F6_2
            go_simp
            go_wp2_with fail
            rw [← HX3.out]
            clear HX3 c0 c1 c2 c3 c4 f0 f1 f2 f3 f4
            have A4_3 := A5.mk (N3 _ _ (by omega) A4_2.blk)
            have A5_3 := A5.mk (N3 _ _ (by omega) A5_2.blk)
            have F7_3 := N3 _ _ (by omega) F7_2
            refine hK.out _ _ ?_ (fun hHeld => ?_)
            · exact HSx.out _ KX3
            clear hK K
            try simp only [Act.put, List.setIfInBounds_toArray, List.set_cons_zero, List.set_cons_succ]
            refine wpAnyH_ready (rs := [11]) (by kernel_rfl) (by simp) ?_
            refine AllReadyH.cons (o := Oper.mk none _ _ _ _ _) rfl (fun K hK => ?_) AllReadyH.nil
            obtain ⟨⟨c0, c1, c2, c3, c4⟩, ⟨f0, f1, f2, f3, f4⟩⟩ := zero_facts F7_3
            obtain ⟨X4, HX4, KX4, A7_4, N4⟩ := fill (a := a) (show w1.heap.size ≤ V3.heap.size by omega) KX3 F7_3
            go_simp
            go_wp2_with fail
            rw [← HX4.out]
            clear HX4 c0 c1 c2 c3 c4 f0 f1 f2 f3 f4
            have A4_4 := A5.mk (N4 _ _ (by omega) A4_3.blk)
            have A5_4 := A5.mk (N4 _ _ (by omega) A5_3.blk)
            have A6_4 := A5.mk (N4 _ _ (by omega) A6_3.blk)
            refine hK.out _ _ ?_ (fun hHeld => ?_)
            · exact HSx.out _ KX4
            clear hK K
            try simp only [Act.put, List.setIfInBounds_toArray, List.set_cons_zero, List.set_cons_succ]
            refine wpAnyH_done (by kernel_rfl) ?_ _
            refine NoPanic.normal ?_
            go_wp2
            go_meet
            exact ⟨V0.heap.size, V2.heap.size, V1.heap.size, V3.heap.size, rfl, rfl, rfl, rfl, KX4, ⟨by omega, by omega, by omega, by omega⟩, ⟨by omega, by omega, by omega, by omega, by omega, by omega⟩, A4_4, A5_4, A6_4, A7_4⟩
          · go_simp
            go_wp2_with fail
            obtain ⟨V3, HV3⟩ : ∃ V3, Hid (V3 = V2.alloc (.cells #[.int .i64 0, .int .i64 0, .int .i64 0, .int .i64 0, .int .i64 0] 28)) := ⟨_, rfl⟩
            have KS3 : Kp V2 V3 := by rw [HV3.out]; exact (Kp.refl _).alloc _
            have KV3 : Kp w1 V3 := KV2.trans KS3
            have E7_3 : V3.heap[V2.heap.size]? = some (.cells #[.int .i64 0, .int .i64 0, .int .i64 0, .int .i64 0, .int .i64 0] 28 (0, 0)) := by rw [HV3.out]; exact heap_alloc_at _ _
            have hq3 := lt_blk E7_3
            rw [← HV3.out]
            clear HV3
            have E4_3 := kp_block E4_2 KS3
            have E6_3 := kp_block E6_2 KS3
            clear E4_2 E6_2
            refine hK.out _ _ ?_ (fun hHeld => ?_)
            · exact HSx.out _ KV3
            clear hK K
            try simp only [Act.put, List.setIfInBounds_toArray, List.set_cons_zero, List.set_cons_succ]
            refine wpAnyH_ready (rs := [5]) (by kernel_rfl) (by simp) ?_
            refine AllReadyH.cons (o := Oper.mk (some 6) _ _ _ _ _) rfl (fun K hK => ?_) AllReadyH.nil
            go_simp
            go_wp2_with fail
            obtain ⟨V4, HV4⟩ : ∃ V4, Hid (V4 = V3.alloc (.cells #[.int .i64 0, .int .i64 0, .int .i64 0, .int .i64 0, .int .i64 0] 28)) := ⟨_, rfl⟩
            have KS4 : Kp V3 V4 := by rw [HV4.out]; exact (Kp.refl _).alloc _
            have KV4 : Kp w1 V4 := KV3.trans KS4
            have E5_4 : V4.heap[V3.heap.size]? = some (.cells #[.int .i64 0, .int .i64 0, .int .i64 0, .int .i64 0, .int .i64 0] 28 (0, 0)) := by rw [HV4.out]; exact heap_alloc_at _ _
            have hq4 := lt_blk E5_4
            rw [← HV4.out]
            clear HV4
            have E4_4 := kp_block E4_3 KS4
            have E6_4 := kp_block E6_3 KS4
            have E7_4 := kp_block E7_3 KS4
            clear E4_3 E6_3 E7_3
            refine hK.out _ _ ?_ (fun hHeld => ?_)
            · exact HSx.out _ KV4
            clear hK K
            try simp only [Act.put, List.setIfInBounds_toArray, List.set_cons_zero, List.set_cons_succ]
            obtain ⟨X0, HX0⟩ : ∃ X0, X0 = V4 := ⟨_, rfl⟩
            have KX0 : Kp w1 X0 := HX0 ▸ KV4
            have F4_0 := HX0 ▸ E4_4
            have F5_0 := HX0 ▸ E5_4
            have F6_0 := HX0 ▸ E6_4
            have F7_0 := HX0 ▸ E7_4
            rw [← HX0]
            clear HX0
            refine wpAnyH_ready (rs := [8]) (by kernel_rfl) (by simp) ?_
            refine AllReadyH.cons (o := Oper.mk none _ _ _ _ _) rfl (fun K hK => ?_) AllReadyH.nil
            obtain ⟨⟨c0, c1, c2, c3, c4⟩, ⟨f0, f1, f2, f3, f4⟩⟩ := zero_facts F4_0
            obtain ⟨X1, HX1, KX1, A4_1, N1⟩ := fill (a := a) (show w1.heap.size ≤ V0.heap.size by omega) KX0 F4_0
            go_simp
            go_wp2_with fail
            rw [← HX1.out]
            clear HX1 c0 c1 c2 c3 c4 f0 f1 f2 f3 f4
            have F5_1 := N1 _ _ (by omega) F5_0
            have F6_1 := N1 _ _ (by omega) F6_0
            have F7_1 := N1 _ _ (by omega) F7_0
            refine hK.out _ _ ?_ (fun hHeld => ?_)
            · exact HSx.out _ KX1
            clear hK K
            try simp only [Act.put, List.setIfInBounds_toArray, List.set_cons_zero, List.set_cons_succ]
            refine wpAnyH_ready (rs := [9]) (by kernel_rfl) (by simp) ?_
            refine AllReadyH.cons (o := Oper.mk none _ _ _ _ _) rfl (fun K hK => ?_) AllReadyH.nil
            obtain ⟨⟨c0, c1, c2, c3, c4⟩, ⟨f0, f1, f2, f3, f4⟩⟩ := zero_facts F5_1
            obtain ⟨X2, HX2, KX2, A5_2, N2⟩ := fill (a := a) (show w1.heap.size ≤ V3.heap.size by omega) KX1 F5_1
            go_simp
            go_wp2_with fail
            rw [← HX2.out]
            clear HX2 c0 c1 c2 c3 c4 f0 f1 f2 f3 f4
            have A4_2 := A5.mk (N2 _ _ (by omega) A4_1.blk)
            have F6_2 := N2 _ _ (by omega) F6_1
            have F7_2 := N2 _ _ (by omega) F7_1
            refine hK.out _ _ ?_ (fun hHeld => ?_)
            · exact HSx.out _ KX2
            clear hK K
            try simp only [Act.put, List.setIfInBounds_toArray, List.set_cons_zero, List.set_cons_succ]
            refine wpAnyH_ready (rs := [10]) (by kernel_rfl) (by simp) ?_
            refine AllReadyH.cons (o := Oper.mk none _ _ _ _ _) rfl (fun K hK => ?_) AllReadyH.nil
            obtain ⟨⟨c0, c1, c2, c3, c4⟩, ⟨f0, f1, f2, f3, f4⟩⟩ := zero_facts F6_2
            obtain ⟨X3, HX3, KX3, A6_3, N3⟩ := fill (a := a) (show w1.heap.size ≤ V1.heap.size by omega) KX2 F6_2
            go_simp
            go_wp2_with fail
            rw [← HX3.out]
            clear HX3 c0 c1 c2 c3 c4 f0 f1 f2 f3 f4
            have A4_3 := A5.mk (N3 _ _ (by omega) A4_2.blk)
            have A5_3 := A5.mk (N3 _ _ (by omega) A5_2.blk)
            have F7_3 := N3 _ _ (by omega) F7_2
            refine hK.out _ _ ?_ (fun hHeld => ?_)
            · exact HSx.out _ KX3
            clear hK K
            try simp only [Act.put, List.setIfInBounds_toArray, List.set_cons_zero, List.set_cons_succ]
            refine wpAnyH_ready (rs := [11]) (by kernel_rfl) (by simp) ?_
            refine AllReadyH.cons (o := Oper.mk none _ _ _ _ _) rfl (fun K hK => ?_) AllReadyH.nil
            obtain ⟨⟨c0, c1, c2, c3, c4⟩, ⟨f0, f1, f2, f3, f4⟩⟩ := zero_facts F7_3
            obtain ⟨X4, HX4, KX4, A7_4, N4⟩ := fill (a := a) (show w1.heap.size ≤ V2.heap.size by omega) KX3 F7_3
            go_simp
            go_wp2_with fail
            rw [← HX4.out]
            clear HX4 c0 c1 c2 c3 c4 f0 f1 f2 f3 f4
            have A4_4 := A5.mk (N4 _ _ (by omega) A4_3.blk)
            have A5_4 := A5.mk (N4 _ _ (by omega) A5_3.blk)
            have A6_4 := A5.mk (N4 _ _ (by omega) A6_3.blk)
            refine hK.out _ _ ?_ (fun hHeld => ?_)
            · exact HSx.out _ KX4
            clear hK K
            try simp only [Act.put, List.setIfInBounds_toArray, List.set_cons_zero, List.set_cons_succ]
            refine wpAnyH_done (by kernel_rfl) ?_ _
            refine NoPanic.normal ?_
            go_wp2
            go_meet
            exact ⟨V0.heap.size, V3.heap.size, V1.heap.size, V2.heap.size, rfl, rfl, rfl, rfl, KX4, ⟨by omega, by omega, by omega, by omega⟩, ⟨by omega, by omega, by omega, by omega, by omega, by omega⟩, A4_4, A5_4, A6_4, A7_4⟩
        · go_simp
          go_wp2_with fail
          obtain ⟨V2, HV2⟩ : ∃ V2, Hid (V2 = V1.alloc (.cells #[.int .i64 0, .int .i64 0, .int .i64 0, .int .i64 0, .int .i64 0] 28)) := ⟨_, rfl⟩
          have KS2 : Kp V1 V2 := by rw [HV2.out]; exact (Kp.refl _).alloc _
          have KV2 : Kp w1 V2 := KV1.trans KS2
          have E7_2 : V2.heap[V1.heap.size]? = some (.cells #[.int .i64 0, .int .i64 0, .int .i64 0, .int .i64 0, .int .i64 0] 28 (0, 0)) := by rw [HV2.out]; exact heap_alloc_at _ _
          have hq2 := lt_blk E7_2
          rw [← HV2.out]
          clear HV2
          have E4_2 := kp_block E4_1 KS2
          clear E4_1
          refine hK.out _ _ ?_ (fun hHeld => ?_)
          · exact HSx.out _ KV2
          clear hK K
          try simp only [Act.put, List.setIfInBounds_toArray, List.set_cons_zero, List.set_cons_succ]
          refine wpAnyH_ready (rs := [5, 6]) (by kernel_rfl) (by simp) ?_
          refine AllReadyH.cons (o := Oper.mk (some 6) _ _ _ _ _) rfl (fun K hK => ?_) (AllReadyH.cons (o := Oper.mk (some 7) _ _ _ _ _) rfl (fun K hK => ?_) AllReadyH.nil)
          · go_simp
            go_wp2_with fail
            obtain ⟨V3, HV3⟩ : ∃ V3, Hid (V3 = V2.alloc (.cells #[.int .i64 0, .int .i64 0, .int .i64 0, .int .i64 0, .int .i64 0] 28)) := ⟨_, rfl⟩
            have KS3 : Kp V2 V3 := by rw [HV3.out]; exact (Kp.refl _).alloc _
            have KV3 : Kp w1 V3 := KV2.trans KS3
            have E5_3 : V3.heap[V2.heap.size]? = some (.cells #[.int .i64 0, .int .i64 0, .int .i64 0, .int .i64 0, .int .i64 0] 28 (0, 0)) := by rw [HV3.out]; exact heap_alloc_at _ _
            have hq3 := lt_blk E5_3
            rw [← HV3.out]
            clear HV3
            have E4_3 := kp_block E4_2 KS3
            have E7_3 := kp_block E7_2 KS3
            clear E4_2 E7_2
            refine hK.out _ _ ?_ (fun hHeld => ?_)
            · exact HSx.out _ KV3
            clear hK K
            try simp only [Act.put, List.setIfInBounds_toArray, List.set_cons_zero, List.set_cons_succ]
            refine wpAnyH_ready (rs := [6]) (by kernel_rfl) (by simp) ?_
            refine AllReadyH.cons (o := Oper.mk (some 7) _ _ _ _ _) rfl (fun K hK => ?_) AllReadyH.nil
            go_simp
            go_wp2_with fail
            obtain ⟨V4, HV4⟩ : ∃ V4, Hid (V4 = V3.alloc (.cells #[.int .i64 0, .int .i64 0, .int .i64 0, .int .i64 0, .int .i64 0] 28)) := ⟨_, rfl⟩
            have KS4 : Kp V3 V4 := by rw [HV4.out]; exact (Kp.refl _).alloc _
            have KV4 : Kp w1 V4 := KV3.trans KS4
            have E6_4 : V4.heap[V3.heap.size]? = some (.cells #[.int .i64 0, .int .i64 0, .int .i64 0, .int .i64 0, .int .i64 0] 28 (0, 0)) := by rw [HV4.out]; exact heap_alloc_at _ _
            have hq4 := lt_blk E6_4
            rw [← HV4.out]
            clear HV4
            have E4_4 := kp_block E4_3 KS4
            have E7_4 := kp_block E7_3 KS4
            have E5_4 := kp_block E5_3 KS4
            clear E4_3 E7_3 E5_3
            refine hK.out _ _ ?_ (fun hHeld => ?_)
            · exact HSx.out _ KV4
            clear hK K
            try simp only [Act.put, List.setIfInBounds_toArray, List.set_cons_zero, List.set_cons_succ]
            obtain ⟨X0, HX0⟩ : ∃ X0, X0 = V4 := ⟨_, rfl⟩
            have KX0 : Kp w1 X0 := HX0 ▸ KV4
            have F4_0 := HX0 ▸ E4_4
            have F5_0 := HX0 ▸ E5_4
            have F6_0 := HX0 ▸ E6_4
            have F7_0 := HX0 ▸ E7_4
            rw [← HX0]
            clear HX0
            refine wpAnyH_ready (rs := [8]) (by kernel_rfl) (by simp) ?_
            refine AllReadyH.cons (o := Oper.mk none _ _ _ _ _) rfl (fun K hK => ?_) AllReadyH.nil
            obtain ⟨⟨c0, c1, c2, c3, c4⟩, ⟨f0, f1, f2, f3, f4⟩⟩ := zero_facts F4_0
            obtain ⟨X1, HX1, KX1, A4_1, N1⟩ := fill (a := a) (show w1.heap.size ≤ V0.heap.size by omega) KX0 F4_0
            go_simp
            go_wp2_with fail
            rw [← HX1.out]
            clear HX1 c0 c1 c2 c3 c4 f0 f1 f2 f3 f4
            have F5_1 := N1 _ _ (by omega) F5_0
            have F6_1 := N1 _ _ (by omega) F6_0
            have F7_1 := N1 _ _ (by omega) F7_0
            refine hK.out _ _ ?_ (fun hHeld => ?_)
            · exact HSx.out _ KX1
            clear hK K
            try simp only [Act.put, List.setIfInBounds_toArray, List.set_cons_zero, List.set_cons_succ]
            refine wpAnyH_ready (rs := [9]) (by kernel_rfl) (by simp) ?_
            refine AllReadyH.cons (o := Oper.mk none _ _ _ _ _) rfl (fun K hK => ?_) AllReadyH.nil
            obtain ⟨⟨c0, c1, c2, c3, c4⟩, ⟨f0, f1, f2, f3, f4⟩⟩ := zero_facts F5_1
            obtain ⟨X2, HX2, KX2, A5_2, N2⟩ := fill (a := a) (show w1.heap.size ≤ V2.heap.size by omega) KX1 F5_1
            go_simp
            go_wp2_with fail
            rw [← HX2.out]
            clear HX2 c0 c1 c2 c3 c4 f0 f1 f2 f3 f4
            have A4_2 := A5.mk (N2 _ _ (by omega) A4_1.blk)
            have F6_2 := N2 _ _ (by omega) F6_1
            have F7_2 := N2 _ _ (by omega) F7_1
            refine hK.out _ _ ?_ (fun hHeld => ?_)
            · exact HSx.out _ KX2
            clear hK K
            try simp only [Act.put, List.setIfInBounds_toArray, List.set_cons_zero, List.set_cons_succ]
            refine wpAnyH_ready (rs := [10]) (by kernel_rfl) (by simp) ?_
            refine AllReadyH.cons (o := Oper.mk none _ _ _ _ _) rfl (fun K hK => ?_) AllReadyH.nil
            obtain ⟨⟨c0, c1, c2, c3, c4⟩, ⟨f0, f1, f2, f3, f4⟩⟩ := zero_facts F6_2
            obtain ⟨X3, HX3, KX3, A6_3, N3⟩ := fill (a := a) (show w1.heap.size ≤ V3.heap.size by omega) KX2 F6_2
            go_simp
            go_wp2_with fail
            rw [← HX3.out]
            clear HX3 c0 c1 c2 c3 c4 f0 f1 f2 f3 f4
            have A4_3 := A5.mk (N3 _ _ (by omega) A4_2.blk)
            have A5_3 := A5.mk (N3 _ _ (by omega) A5_2.blk)
            have F7_3 := N3 _ _ (by omega) F7_2
            refine hK.out _ _ ?_ (fun hHeld => ?_)
            · exact HSx.out _ KX3
            clear hK K
            try simp only [Act.put, List.setIfInBounds_toArray, List.set_cons_zero, List.set_cons_succ]
            refine wpAnyH_ready (rs := [11]) (by kernel_rfl) (by simp) ?_
            refine AllReadyH.cons (o := Oper.mk none _ _ _ _ _) rfl (fun K hK => ?_) AllReadyH.nil
            obtain ⟨⟨c0, c1, c2, c3, c4⟩, ⟨f0, f1, f2, f3, f4⟩⟩ := zero_facts F7_3
            obtain ⟨X4, HX4, KX4, A7_4, N4⟩ := fill (a := a) (show w1.heap.size ≤ V1.heap.size by omega) KX3 F7_3
            go_simp
            go_wp2_with fail
            rw [← HX4.out]
            clear HX4 c0 c1 c2 c3 c4 f0 f1 f2 f3 f4
            have A4_4 := A5.mk (N4 _ _ (by omega) A4_3.blk)
            have A5_4 := A5.mk (N4 _ _ (by omega) A5_3.blk)
            have A6_4 := A5.mk (N4 _ _ (by omega) A6_3.blk)
            refine hK.out _ _ ?_ (fun hHeld => ?_)
            · exact HSx.out _ KX4
            clear hK K
            try simp only [Act.put, List.setIfInBounds_toArray, List.set_cons_zero, List.set_cons_succ]
            refine wpAnyH_done (by kernel_rfl) ?_ _
            refine NoPanic.normal ?_
            go_wp2
            go_meet
            exact ⟨V0.heap.size, V2.heap.size, V3.heap.size, V1.heap.size, rfl, rfl, rfl, rfl, KX4, ⟨by omega, by omega, by omega, by omega⟩, ⟨by omega, by omega, by omega, by omega, by omega, by omega⟩, A4_4, A5_4, A6_4, A7_4⟩
          · go_simp
            go_wp2_with fail
            obtain ⟨V3, HV3⟩ : ∃ V3, Hid (V3 = V2.alloc (.cells #[.int .i64 0, .int .i64 0, .int .i64 0, .int .i64 0, .int .i64 0] 28)) := ⟨_, rfl⟩
            have KS3 : Kp V2 V3 := by rw [HV3.out]; exact (Kp.refl _).alloc _
            have KV3 : Kp w1 V3 := KV2.trans KS3
            have E6_3 : V3.heap[V2.heap.size]? = some (.cells #[.int .i64 0, .int .i64 0, .int .i64 0, .int .i64 0, .int .i64 0] 28 (0, 0)) := by rw [HV3.out]; exact heap_alloc_at _ _
            have hq3 := lt_blk E6_3
            rw [← HV3.out]
            clear HV3
            have E4_3 := kp_block E4_2 KS3
            have E7_3 := kp_block E7_2 KS3
            clear E4_2 E7_2
            refine hK.out _ _ ?_ (fun hHeld => ?_)
            · exact HSx.out _ KV3
            clear hK K
            try simp only [Act.put, List.setIfInBounds_toArray, List.set_cons_zero, List.set_cons_succ]
            refine wpAnyH_ready (rs := [5]) (by kernel_rfl) (by simp) ?_
            refine AllReadyH.cons (o := Oper.mk (some 6) _ _ _ _ _) rfl (fun K hK => ?_) AllReadyH.nil
            go_simp
            go_wp2_with fail
            obtain ⟨V4, HV4⟩ : ∃ V4, Hid (V4 = V3.alloc (.cells #[.int .i64 0, .int .i64 0, .int .i64 0, .int .i64 0, .int .i64 0] 28)) := ⟨_, rfl⟩
            have KS4 : Kp V3 V4 := by rw [HV4.out]; exact (Kp.refl _).alloc _
            have KV4 : Kp w1 V4 := KV3.trans KS4
            have E5_4 : V4.heap[V3.heap.size]? = some (.cells #[.int .i64 0, .int .i64 0, .int .i64 0, .int .i64 0, .int .i64 0] 28 (0, 0)) := by rw [HV4.out]; exact heap_alloc_at _ _
            have hq4 := lt_blk E5_4
            rw [← HV4.out]
            clear HV4
            have E4_4 := kp_block E4_3 KS4
            have E7_4 := kp_block E7_3 KS4
            have E6_4 := kp_block E6_3 KS4
            clear E4_3 E7_3 E6_3
            refine hK.out _ _ ?_ (fun hHeld => ?_)
            · exact HSx.out _ KV4
            clear hK K
            try simp only [Act.put, List.setIfInBounds_toArray, List.set_cons_zero, List.set_cons_succ]
            obtain ⟨X0, HX0⟩ : ∃ X0, X0 = V4 := ⟨_, rfl⟩
            have KX0 : Kp w1 X0 := HX0 ▸ KV4
            have F4_0 := HX0 ▸ E4_4
            have F5_0 := HX0 ▸ E5_4
            have F6_0 := HX0 ▸ E6_4
            have F7_0 := HX0 ▸ E7_4
            rw [← HX0]
            clear HX0
            refine wpAnyH_ready (rs := [8]) (by kernel_rfl) (by simp) ?_
            refine AllReadyH.cons (o := Oper.mk none _ _ _ _ _) rfl (fun K hK => ?_) AllReadyH.nil
            obtain ⟨⟨c0, c1, c2, c3, c4⟩, ⟨f0, f1, f2, f3, f4⟩⟩ := zero_facts F4_0
            obtain ⟨X1, HX1, KX1, A4_1, N1⟩ := fill (a := a) (show w1.heap.size ≤ V0.heap.size by omega) KX0 F4_0
            go_simp
            go_wp2_with fail
            rw [← HX1.out]
            clear HX1 c0 c1 c2 c3 c4 f0 f1 f2 f3 f4
            have F5_1 := N1 _ _ (by omega) F5_0
            have F6_1 := N1 _ _ (by omega) F6_0
            have F7_1 := N1 _ _ (by omega) F7_0
            refine hK.out _ _ ?_ (fun hHeld => ?_)
            · exact HSx.out _ KX1
            clear hK K
            try simp only [Act.put, List.setIfInBounds_toArray, List.set_cons_zero, List.set_cons_succ]
            refine wpAnyH_ready (rs := [9]) (by kernel_rfl) (by simp) ?_
            refine AllReadyH.cons (o := Oper.mk none _ _ _ _ _) rfl (fun K hK => ?_) AllReadyH.nil
            obtain ⟨⟨c0, c1, c2, c3, c4⟩, ⟨f0, f1, f2, f3, f4⟩⟩ := zero_facts F5_1
            obtain ⟨X2, HX2, KX2, A5_2, N2⟩ := fill (a := a) (show w1.heap.size ≤ V3.heap.size by omega) KX1 F5_1
            go_simp
            go_wp2_with fail
            rw [← HX2.out]
            clear HX2 c0 c1 c2 c3 c4 f0 f1 f2 f3 f4
            have A4_2 := A5.mk (N2 _ _ (by omega) A4_1.blk)
            have F6_2 := N2 _ _ (by omega) F6_1
            have F7_2 := N2 _ _ (by omega) F7_1
            refine hK.out _ _ ?_ (fun hHeld => ?_)
            · exact HSx.out _ KX2
            clear hK K
            try simp only [Act.put, List.setIfInBounds_toArray, List.set_cons_zero, List.set_cons_succ]
            refine wpAnyH_ready (rs := [10]) (by kernel_rfl) (by simp) ?_
            refine AllReadyH.cons (o := Oper.mk none _ _ _ _ _) rfl (fun K hK => ?_) AllReadyH.nil
            obtain ⟨⟨c0, c1, c2, c3, c4⟩, ⟨f0, f1, f2, f3, f4⟩⟩ := zero_facts F6_2
            obtain ⟨X3, HX3, KX3, A6_3, N3⟩ := fill (a := a) (show w1.heap.size ≤ V2.heap.size by omega) KX2 F6_2
            go_simp
            go_wp2_with fail
            rw [← HX3.out]
            clear HX3 c0 c1 c2 c3 c4 f0 f1 f2 f3 f4
            have A4_3 := A5.mk (N3 _ _ (by omega) A4_2.blk)
            have A5_3 := A5.mk (N3 _ _ (by omega) A5_2.blk)
            have F7_3 := N3 _ _ (by omega) F7_2
            refine hK.out _ _ ?_ (fun hHeld => ?_)
            · exact HSx.out _ KX3
            clear hK K
            try simp only [Act.put, List.setIfInBounds_toArray, List.set_cons_zero, List.set_cons_succ]
            refine wpAnyH_ready (rs := [11]) (by kernel_rfl) (by simp) ?_
            refine AllReadyH.cons (o := Oper.mk none _ _ _ _ _) rfl (fun K hK => ?_) AllReadyH.nil
            obtain ⟨⟨c0, c1, c2, c3, c4⟩, ⟨f0, f1, f2, f3, f4⟩⟩ := zero_facts F7_3
            obtain ⟨X4, HX4, KX4, A7_4, N4⟩ := fill (a := a) (show w1.heap.size ≤ V1.heap.size by omega) KX3 F7_3
            go_simp
            go_wp2_with fail
            rw [← HX4.out]
            clear HX4 c0 c1 c2 c3 c4 f0 f1 f2 f3 f4
            have A4_4 := A5.mk (N4 _ _ (by omega) A4_3.blk)
            have A5_4 := A5.mk (N4 _ _ (by omega) A5_3.blk)
            have A6_4 := A5.mk (N4 _ _ (by omega) A6_3.blk)
            refine hK.out _ _ ?_ (fun hHeld => ?_)
            · exact HSx.out _ KX4
            clear hK K
            try simp only [Act.put, List.setIfInBounds_toArray, List.set_cons_zero, List.set_cons_succ]
            refine wpAnyH_done (by kernel_rfl) ?_ _
            refine NoPanic.normal ?_
            go_wp2
            go_meet
            exact ⟨V0.heap.size, V3.heap.size, V2.heap.size, V1.heap.size, rfl, rfl, rfl, rfl, KX4, ⟨by omega, by omega, by omega, by omega⟩, ⟨by omega, by omega, by omega, by omega, by omega, by omega⟩, A4_4, A5_4, A6_4, A7_4⟩
      · go_simp
        go_wp2_with fail
        obtain ⟨V1, HV1⟩ : ∃ V1, Hid (V1 = V0.alloc (.cells #[.int .i64 0, .int .i64 0, .int .i64 0, .int .i64 0, .int .i64 0] 28)) := ⟨_, rfl⟩
        have KS1 : Kp V0 V1 := by rw [HV1.out]; exact (Kp.refl _).alloc _
        have KV1 : Kp w1 V1 := KV0.trans KS1
        have E5_1 : V1.heap[V0.heap.size]? = some (.cells #[.int .i64 0, .int .i64 0, .int .i64 0, .int .i64 0, .int .i64 0] 28 (0, 0)) := by rw [HV1.out]; exact heap_alloc_at _ _
        have hq1 := lt_blk E5_1
        rw [← HV1.out]
        clear HV1
        refine hK.out _ _ ?_ (fun hHeld => ?_)
        · exact HSx.out _ KV1
        clear hK K
        try simp only [Act.put, List.setIfInBounds_toArray, List.set_cons_zero, List.set_cons_succ]
        refine wpAnyH_ready (rs := [4, 6, 7]) (by kernel_rfl) (by simp) ?_
        refine AllReadyH.cons (o := Oper.mk (some 5) _ _ _ _ _) rfl (fun K hK => ?_) (AllReadyH.cons (o := Oper.mk (some 7) _ _ _ _ _) rfl (fun K hK => ?_) (AllReadyH.cons (o := Oper.mk (some 8) _ _ _ _ _) rfl (fun K hK => ?_) AllReadyH.nil))
        · go_simp
          go_wp2_with fail
          obtain ⟨V2, HV2⟩ : ∃ V2, Hid (V2 = V1.alloc (.cells #[.int .i64 0, .int .i64 0, .int .i64 0, .int .i64 0, .int .i64 0] 28)) := ⟨_, rfl⟩
          have KS2 : Kp V1 V2 := by rw [HV2.out]; exact (Kp.refl _).alloc _
          have KV2 : Kp w1 V2 := KV1.trans KS2
          have E4_2 : V2.heap[V1.heap.size]? = some (.cells #[.int .i64 0, .int .i64 0, .int .i64 0, .int .i64 0, .int .i64 0] 28 (0, 0)) := by rw [HV2.out]; exact heap_alloc_at _ _
          have hq2 := lt_blk E4_2
          rw [← HV2.out]
          clear HV2
          have E5_2 := kp_block E5_1 KS2
          clear E5_1
          refine hK.out _ _ ?_ (fun hHeld => ?_)
          · exact HSx.out _ KV2
          clear hK K
          try simp only [Act.put, List.setIfInBounds_toArray, List.set_cons_zero, List.set_cons_succ]
          refine wpAnyH_ready (rs := [6, 7]) (by kernel_rfl) (by simp) ?_
          refine AllReadyH.cons (o := Oper.mk (some 7) _ _ _ _ _) rfl (fun K hK => ?_) (AllReadyH.cons (o := Oper.mk (some 8) _ _ _ _ _) rfl (fun K hK => ?_) AllReadyH.nil)
          · go_simp
            go_wp2_with fail
            obtain ⟨V3, HV3⟩ : ∃ V3, Hid (V3 = V2.alloc (.cells #[.int .i64 0, .int .i64 0, .int .i64 0, .int .i64 0, .int .i64 0] 28)) := ⟨_, rfl⟩
            have KS3 : Kp V2 V3 := by rw [HV3.out]; exact (Kp.refl _).alloc _
            have KV3 : Kp w1 V3 := KV2.trans KS3
            have E6_3 : V3.heap[V2.heap.size]? = some (.cells #[.int .i64 0, .int .i64 0, .int .i64 0, .int .i64 0, .int .i64 0] 28 (0, 0)) := by rw [HV3.out]; exact heap_alloc_at _ _
            have hq3 := lt_blk E6_3
            rw [← HV3.out]
            clear HV3
            have E5_3 := kp_block E5_2 KS3
            have E4_3 := kp_block E4_2 KS3
            clear E5_2 E4_2
            refine hK.out _ _ ?_ (fun hHeld => ?_)
            · exact HSx.out _ KV3
            clear hK K
            try simp only [Act.put, List.setIfInBounds_toArray, List.set_cons_zero, List.set_cons_succ]
            refine wpAnyH_ready (rs := [7]) (by kernel_rfl) (by simp) ?_
            refine AllReadyH.cons (o := Oper.mk (some 8) _ _ _ _ _) rfl (fun K hK => ?_) AllReadyH.nil
            go_simp
            go_wp2_with fail
            obtain ⟨V4, HV4⟩ : ∃ V4, Hid (V4 = V3.alloc (.cells #[.int .i64 0, .int .i64 0, .int .i64 0, .int .i64 0, .int .i64 0] 28)) := ⟨_, rfl⟩
            have KS4 : Kp V3 V4 := by rw [HV4.out]; exact (Kp.refl _).alloc _
            have KV4 : Kp w1 V4 := KV3.trans KS4
            have E7_4 : V4.heap[V3.heap.size]? = some (.cells #[.int .i64 0, .int .i64 0, .int .i64 0, .int .i64 0, .int .i64 0] 28 (0, 0)) := by rw [HV4.out]; exact heap_alloc_at _ _
            have hq4 := lt_blk E7_4
            rw [← HV4.out]
            clear HV4
            have E5_4 := kp_block E5_3 KS4
            have E4_4 := kp_block E4_3 KS4
            have E6_4 := kp_block E6_3 KS4
            clear E5_3 E4_3 E6_3
            refine hK.out _ _ ?_ (fun hHeld => ?_)
            · exact HSx.out _ KV4
            clear hK K
            try simp only [Act.put, List.setIfInBounds_toArray, List.set_cons_zero, List.set_cons_succ]
            obtain ⟨X0, HX0⟩ : ∃ X0, X0 = V4 := ⟨_, rfl⟩
            have KX0 : Kp w1 X0 := HX0 ▸ KV4
            have F4_0 := HX0 ▸ E4_4
            have F5_0 := HX0 ▸ E5_4
            have F6_0 := HX0 ▸ E6_4
            have F7_0 := HX0 ▸ E7_4
            rw [← HX0]
            clear HX0
            refine wpAnyH_ready (rs := [8]) (by kernel_rfl) (by simp) ?_
            refine AllReadyH.cons (o := Oper.mk none _ _ _ _ _) rfl (fun K hK => ?_) AllReadyH.nil
            obtain ⟨⟨c0, c1, c2, c3, c4⟩, ⟨f0, f1, f2, f3, f4⟩⟩ := zero_facts F4_0
            obtain ⟨X1, HX1, KX1, A4_1, N1⟩ := fill (a := a) (show w1.heap.size ≤ V1.heap.size by omega) KX0 F4_0
            go_simp
            go_wp2_with fail
            rw [← HX1.out]
            clear HX1 c0 c1 c2 c3 c4 f0 f1 f2 f3 f4
            have F5_1 := N1 _ _ (by omega) F5_0
            have F6_1 := N1 _ _ (by omega) F6_0
            have F7_1 := N1 _ _ (by omega) F7_0
            refine hK.out _ _ ?_ (fun hHeld => ?_)
            · exact HSx.out _ KX1
            clear hK K
            try simp only [Act.put, List.setIfInBounds_toArray, List.set_cons_zero, List.set_cons_succ]
            refine wpAnyH_ready (rs := [9]) (by kernel_rfl) (by simp) ?_
            refine AllReadyH.cons (o := Oper.mk none _ _ _ _ _) rfl (fun K hK => ?_) AllReadyH.nil
            obtain ⟨⟨c0, c1, c2, c3, c4⟩, ⟨f0, f1, f2, f3, f4⟩⟩ := zero_facts F5_1
            obtain ⟨X2, HX2, KX2, A5_2, N2⟩ := fill (a := a) (show w1.heap.size ≤ V0.heap.size by omega) KX1 F5_1
            go_simp
            go_wp2_with fail
            rw [← HX2.out]
            clear HX2 c0 c1 c2 c3 c4 f0 f1 f2 f3 f4
            have A4_2 := A5.mk (N2 _ _ (by omega) A4_1.blk)
            have F6_2 := N2 _ _ (by omega) F6_1
            have F7_2 := N2 _ _ (by omega) F7_1
            refine hK.out _ _ ?_ (fun hHeld => ?_)
            · exact HSx.out _ KX2
            clear hK K
            try simp only [Act.put, List.setIfInBounds_toArray, List.set_cons_zero, List.set_cons_succ]
            refine wpAnyH_ready (rs := [10]) (by kernel_rfl) (by simp) ?_
            refine AllReadyH.cons (o := Oper.mk none _ _ _ _ _) rfl (fun K hK => ?_) AllReadyH.nil
            obtain ⟨⟨c0, c1, c2, c3, c4⟩, ⟨f0, f1, f2, f3, f4⟩⟩ := zero_facts F6_2
            obtain ⟨X3, HX3, KX3, A6_3, N3⟩ := fill (a := a) (show w1.heap.size ≤ V2.heap.size by omega) KX2 F6_2
            go_simp
            go_wp2_with fail
            rw [← HX3.out]
            clear HX3 c0 c1 c2 c3 c4 f0 f1 f2 f3 f4
            have A4_3 := A5.mk (N3 _ _ (by omega) A4_2.blk)
            have A5_3 := A5.mk (N3 _ _ (by omega) A5_2.blk)
            have F7_3 := N3 _ _ (by omega) F7_2
            refine hK.out _ _ ?_ (fun hHeld => ?_)
            · exact HSx.out _ KX3
            clear hK K
            try simp only [Act.put, List.setIfInBounds_toArray, List.set_cons_zero, List.set_cons_succ]
            refine wpAnyH_ready (rs := [11]) (by kernel_rfl) (by simp) ?_
            refine AllReadyH.cons (o := Oper.mk none _ _ _ _ _) rfl (fun K hK => ?_) AllReadyH.nil
            obtain ⟨⟨c0, c1, c2, c3, c4⟩, ⟨f0, f1, f2, f3, f4⟩⟩ := zero_facts F7_3
            obtain ⟨X4, HX4, KX4, A7_4, N4⟩ := fill (a := a) (show w1.heap.size ≤ V3.heap.size by omega) KX3 F7_3
            go_simp
            go_wp2_with fail
            rw [← HX4.out]
            clear HX4 c0 c1 c2 c3 c4 f0 f1 f2 f3 f4
            have A4_4 := A5.mk (N4 _ _ (by omega) A4_3.blk)
            have A5_4 := A5.mk (N4 _ _ (by omega) A5_3.blk)
            have A6_4 := A5.mk (N4 _ _ (by omega) A6_3.blk)
            refine hK.out _ _ ?_ (fun hHeld => ?_)
            · exact HSx.out _ KX4
            clear hK K
            try simp only [Act.put, List.setIfInBounds_toArray, List.set_cons_zero, List.set_cons_succ]
            refine wpAnyH_done (by kernel_rfl) ?_ _
            refine NoPanic.normal ?_
            go_wp2
            go_meet
            exact ⟨V1.heap.size, V0.heap.size, V2.heap.size, V3.heap.size, rfl, rfl, rfl, rfl, KX4, ⟨by omega, by omega, by omega, by omega⟩, ⟨by omega, by omega, by omega, by omega, by omega, by omega⟩, A4_4, A5_4, A6_4, A7_4⟩
          · go_simp
            go_wp2_with fail
            obtain ⟨V3, HV3⟩ : ∃ V3, Hid (V3 = V2.alloc (.cells #[.int .i64 0, .int .i64 0, .int .i64 0, .int .i64 0, .int .i64 0] 28)) := ⟨_, rfl⟩
            have KS3 : Kp V2 V3 := by rw [HV3.out]; exact (Kp.refl _).alloc _
            have KV3 : Kp w1 V3 := KV2.trans KS3
            have E7_3 : V3.heap[V2.heap.size]? = some (.cells #[.int .i64 0, .int .i64 0, .int .i64 0, .int .i64 0, .int .i64 0] 28 (0, 0)) := by rw [HV3.out]; exact heap_alloc_at _ _
            have hq3 := lt_blk E7_3
            rw [← HV3.out]
            clear HV3
            have E5_3 := kp_block E5_2 KS3
            have E4_3 := kp_block E4_2 KS3
            clear E5_2 E4_2
            refine hK.out _ _ ?_ (fun hHeld => ?_)
            · exact HSx.out _ KV3
            clear hK K
            try simp only [Act.put, List.setIfInBounds_toArray, List.set_cons_zero, List.set_cons_succ]
            refine wpAnyH_ready (rs := [6]) (by kernel_rfl) (by simp) ?_
            refine AllReadyH.cons (o := Oper.mk (some 7) _ _ _ _ _) rfl (fun K hK => ?_) AllReadyH.nil
            go_simp
            go_wp2_with fail
            obtain ⟨V4, HV4⟩ : ∃ V4, Hid (V4 = V3.alloc (.cells #[.int .i64 0, .int .i64 0, .int .i64 0, .int .i64 0, .int .i64 0] 28)) := ⟨_, rfl⟩
            have KS4 : Kp V3 V4 := by rw [HV4.out]; exact (Kp.refl _).alloc _
            have KV4 : Kp w1 V4 := KV3.trans KS4
            have E6_4 : V4.heap[V3.heap.size]? = some (.cells #[.int .i64 0, .int .i64 0, .int .i64 0, .int .i64 0, .int .i64 0] 28 (0, 0)) := by rw [HV4.out]; exact heap_alloc_at _ _
            have hq4 := lt_blk E6_4
            rw [← HV4.out]
            clear HV4
            have E5_4 := kp_block E5_3 KS4
            have E4_4 := kp_block E4_3 KS4
            have E7_4 := kp_block E7_3 KS4
            clear E5_3 E4_3 E7_3
            refine hK.out _ _ ?_ (fun hHeld => ?_)
            · exact HSx.out _ KV4
            clear hK K
            try simp only [Act.put, List.setIfInBounds_toArray, List.set_cons_zero, List.set_cons_succ]
            obtain ⟨X0, HX0⟩ : ∃ X0, X0 = V4 := ⟨_, rfl⟩
            have KX0 : Kp w1 X0 := HX0 ▸ KV4
            have F4_0 := HX0 ▸ E4_4
            have F5_0 := HX0 ▸ E5_4
            have F6_0 := HX0 ▸ E6_4
            have F7_0 := HX0 ▸ E7_4
            rw [← HX0]
            clear HX0
            refine wpAnyH_ready (rs := [8]) (by kernel_rfl) (by simp) ?_
            refine AllReadyH.cons (o := Oper.mk none _ _ _ _ _) rfl (fun K hK => ?_) AllReadyH.nil
            obtain ⟨⟨c0, c1, c2, c3, c4⟩, ⟨f0, f1, f2, f3, f4⟩⟩ := zero_facts F4_0
            obtain ⟨X1, HX1, KX1, A4_1, N1⟩ := fill (a := a) (show w1.heap.size ≤ V1.heap.size by omega) KX0 F4_0
            go_simp
            go_wp2_with fail
            rw [← HX1.out]
            clear HX1 c0 c1 c2 c3 c4 f0 f1 f2 f3 f4
            have F5_1 := N1 _ _ (by omega) F5_0
            have F6_1 := N1 _ _ (by omega) F6_0
            have F7_1 := N1 _ _ (by omega) F7_0
            refine hK.out _ _ ?_ (fun hHeld => ?_)
            · exact HSx.out _ KX1
            clear hK K
            try simp only [Act.put, List.setIfInBounds_toArray, List.set_cons_zero, List.set_cons_succ]
            refine wpAnyH_ready (rs := [9]) (by kernel_rfl) (by simp) ?_
            refine AllReadyH.cons (o := Oper.mk none _ _ _ _ _) rfl (fun K hK => ?_) AllReadyH.nil
            obtain ⟨⟨c0, c1, c2, c3, c4⟩, ⟨f0, f1, f2, f3, f4⟩⟩ := zero_facts F5_1
            obtain ⟨X2, HX2, KX2, A5_2, N2⟩ := fill (a := a) (show w1.heap.size ≤ V0.heap.size by omega) KX1 F5_1
            go_simp
            go_wp2_with fail
            rw [← HX2.out]
            clear HX2 c0 c1 c2 c3 c4 f0 f1 f2 f3 f4
            have A4_2 := A5.mk (N2 _ _ (by omega) A4_1.blk)
            have F6_2 := N2 _ _ (by omega) F6_1
            have F7_2 := N2 _ _ (by omega) F7_1
            refine hK.out _ _ ?_ (fun hHeld => ?_)
            · exact HSx.out _ KX2
            clear hK K
            try simp only [Act.put, List.setIfInBounds_toArray, List.set_cons_zero, List.set_cons_succ]
            refine wpAnyH_ready (rs := [10]) (by kernel_rfl) (by simp) ?_
            refine AllReadyH.cons (o := Oper.mk none _ _ _ _ _) rfl (fun K hK => ?_) AllReadyH.nil
            obtain ⟨⟨c0, c1, c2, c3, c4⟩, ⟨f0, f1, f2, f3, f4⟩⟩ := zero_facts F6_2
            obtain ⟨X3, HX3, KX3, A6_3, N3⟩ := fill (a := a) (show w1.heap.size ≤ V3.heap.size by omega) KX2 F6_2
            go_simp
            go_wp2_with fail
            rw [← HX3.out]
            clear HX3 c0 c1 c2 c3 c4 f0 f1 f2 f3 f4
            have A4_3 := A5.mk (N3 _ _ (by omega) A4_2.blk)
            have A5_3 := A5.mk (N3 _ _ (by omega) A5_2.blk)
            have F7_3 := N3 _ _ (by omega) F7_2
            refine hK.out _ _ ?_ (fun hHeld => ?_)
            · exact HSx.out _ KX3
            clear hK K
            try simp only [Act.put, List.setIfInBounds_toArray, List.set_cons_zero, List.set_cons_succ]
            refine wpAnyH_ready (rs := [11]) (by kernel_rfl) (by simp) ?_
            refine AllReadyH.cons (o := Oper.mk none _ _ _ _ _) rfl (fun K hK => ?_) AllReadyH.nil
            obtain ⟨⟨c0, c1, c2, c3, c4⟩, ⟨f0, f1, f2, f3, f4⟩⟩ := zero_facts F7_3
            obtain ⟨X4, HX4, KX4, A7_4, N4⟩ := fill (a := a) (show w1.heap.size ≤ V2.heap.size by omega) KX3 F7_3
            go_simp
            go_wp2_with fail
            rw [← HX4.out]
            clear HX4 c0 c1 c2 c3 c4 f0 f1 f2 f3 f4
            have A4_4 := A5.mk (N4 _ _ (by omega) A4_3.blk)
            have A5_4 := A5.mk (N4 _ _ (by omega) A5_3.blk)
            have A6_4 := A5.mk (N4 _ _ (by omega) A6_3.blk)
            refine hK.out _ _ ?_ (fun hHeld => ?_)
            · exact HSx.out _ KX4
            clear hK K
            try simp only [Act.put, List.setIfInBounds_toArray, List.set_cons_zero, List.set_cons_succ]
            refine wpAnyH_done (by kernel_rfl) ?_ _
            refine NoPanic.normal ?_
            go_wp2
            go_meet
            exact ⟨V1.heap.size, V0.heap.size, V3.heap.size, V2.heap.size, rfl, rfl, rfl, rfl, KX4, ⟨by omega, by omega, by omega, by omega⟩, ⟨by omega, by omega, by omega, by omega, by omega, by omega⟩, A4_4, A5_4, A6_4, A7_4⟩
        · go_simp
          go_wp2_with fail
          obtain ⟨V2, HV2⟩ : ∃ V2, Hid (V2 = V1.alloc (.cells #[.int .i64 0, .int .i64 0, .int .i64 0, .int .i64 0, .int .i64 0] 28)) := ⟨_, rfl⟩
          have KS2 : Kp V1 V2 := by rw [HV2.out]; exact (Kp.refl _).alloc _
          have KV2 : Kp w1 V2 := KV1.trans KS2
          have E6_2 : V2.heap[V1.heap.size]? = some (.cells #[.int .i64 0, .int .i64 0, .int .i64 0, .int .i64 0, .int .i64 0] 28 (0, 0)) := by rw [HV2.out]; exact heap_alloc_at _ _
          have hq2 := lt_blk E6_2
          rw [← HV2.out]
          clear HV2
          have E5_2 := kp_block E5_1 KS2
          clear E5_1
          refine hK.out _ _ ?_ (fun hHeld => ?_)
          · exact HSx.out _ KV2
          clear hK K
          try simp only [Act.put, List.setIfInBounds_toArray, List.set_cons_zero, List.set_cons_succ]
          refine wpAnyH_ready (rs := [4, 7]) (by kernel_rfl) (by simp) ?_
          refine AllReadyH.cons (o := Oper.mk (some 5) _ _ _ _ _) rfl (fun K hK => ?_) (AllReadyH.cons (o := Oper.mk (some 8) _ _ _ _ _) rfl (fun K hK => ?_) AllReadyH.nil)
          · go_simp
            go_wp2_with fail
            obtain ⟨V3, HV3⟩ : ∃ V3, Hid (V3 = V2.alloc (.cells #[.int .i64 0, .int .i64 0, .int .i64 0, .int .i64 0, .int .i64 0] 28)) := ⟨_, rfl⟩
            have KS3 : Kp V2 V3 := by rw [HV3.out]; exact (Kp.refl _).alloc _
            have KV3 : Kp w1 V3 := KV2.trans KS3
            have E4_3 : V3.heap[V2.heap.size]? = some (.cells #[.int .i64 0, .int .i64 0, .int .i64 0, .int .i64 0, .int .i64 0] 28 (0, 0)) := by rw [HV3.out]; exact heap_alloc_at _ _
            have hq3 := lt_blk E4_3
            rw [← HV3.out]
            clear HV3
            have E5_3 := kp_block E5_2 KS3
            have E6_3 := kp_block E6_2 KS3
            clear E5_2 E6_2
            refine hK.out _ _ ?_ (fun hHeld => ?_)
            · exact HSx.out _ KV3
            clear hK K
            try simp only [Act.put, List.setIfInBounds_toArray, List.set_cons_zero, List.set_cons_succ]
            refine wpAnyH_ready (rs := [7]) (by kernel_rfl) (by simp) ?_
            refine AllReadyH.cons (o := Oper.mk (some 8) _ _ _ _ _) rfl (fun K hK => ?_) AllReadyH.nil
            go_simp
            go_wp2_with fail
            obtain ⟨V4, HV4⟩ : ∃ V4, Hid (V4 = V3.alloc (.cells #[.int .i64 0, .int .i64 0, .int .i64 0, .int .i64 0, .int .i64 0] 28)) := ⟨_, rfl⟩
            have KS4 : Kp V3 V4 := by rw [HV4.out]; exact (Kp.refl _).alloc _
            have KV4 : Kp w1 V4 := KV3.trans KS4
            have E7_4 : V4.heap[V3.heap.size]? = some (.cells #[.int .i64 0, .int .i64 0, .int .i64 0, .int .i64 0, .int .i64 0] 28 (0, 0)) := by rw [HV4.out]; exact heap_alloc_at _ _
            have hq4 := lt_blk E7_4
            rw [← HV4.out]
            clear HV4
            have E5_4 := kp_block E5_3 KS4
            have E6_4 := kp_block E6_3 KS4
            have E4_4 := kp_block E4_3 KS4
            clear E5_3 E6_3 E4_3
            refine hK.out _ _ ?_ (fun hHeld => ?_)
            · exact HSx.out _ KV4
            clear hK K
            try simp only [Act.put, List.setIfInBounds_toArray, List.set_cons_zero, List.set_cons_succ]
            obtain ⟨X0, HX0⟩ : ∃ X0, X0 = V4 := ⟨_, rfl⟩
            have KX0 : Kp w1 X0 := HX0 ▸ KV4
            have F4_0 := HX0 ▸ E4_4
            have F5_0 := HX0 ▸ E5_4
            have F6_0 := HX0 ▸ E6_4
            have F7_0 := HX0 ▸ E7_4
            rw [← HX0]
            clear HX0
            refine wpAnyH_ready (rs := [8]) (by kernel_rfl) (by simp) ?_
            refine AllReadyH.cons (o := Oper.mk none _ _ _ _ _) rfl (fun K hK => ?_) AllReadyH.nil
            obtain ⟨⟨c0, c1, c2, c3, c4⟩, ⟨f0, f1, f2, f3, f4⟩⟩ := zero_facts F4_0
            obtain ⟨X1, HX1, KX1, A4_1, N1⟩ := fill (a := a) (show w1.heap.size ≤ V2.heap.size by omega) KX0 F4_0
            go_simp
            go_wp2_with fail
            rw [← HX1.out]
            clear HX1 c0 c1 c2 c3 c4 f0 f1 f2 f3 f4
            have F5_1 := N1 _ _ (by omega) F5_0
            have F6_1 := N1 _ _ (by omega) F6_0
            have F7_1 := N1 _ _ (by omega) F7_0
            refine hK.out _ _ ?_ (fun hHeld => ?_)
            · exact HSx.out _ KX1
            clear hK K
            try simp only [Act.put, List.setIfInBounds_toArray, List.set_cons_zero, List.set_cons_succ]
            refine wpAnyH_ready (rs := [9]) (by kernel_rfl) (by simp) ?_
            refine AllReadyH.cons (o := Oper.mk none _ _ _ _ _) rfl (fun K hK => ?_) AllReadyH.nil
            obtain ⟨⟨c0, c1, c2, c3, c4⟩, ⟨f0, f1, f2, f3, f4⟩⟩ := zero_facts F5_1
            obtain ⟨X2, HX2, KX2, A5_2, N2⟩ := fill (a := a) (show w1.heap.size ≤ V0.heap.size by omega) KX1 F5_1
            go_simp
            go_wp2_with fail
            rw [← HX2.out]
            clear HX2 c0 c1 c2 c3 c4 f0 f1 f2 f3 f4
            have A4_2 := A5.mk (N2 _ _ (by omega) A4_1.blk)
            have F6_2 := N2 _ _ (by omega) F6_1
            have F7_2 := N2 _ _ (by omega) F7_1
            refine hK.out _ _ ?_ (fun hHeld => ?_)
            · exact HSx.out _ KX2
            clear hK K
            try simp only [Act.put, List.setIfInBounds_toArray, List.set_cons_zero, List.set_cons_succ]
            refine wpAnyH_ready (rs := [10]) (by kernel_rfl) (by simp) ?_
            refine AllReadyH.cons (o := Oper.mk none _ _ _ _ _) rfl (fun K hK => ?_) AllReadyH.nil
            obtain ⟨⟨c0, c1, c2, c3, c4⟩, ⟨f0, f1, f2, f3, f4⟩⟩ := zero_facts F6_2
            obtain ⟨X3, HX3, KX3, A6_3, N3⟩ := fill (a := a) (show w1.heap.size ≤ V1.heap.size by omega) KX2 F6_2
            go_simp
            go_wp2_with fail
            rw [← HX3.out]
            clear HX3 c0 c1 c2 c3 c4 f0 f1 f2 f3 f4
            have A4_3 := A5.mk (N3 _ _ (by omega) A4_2.blk)
            have A5_3 := A5.mk (N3 _ _ (by omega) A5_2.blk)
            have F7_3 := N3 _ _ (by omega) F7_2
            refine hK.out _ _ ?_ (fun hHeld => ?_)
            · exact HSx.out _ KX3
            clear hK K
            try simp only [Act.put, List.setIfInBounds_toArray, List.set_cons_zero, List.set_cons_succ]
            refine wpAnyH_ready (rs := [11]) (by kernel_rfl) (by simp) ?_
            refine AllReadyH.cons (o := Oper.mk none _ _ _ _ _) rfl (fun K hK => ?_) AllReadyH.nil
            obtain ⟨⟨c0, c1, c2, c3, c4⟩, ⟨f0, f1, f2, f3, f4⟩⟩ := zero_facts F7_3
            obtain ⟨X4, HX4, KX4, A7_4, N4⟩ := fill (a := a) (show w1.heap.size ≤ V3.heap.size by omega) KX3 F7_3
            go_simp
            go_wp2_with fail
            rw [← HX4.out]
            clear HX4 c0 c1 c2 c3 c4 f0 f1 f2 f3 f4
            have A4_4 := A5.mk (N4 _ _ (by omega) A4_3.blk)
            have A5_4 := A5.mk (N4 _ _ (by omega) A5_3.blk)
            have A6_4 := A5.mk (N4 _ _ (by omega) A6_3.blk)
            refine hK.out _ _ ?_ (fun hHeld => ?_)
            · exact HSx.out _ KX4
            clear hK K
            try simp only [Act.put, List.setIfInBounds_toArray, List.set_cons_zero, List.set_cons_succ]
            refine wpAnyH_done (by kernel_rfl) ?_ _
            refine NoPanic.normal ?_
            go_wp2
            go_meet
            exact ⟨V2.heap.size, V0.heap.size, V1.heap.size, V3.heap.size, rfl, rfl, rfl, rfl, KX4, ⟨by omega, by omega, by omega, by omega⟩, ⟨by omega, by omega, by omega, by omega, by omega, by omega⟩, A4_4, A5_4, A6_4, A7_4⟩
          · go_simp
            go_wp2_with fail
            obtain ⟨V3, HV3⟩ : ∃ V3, Hid (V3 = V2.alloc (.cells #[.int .i64 0, .int .i64 0, .int .i64 0, .int .i64 0, .int .i64 0] 28)) := ⟨_, rfl⟩
            have KS3 : Kp V2 V3 := by rw [HV3.out]; exact (Kp.refl _).alloc _
            have KV3 : Kp w1 V3 := KV2.trans KS3
            have E7_3 : V3.heap[V2.heap.size]? = some (.cells #[.int .i64 0, .int .i64 0, .int .i64 0, .int .i64 0, .int .i64 0] 28 (0, 0)) := by rw [HV3.out]; exact heap_alloc_at _ _
            have hq3 := lt_blk E7_3
            rw [← HV3.out]
            clear HV3
            have E5_3 := kp_block E5_2 KS3
            have E6_3 := kp_block E6_2 KS3
            clear E5_2 E6_2
            refine hK.out _ _ ?_ (fun hHeld => ?_)
            · exact HSx.out _ KV3
            clear hK K
            try simp only [Act.put, List.setIfInBounds_toArray, List.set_cons_zero, List.set_cons_succ]
            refine wpAnyH_ready (rs := [4]) (by kernel_rfl) (by simp) ?_
            refine AllReadyH.cons (o := Oper.mk (some 5) _ _ _ _ _) rfl (fun K hK => ?_) AllReadyH.nil
            go_simp
            go_wp2_with fail
            obtain ⟨V4, HV4⟩ : ∃ V4, Hid (V4 = V3.alloc (.cells #[.int .i64 0, .int .i64 0, .int .i64 0, .int .i64 0, .int .i64 0] 28)) := ⟨_, rfl⟩
            have KS4 : Kp V3 V4 := by rw [HV4.out]; exact (Kp.refl _).alloc _
            have KV4 : Kp w1 V4 := KV3.trans KS4
            have E4_4 : V4.heap[V3.heap.size]? = some (.cells #[.int .i64 0, .int .i64 0, .int .i64 0, .int .i64 0, .int .i64 0] 28 (0, 0)) := by rw [HV4.out]; exact heap_alloc_at _ _
            have hq4 := lt_blk E4_4
            rw [← HV4.out]
            clear HV4
            have E5_4 := kp_block E5_3 KS4
            have E6_4 := kp_block E6_3 KS4
            have E7_4 := kp_block E7_3 KS4
            clear E5_3 E6_3 E7_3
            refine hK.out _ _ ?_ (fun hHeld => ?_)
            · exact HSx.out _ KV4
            clear hK K
            try simp only [Act.put, List.setIfInBounds_toArray, List.set_cons_zero, List.set_cons_succ]
            obtain ⟨X0, HX0⟩ : ∃ X0, X0 = V4 := ⟨_, rfl⟩
            have KX0 : Kp w1 X0 := HX0 ▸ KV4
            have F4_0 := HX0 ▸ E4_4
            have F5_0 := HX0 ▸ E5_4
            have F6_0 := HX0 ▸ E6_4
            have F7_0 := HX0 ▸ E7_4
            rw [← HX0]
            clear HX0
            refine wpAnyH_ready (rs := [8]) (by kernel_rfl) (by simp) ?_
            refine AllReadyH.cons (o := Oper.mk none _ _ _ _ _) rfl (fun K hK => ?_) AllReadyH.nil
            obtain ⟨⟨c0, c1, c2, c3, c4⟩, ⟨f0, f1, f2, f3, f4⟩⟩ := zero_facts F4_0
            obtain ⟨X1, HX1, KX1, A4_1, N1⟩ := fill (a := a) (show w1.heap.size ≤ V3.heap.size by omega) KX0 F4_0
            go_simp
            go_wp2_with fail
            rw [← HX1.out]
            clear HX1 c0 c1 c2 c3 c4 f0 f1 f2 f3 f4
            have F5_1 := N1 _ _ (by omega) F5_0
            have F6_1 := N1 _ _ (by omega) F6_0
            have F7_1 := N1 _ _ (by omega) F7_0
            refine hK.out _ _ ?_ (fun hHeld => ?_)
            · exact HSx.out _ KX1
            clear hK K
            try simp only [Act.put, List.setIfInBounds_toArray, List.set_cons_zero, List.set_cons_succ]
            refine wpAnyH_ready (rs := [9]) (by kernel_rfl) (by simp) ?_
            refine AllReadyH.cons (o := Oper.mk none _ _ _ _ _) rfl (fun K hK => ?_) AllReadyH.nil
            obtain ⟨⟨c0, c1, c2, c3, c4⟩, ⟨f0, f1, f2, f3, f4⟩⟩ := zero_facts F5_1
            obtain ⟨X2, HX2, KX2, A5_2, N2⟩ := fill (a := a) (show w1.heap.size ≤ V0.heap.size by omega) KX1 F5_1
            go_simp
            go_wp2_with fail
            rw [← HX2.out]
            clear HX2 c0 c1 c2 c3 c4 f0 f1 f2 f3 f4
            have A4_2 := A5.mk (N2 _ _ (by omega) A4_1.blk)
            have F6_2 := N2 _ _ (by omega) F6_1
            have F7_2 := N2 _ _ (by omega) F7_1
            refine hK.out _ _ ?_ (fun hHeld => ?_)
            · exact HSx.out _ KX2
            clear hK K
            try simp only [Act.put, List.setIfInBounds_toArray, List.set_cons_zero, List.set_cons_succ]
            refine wpAnyH_ready (rs := [10]) (by kernel_rfl) (by simp) ?_
            refine AllReadyH.cons (o := Oper.mk none _ _ _ _ _) rfl (fun K hK => ?_) AllReadyH.nil
            obtain ⟨⟨c0, c1, c2, c3, c4⟩, ⟨f0, f1, f2, f3, f4⟩⟩ := zero_facts F6_2
            obtain ⟨X3, HX3, KX3, A6_3, N3⟩ := fill (a := a) (show w1.heap.size ≤ V1.heap.size by omega) KX2 F6_2
            go_simp
            go_wp2_with fail
            rw [← HX3.out]
            clear HX3 c0 c1 c2 c3 c4 f0 f1 f2 f3 f4
            have A4_3 := A5.mk (N3 _ _ (by omega) A4_2.blk)
            have A5_3 := A5.mk (N3 _ _ (by omega) A5_2.blk)
            have F7_3 := N3 _ _ (by omega) F7_2
            refine hK.out _ _ ?_ (fun hHeld => ?_)
            · exact HSx.out _ KX3
            clear hK K
            try simp only [Act.put, List.setIfInBounds_toArray, List.set_cons_zero, List.set_cons_succ]
            refine wpAnyH_ready (rs := [11]) (by kernel_rfl) (by simp) ?_
            refine AllReadyH.cons (o := Oper.mk none _ _ _ _ _) rfl (fun K hK => ?_) AllReadyH.nil
            obtain ⟨⟨c0, c1, c2, c3, c4⟩, ⟨f0, f1, f2, f3, f4⟩⟩ := zero_facts F7_3
            obtain ⟨X4, HX4, KX4, A7_4, N4⟩ := fill (a := a) (show w1.heap.size ≤ V2.heap.size by omega) KX3 F7_3
            go_simp
            go_wp2_with fail
            rw [← HX4.out]
            clear HX4 c0 c1 c2 c3 c4 f0 f1 f2 f3 f4
            have A4_4 := A5.mk (N4 _ _ (by omega) A4_3.blk)
            have A5_4 := A5.mk (N4 _ _ (by omega) A5_3.blk)
            have A6_4 := A5.mk (N4 _ _ (by omega) A6_3.blk)
            refine hK.out _ _ ?_ (fun hHeld => ?_)
            · exact HSx.out _ KX4
            clear hK K
            try simp only [Act.put, List.setIfInBounds_toArray, List.set_cons_zero, List.set_cons_succ]
            refine wpAnyH_done (by kernel_rfl) ?_ _
            refine NoPanic.normal ?_
            go_wp2
            go_meet
            exact ⟨V3.heap.size, V0.heap.size, V1.heap.size, V2.heap.size, rfl, rfl, rfl, rfl, KX4, ⟨by omega, by omega, by omega, by omega⟩, ⟨by omega, by omega, by omega, by omega, by omega, by omega⟩, A4_4, A5_4, A6_4, A7_4⟩
        · go_simp
          go_wp2_with fail
          obtain ⟨V2, HV2⟩ : ∃ V2, Hid (V2 = V1.alloc (.cells #[.int .i64 0, .int .i64 0, .int .i64 0, .int .i64 0, .int .i64 0] 28)) := ⟨_, rfl⟩
          have KS2 : Kp V1 V2 := by rw [HV2.out]; exact (Kp.refl _).alloc _
          have KV2 : Kp w1 V2 := KV1.trans KS2
          have E7_2 : V2.heap[V1.heap.size]? = some (.cells #[.int .i64 0, .int .i64 0, .int .i64 0, .int .i64 0, .int .i64 0] 28 (0, 0)) := by rw [HV2.out]; exact heap_alloc_at _ _
          have hq2 := lt_blk E7_2
          rw [← HV2.out]
          clear HV2
          have E5_2 := kp_block E5_1 KS2
          clear E5_1
          refine hK.out _ _ ?_ (fun hHeld => ?_)
          · exact HSx.out _ KV2
          clear hK K
          try simp only [Act.put, List.setIfInBounds_toArray, List.set_cons_zero, List.set_cons_succ]
          refine wpAnyH_ready (rs := [4, 6]) (by kernel_rfl) (by simp) ?_
          refine AllReadyH.cons (o := Oper.mk (some 5) _ _ _ _ _) rfl (fun K hK => ?_) (AllReadyH.cons (o := Oper.mk (some 7) _ _ _ _ _) rfl (fun K hK => ?_) AllReadyH.nil)
          · go_simp
            go_wp2_with fail
            obtain ⟨V3, HV3⟩ : ∃ V3, Hid (V3 = V2.alloc (.cells #[.int .i64 0, .int .i64 0, .int .i64 0, .int .i64 0, .int .i64 0] 28)) := ⟨_, rfl⟩
            have KS3 : Kp V2 V3 := by rw [HV3.out]; exact (Kp.refl _).alloc _
            have KV3 : Kp w1 V3 := KV2.trans KS3
            have E4_3 : V3.heap[V2.heap.size]? = some (.cells #[.int .i64 0, .int .i64 0, .int .i64 0, .int .i64 0, .int .i64 0] 28 (0, 0)) := by rw [HV3.out]; exact heap_alloc_at _ _
            have hq3 := lt_blk E4_3
            rw [← HV3.out]
            clear HV3
            have E5_3 := kp_block E5_2 KS3
            have E7_3 := kp_block E7_2 KS3
            clear E5_2 E7_2
            refine hK.out _ _ ?_ (fun hHeld => ?_)
            · exact HSx.out _ KV3
            clear hK K
            try simp only [Act.put, List.setIfInBounds_toArray, List.set_cons_zero, List.set_cons_succ]
            refine wpAnyH_ready (rs := [6]) (by kernel_rfl) (by simp) ?_
            refine AllReadyH.cons (o := Oper.mk (some 7) _ _ _ _ _) rfl (fun K hK => ?_) AllReadyH.nil
            go_simp
            go_wp2_with fail
            obtain ⟨V4, HV4⟩ : ∃ V4, Hid (V4 = V3.alloc (.cells #[.int .i64 0, .int .i64 0, .int .i64 0, .int .i64 0, .int .i64 0] 28)) := ⟨_, rfl⟩
            have KS4 : Kp V3 V4 := by rw [HV4.out]; exact (Kp.refl _).alloc _
            have KV4 : Kp w1 V4 := KV3.trans KS4
            have E6_4 : V4.heap[V3.heap.size]? = some (.cells #[.int .i64 0, .int .i64 0, .int .i64 0, .int .i64 0, .int .i64 0] 28 (0, 0)) := by rw [HV4.out]; exact heap_alloc_at _ _
            have hq4 := lt_blk E6_4
            rw [← HV4.out]
            clear HV4
            have E5_4 := kp_block E5_3 KS4
            have E7_4 := kp_block E7_3 KS4
            have E4_4 := kp_block E4_3 KS4
            clear E5_3 E7_3 E4_3
            refine hK.out _ _ ?_ (fun hHeld => ?_)
            · exact HSx.out _ KV4
            clear hK K
            try simp only [Act.put, List.setIfInBounds_toArray, List.set_cons_zero, List.set_cons_succ]
            obtain ⟨X0, HX0⟩ : ∃ X0, X0 = V4 := ⟨_, rfl⟩
            have KX0 : Kp w1 X0 := HX0 ▸ KV4
            have F4_0 := HX0 ▸ E4_4
            have F5_0 := HX0 ▸ E5_4
            have F6_0 := HX0 ▸ E6_4
            have F7_0 := HX0 ▸ E7_4
            rw [← HX0]
            clear HX0
            refine wpAnyH_ready (rs := [8]) (by kernel_rfl) (by simp) ?_
            refine AllReadyH.cons (o := Oper.mk none _ _ _ _ _) rfl (fun K hK => ?_) AllReadyH.nil
            obtain ⟨⟨c0, c1, c2, c3, c4⟩, ⟨f0, f1, f2, f3, f4⟩⟩ := zero_facts F4_0
            obtain ⟨X1, HX1, KX1, A4_1, N1⟩ := fill (a := a) (show w1.heap.size ≤ V2.heap.size by omega) KX0 F4_0
            go_simp
            go_wp2_with fail
            rw [← HX1.out]
            clear HX1 c0 c1 c2 c3 c4 f0 f1 f2 f3 f4
            have F5_1 := N1 _ _ (by omega) F5_0
            have F6_1 := N1 _ _ (by omega) F6_0
            have F7_1 := N1 _ _ (by omega) F7_0
            refine hK.out _ _ ?_ (fun hHeld => ?_)
            · exact HSx.out _ KX1
            clear hK K
            try simp only [Act.put, List.setIfInBounds_toArray, List.set_cons_zero, List.set_cons_succ]
            refine wpAnyH_ready (rs := [9]) (by kernel_rfl) (by simp) ?_
            refine AllReadyH.cons (o := Oper.mk none _ _ _ _ _) rfl (fun K hK => ?_) AllReadyH.nil
            obtain ⟨⟨c0, c1, c2, c3, c4⟩, ⟨f0, f1, f2, f3, f4⟩⟩ := zero_facts F5_1
            obtain ⟨X2, HX2, KX2, A5_2, N2⟩ := fill (a := a) (show w1.heap.size ≤ V0.heap.size by omega) KX1 F5_1
            go_simp
            go_wp2_with fail
            rw [← HX2.out]
            clear HX2 c0 c1 c2 c3 c4 f0 f1 f2 f3 f4
            have A4_2 := A5.mk (N2 _ _ (by omega) A4_1.blk)
            have F6_2 := N2 _ _ (by omega) F6_1
            have F7_2 := N2 _ _ (by omega) F7_1
            refine hK.out _ _ ?_ (fun hHeld => ?_)
            · exact HSx.out _ KX2
            clear hK K
            try simp only [Act.put, List.setIfInBounds_toArray, List.set_cons_zero, List.set_cons_succ]
            refine wpAnyH_ready (rs := [10]) (by kernel_rfl) (by simp) ?_
            refine AllReadyH.cons (o := Oper.mk none _ _ _ _ _) rfl (fun K hK => ?_) AllReadyH.nil
            obtain ⟨⟨c0, c1, c2, c3, c4⟩, ⟨f0, f1, f2, f3, f4⟩⟩ := zero_facts F6_2
            obtain ⟨X3, HX3, KX3, A6_3, N3⟩ := fill (a := a) (show w1.heap.size ≤ V3.heap.size by omega) KX2 F6_2
            go_simp
            go_wp2_with fail
            rw [← HX3.out]
            clear HX3 c0 c1 c2 c3 c4 f0 f1 f2 f3 f4
            have A4_3 := A5.mk (N3 _ _ (by omega) A4_2.blk)
            have A5_3 := A5.mk (N3 _ _ (by omega) A5_2.blk)
            have F7_3 := N3 _ _ (by omega) F7_2
            refine hK.out _ _ ?_ (fun hHeld => ?_)
            · exact HSx.out _ KX3
            clear hK K
            try simp only [Act.put, List.setIfInBounds_toArray, List.set_cons_zero, List.set_cons_succ]
            refine wpAnyH_ready (rs := [11]) (by kernel_rfl) (by simp) ?_
            refine AllReadyH.cons (o := Oper.mk none _ _ _ _ _) rfl (fun K hK => ?_) AllReadyH.nil
            obtain ⟨⟨c0, c1, c2, c3, c4⟩, ⟨f0, f1, f2, f3, f4⟩⟩ := zero_facts F7_3
            obtain ⟨X4, HX4, KX4, A7_4, N4⟩ := fill (a := a) (show w1.heap.size ≤ V1.heap.size by omega) KX3 F7_3
            go_simp
            go_wp2_with fail
            rw [← HX4.out]
            clear HX4 c0 c1 c2 c3 c4 f0 f1 f2 f3 f4
            have A4_4 := A5.mk (N4 _ _ (by omega) A4_3.blk)
            have A5_4 := A5.mk (N4 _ _ (by omega) A5_3.blk)
            have A6_4 := A5.mk (N4 _ _ (by omega) A6_3.blk)
            refine hK.out _ _ ?_ (fun hHeld => ?_)
            · exact HSx.out _ KX4
            clear hK K
            try simp only [Act.put, List.setIfInBounds_toArray, List.set_cons_zero, List.set_cons_succ]
            refine wpAnyH_done (by kernel_rfl) ?_ _
            refine NoPanic.normal ?_
            go_wp2
            go_meet
            exact ⟨V2.heap.size, V0.heap.size, V3.heap.size, V1.heap.size, rfl, rfl, rfl, rfl, KX4, ⟨by omega, by omega, by omega, by omega⟩, ⟨by omega, by omega, by omega, by omega, by omega, by omega⟩, A4_4, A5_4, A6_4, A7_4⟩
          · go_simp
            go_wp2_with fail
            obtain ⟨V3, HV3⟩ : ∃ V3, Hid (V3 = V2.alloc (.cells #[.int .i64 0, .int .i64 0, .int .i64 0, .int .i64 0, .int .i64 0] 28)) := ⟨_, rfl⟩
            have KS3 : Kp V2 V3 := by rw [HV3.out]; exact (Kp.refl _).alloc _
            have KV3 : Kp w1 V3 := KV2.trans KS3
            have E6_3 : V3.heap[V2.heap.size]? = some (.cells #[.int .i64 0, .int .i64 0, .int .i64 0, .int .i64 0, .int .i64 0] 28 (0, 0)) := by rw [HV3.out]; exact heap_alloc_at _ _
            have hq3 := lt_blk E6_3
            rw [← HV3.out]
            clear HV3
            have E5_3 := kp_block E5_2 KS3
            have E7_3 := kp_block E7_2 KS3
            clear E5_2 E7_2
            refine hK.out _ _ ?_ (fun hHeld => ?_)
            · exact HSx.out _ KV3
            clear hK K
            try simp only [Act.put, List.setIfInBounds_toArray, List.set_cons_zero, List.set_cons_succ]
            refine wpAnyH_ready (rs := [4]) (by kernel_rfl) (by simp) ?_
            refine AllReadyH.cons (o := Oper.mk (some 5) _ _ _ _ _) rfl (fun K hK => ?_) AllReadyH.nil
            go_simp
            go_wp2_with fail
            obtain ⟨V4, HV4⟩ : ∃ V4, Hid (V4 = V3.alloc (.cells #[.int .i64 0, .int .i64 0, .int .i64 0, .int .i64 0, .int .i64 0] 28)) := ⟨_, rfl⟩
            have KS4 : Kp V3 V4 := by rw [HV4.out]; exact (Kp.refl _).alloc _
            have KV4 : Kp w1 V4 := KV3.trans KS4
            have E4_4 : V4.heap[V3.heap.size]? = some (.cells #[.int .i64 0, .int .i64 0, .int .i64 0, .int .i64 0, .int .i64 0] 28 (0, 0)) := by rw [HV4.out]; exact heap_alloc_at _ _
            have hq4 := lt_blk E4_4
            rw [← HV4.out]
            clear HV4
            have E5_4 := kp_block E5_3 KS4
            have E7_4 := kp_block E7_3 KS4
            have E6_4 := kp_block E6_3 KS4
            clear E5_3 E7_3 E6_3
            refine hK.out _ _ ?_ (fun hHeld => ?_)
            · exact HSx.out _ KV4
            clear hK K
            try simp only [Act.put, List.setIfInBounds_toArray, List.set_cons_zero, List.set_cons_succ]
            obtain ⟨X0, HX0⟩ : ∃ X0, X0 = V4 := ⟨_, rfl⟩
            have KX0 : Kp w1 X0 := HX0 ▸ KV4
            have F4_0 := HX0 ▸ E4_4
            have F5_0 := HX0 ▸ E5_4
            have F6_0 := HX0 ▸ E6_4
            have F7_0 := HX0 ▸ E7_4
            rw [← HX0]
            clear HX0
            refine wpAnyH_ready (rs := [8]) (by kernel_rfl) (by simp) ?_
            refine AllReadyH.cons (o := Oper.mk none _ _ _ _ _) rfl (fun K hK => ?_) AllReadyH.nil
            obtain ⟨⟨c0, c1, c2, c3, c4⟩, ⟨f0, f1, f2, f3, f4⟩⟩ := zero_facts F4_0
            obtain ⟨X1, HX1, KX1, A4_1, N1⟩ := fill (a := a) (show w1.heap.size ≤ V3.heap.size by omega) KX0 F4_0
            go_simp
            go_wp2_with fail
            rw [← HX1.out]
            clear HX1 c0 c1 c2 c3 c4 f0 f1 f2 f3 f4
            have F5_1 := N1 _ _ (by omega) F5_0
            have F6_1 := N1 _ _ (by omega) F6_0
            have F7_1 := N1 _ _ (by omega) F7_0
            refine hK.out _ _ ?_ (fun hHeld => ?_)
            · exact HSx.out _ KX1
            clear hK K
            try simp only [Act.put, List.setIfInBounds_toArray, List.set_cons_zero, List.set_cons_succ]
            refine wpAnyH_ready (rs := [9]) (by kernel_rfl) (by simp) ?_
            refine AllReadyH.cons (o := Oper.mk none _ _ _ _ _) rfl (fun K hK => ?_) AllReadyH.nil
            obtain ⟨⟨c0, c1, c2, c3, c4⟩, ⟨f0, f1, f2, f3, f4⟩⟩ := zero_facts F5_1
            obtain ⟨X2, HX2, KX2, A5_2, N2⟩ := fill (a := a) (show w1.heap.size ≤ V0.heap.size by omega) KX1 F5_1
            go_simp
            go_wp2_with fail
            rw [← HX2.out]
            clear HX2 c0 c1 c2 c3 c4 f0 f1 f2 f3 f4
            have A4_2 := A5.mk (N2 _ _ (by omega) A4_1.blk)
            have F6_2 := N2 _ _ (by omega) F6_1
            have F7_2 := N2 _ _ (by omega) F7_1
            refine hK.out _ _ ?_ (fun hHeld => ?_)
            · exact HSx.out _ KX2
            clear hK K
            try simp only [Act.put, List.setIfInBounds_toArray, List.set_cons_zero, List.set_cons_succ]
            refine wpAnyH_ready (rs := [10]) (by kernel_rfl) (by simp) ?_
            refine AllReadyH.cons (o := Oper.mk none _ _ _ _ _) rfl (fun K hK => ?_) AllReadyH.nil
            obtain ⟨⟨c0, c1, c2, c3, c4⟩, ⟨f0, f1, f2, f3, f4⟩⟩ := zero_facts F6_2
            obtain ⟨X3, HX3, KX3, A6_3, N3⟩ := fill (a := a) (show w1.heap.size ≤ V2.heap.size by omega) KX2 F6_2
            go_simp
            go_wp2_with fail
            rw [← HX3.out]
            clear HX3 c0 c1 c2 c3 c4 f0 f1 f2 f3 f4
            have A4_3 := A5.mk (N3 _ _ (by omega) A4_2.blk)
            have A5_3 := A5.mk (N3 _ _ (by omega) A5_2.blk)
            have F7_3 := N3 _ _ (by omega) F7_2
            refine hK.out _ _ ?_ (fun hHeld => ?_)
            · exact HSx.out _ KX3
            clear hK K
            try simp only [Act.put, List.setIfInBounds_toArray, List.set_cons_zero, List.set_cons_succ]
            refine wpAnyH_ready (rs := [11]) (by kernel_rfl) (by simp) ?_
            refine AllReadyH.cons (o := Oper.mk none _ _ _ _ _) rfl (fun K hK => ?_) AllReadyH.nil
            obtain ⟨⟨c0, c1, c2, c3, c4⟩, ⟨f0, f1, f2, f3, f4⟩⟩ := zero_facts F7_3
            obtain ⟨X4, HX4, KX4, A7_4, N4⟩ := fill (a := a) (show w1.heap.size ≤ V1.heap.size by omega) KX3 F7_3
            go_simp
            go_wp2_with fail
            rw [← HX4.out]
            clear HX4 c0 c1 c2 c3 c4 f0 f1 f2 f3 f4
            have A4_4 := A5.mk (N4 _ _ (by omega) A4_3.blk)
            have A5_4 := A5.mk (N4 _ _ (by omega) A5_3.blk)
            have A6_4 := A5.mk (N4 _ _ (by omega) A6_3.blk)
            refine hK.out _ _ ?_ (fun hHeld => ?_)
            · exact HSx.out _ KX4
            clear hK K
            try simp only [Act.put, List.setIfInBounds_toArray, List.set_cons_zero, List.set_cons_succ]
            refine wpAnyH_done (by kernel_rfl) ?_ _
            refine NoPanic.normal ?_
            go_wp2
            go_meet
            exact ⟨V3.heap.size, V0.heap.size, V2.heap.size, V1.heap.size, rfl, rfl, rfl, rfl, KX4, ⟨by omega, by omega, by omega, by omega⟩, ⟨by omega, by omega, by omega, by omega, by omega, by omega⟩, A4_4, A5_4, A6_4, A7_4⟩
      · go_simp
        go_wp2_with fail
        obtain ⟨V1, HV1⟩ : ∃ V1, Hid (V1 = V0.alloc (.cells #[.int .i64 0, .int .i64 0, .int .i64 0, .int .i64 0, .int .i64 0] 28)) := ⟨_, rfl⟩
        have KS1 : Kp V0 V1 := by rw [HV1.out]; exact (Kp.refl _).alloc _
        have KV1 : Kp w1 V1 := KV0.trans KS1
        have E6_1 : V1.heap[V0.heap.size]? = some (.cells #[.int .i64 0, .int .i64 0, .int .i64 0, .int .i64 0, .int .i64 0] 28 (0, 0)) := by rw [HV1.out]; exact heap_alloc_at _ _
        have hq1 := lt_blk E6_1
        rw [← HV1.out]
        clear HV1
        refine hK.out _ _ ?_ (fun hHeld => ?_)
        · exact HSx.out _ KV1
        clear hK K
        try simp only [Act.put, List.setIfInBounds_toArray, List.set_cons_zero, List.set_cons_succ]
        refine wpAnyH_ready (rs := [4, 5, 7]) (by kernel_rfl) (by simp) ?_
        refine AllReadyH.cons (o := Oper.mk (some 5) _ _ _ _ _) rfl (fun K hK => ?_) (AllReadyH.cons (o := Oper.mk (some 6) _ _ _ _ _) rfl (fun K hK => ?_) (AllReadyH.cons (o := Oper.mk (some 8) _ _ _ _ _) rfl (fun K hK => ?_) AllReadyH.nil))
        · go_simp
          go_wp2_with fail
          obtain ⟨V2, HV2⟩ : ∃ V2, Hid (V2 = V1.alloc (.cells #[.int .i64 0, .int .i64 0, .int .i64 0, .int .i64 0, .int .i64 0] 28)) := ⟨_, rfl⟩
          have KS2 : Kp V1 V2 := by rw [HV2.out]; exact (Kp.refl _).alloc _
          have KV2 : Kp w1 V2 := KV1.trans KS2
          have E4_2 : V2.heap[V1.heap.size]? = some (.cells #[.int .i64 0, .int .i64 0, .int .i64 0, .int .i64 0, .int .i64 0] 28 (0, 0)) := by rw [HV2.out]; exact heap_alloc_at _ _
          have hq2 := lt_blk E4_2
          rw [← HV2.out]
          clear HV2
          have E6_2 := kp_block E6_1 KS2
          clear E6_1
          refine hK.out _ _ ?_ (fun hHeld => ?_)
          · exact HSx.out _ KV2
          clear hK K
          try simp only [Act.put, List.setIfInBounds_toArray, List.set_cons_zero, List.set_cons_succ]
          refine wpAnyH_ready (rs := [5, 7]) (by kernel_rfl) (by simp) ?_
          refine AllReadyH.cons (o := Oper.mk (some 6) _ _ _ _ _) rfl (fun K hK => ?_) (AllReadyH.cons (o := Oper.mk (some 8) _ _ _ _ _) rfl (fun K hK => ?_) AllReadyH.nil)
          · go_simp
            go_wp2_with fail
            obtain ⟨V3, HV3⟩ : ∃ V3, Hid (V3 = V2.alloc (.cells #[.int .i64 0, .int .i64 0, .int .i64 0, .int .i64 0, .int .i64 0] 28)) := ⟨_, rfl⟩
            have KS3 : Kp V2 V3 := by rw [HV3.out]; exact (Kp.refl _).alloc _
            have KV3 : Kp w1 V3 := KV2.trans KS3
            have E5_3 : V3.heap[V2.heap.size]? = some (.cells #[.int .i64 0, .int .i64 0, .int .i64 0, .int .i64 0, .int .i64 0] 28 (0, 0)) := by rw [HV3.out]; exact heap_alloc_at _ _
            have hq3 := lt_blk E5_3
            rw [← HV3.out]
            clear HV3
            have E6_3 := kp_block E6_2 KS3
            have E4_3 := kp_block E4_2 KS3
            clear E6_2 E4_2
            refine hK.out _ _ ?_ (fun hHeld => ?_)
            · exact HSx.out _ KV3
            clear hK K
            try simp only [Act.put, List.setIfInBounds_toArray, List.set_cons_zero, List.set_cons_succ]
            refine wpAnyH_ready (rs := [7]) (by kernel_rfl) (by simp) ?_
            refine AllReadyH.cons (o := Oper.mk (some 8) _ _ _ _ _) rfl (fun K hK => ?_) AllReadyH.nil
            go_simp
            go_wp2_with fail
            obtain ⟨V4, HV4⟩ : ∃ V4, Hid (V4 = V3.alloc (.cells #[.int .i64 0, .int .i64 0, .int .i64 0, .int .i64 0, .int .i64 0] 28)) := ⟨_, rfl⟩
            have KS4 : Kp V3 V4 := by rw [HV4.out]; exact (Kp.refl _).alloc _
            have KV4 : Kp w1 V4 := KV3.trans KS4
            have E7_4 : V4.heap[V3.heap.size]? = some (.cells #[.int .i64 0, .int .i64 0, .int .i64 0, .int .i64 0, .int .i64 0] 28 (0, 0)) := by rw [HV4.out]; exact heap_alloc_at _ _
            have hq4 := lt_blk E7_4
            rw [← HV4.out]
            clear HV4
            have E6_4 := kp_block E6_3 KS4
            have E4_4 := kp_block E4_3 KS4
            have E5_4 := kp_block E5_3 KS4
            clear E6_3 E4_3 E5_3
            refine hK.out _ _ ?_ (fun hHeld => ?_)
            · exact HSx.out _ KV4
            clear hK K
            try simp only [Act.put, List.setIfInBounds_toArray, List.set_cons_zero, List.set_cons_succ]
            obtain ⟨X0, HX0⟩ : ∃ X0, X0 = V4 := ⟨_, rfl⟩
            have KX0 : Kp w1 X0 := HX0 ▸ KV4
            have F4_0 := HX0 ▸ E4_4
            have F5_0 := HX0 ▸ E5_4
            have F6_0 := HX0 ▸ E6_4
            have F7_0 := HX0 ▸ E7_4
            rw [← HX0]
            clear HX0
            refine wpAnyH_ready (rs := [8]) (by kernel_rfl) (by simp) ?_
            refine AllReadyH.cons (o := Oper.mk none _ _ _ _ _) rfl (fun K hK => ?_) AllReadyH.nil
            obtain ⟨⟨c0, c1, c2, c3, c4⟩, ⟨f0, f1, f2, f3, f4⟩⟩ := zero_facts F4_0
            obtain ⟨X1, HX1, KX1, A4_1, N1⟩ := fill (a := a) (show w1.heap.size ≤ V1.heap.size by omega) KX0 F4_0
            go_simp
            go_wp2_with fail
            rw [← HX1.out]
            clear HX1 c0 c1 c2 c3 c4 f0 f1 f2 f3 f4
            have F5_1 := N1 _ _ (by omega) F5_0
            have F6_1 := N1 _ _ (by omega) F6_0
            have F7_1 := N1 _ _ (by omega) F7_0
            refine hK.out _ _ ?_ (fun hHeld => ?_)
            · exact HSx.out _ KX1
            clear hK K
            try simp only [Act.put, List.setIfInBounds_toArray, List.set_cons_zero, List.set_cons_succ]
            refine wpAnyH_ready (rs := [9]) (by kernel_rfl) (by simp) ?_
            refine AllReadyH.cons (o := Oper.mk none _ _ _ _ _) rfl (fun K hK => ?_) AllReadyH.nil
            obtain ⟨⟨c0, c1, c2, c3, c4⟩, ⟨f0, f1, f2, f3, f4⟩⟩ := zero_facts F5_1
            obtain ⟨X2, HX2, KX2, A5_2, N2⟩ := fill (a := a) (show w1.heap.size ≤ V2.heap.size by omega) KX1 F5_1
            go_simp
            go_wp2_with fail
            rw [← HX2.out]
            clear HX2 c0 c1 c2 c3 c4 f0 f1 f2 f3 f4
            have A4_2 := A5.mk (N2 _ _ (by omega) A4_1.blk)
            have F6_2 := N2 _ _ (by omega) F6_1
            have F7_2 := N2 _ _ (by omega) F7_1
            refine hK.out _ _ ?_ (fun hHeld => ?_)
            · exact HSx.out _ KX2
            clear hK K
            try simp only [Act.put, List.setIfInBounds_toArray, List.set_cons_zero, List.set_cons_succ]
            refine wpAnyH_ready (rs := [10]) (by kernel_rfl) (by simp) ?_
            refine AllReadyH.cons (o := Oper.mk none _ _ _ _ _) rfl (fun K hK => ?_) AllReadyH.nil
            obtain ⟨⟨c0, c1, c2, c3, c4⟩, ⟨f0, f1, f2, f3, f4⟩⟩ := zero_facts F6_2
            obtain ⟨X3, HX3, KX3, A6_3, N3⟩ := fill (a := a) (show w1.heap.size ≤ V0.heap.size by omega) KX2 F6_2
            go_simp
            go_wp2_with fail
            rw [← HX3.out]
            clear HX3 c0 c1 c2 c3 c4 f0 f1 f2 f3 f4
            have A4_3 := A5.mk (N3 _ _ (by omega) A4_2.blk)
            have A5_3 := A5.mk (N3 _ _ (by omega) A5_2.blk)
            have F7_3 := N3 _ _ (by omega) F7_2
            refine hK.out _ _ ?_ (fun hHeld => ?_)
            · exact HSx.out _ KX3
            clear hK K
            try simp only [Act.put, List.setIfInBounds_toArray, List.set_cons_zero, List.set_cons_succ]
            refine wpAnyH_ready (rs := [11]) (by kernel_rfl) (by simp) ?_
            refine AllReadyH.cons (o := Oper.mk none _ _ _ _ _) rfl (fun K hK => ?_) AllReadyH.nil
            obtain ⟨⟨c0, c1, c2, c3, c4⟩, ⟨f0, f1, f2, f3, f4⟩⟩ := zero_facts F7_3
            obtain ⟨X4, HX4, KX4, A7_4, N4⟩ := fill (a := a) (show w1.heap.size ≤ V3.heap.size by omega) KX3 F7_3
            go_simp
            go_wp2_with fail
            rw [← HX4.out]
            clear HX4 c0 c1 c2 c3 c4 f0 f1 f2 f3 f4
            have A4_4 := A5.mk (N4 _ _ (by omega) A4_3.blk)
            have A5_4 := A5.mk (N4 _ _ (by omega) A5_3.blk)
            have A6_4 := A5.mk (N4 _ _ (by omega) A6_3.blk)
            refine hK.out _ _ ?_ (fun hHeld => ?_)
            · exact HSx.out _ KX4
            clear hK K
            try simp only [Act.put, List.setIfInBounds_toArray, List.set_cons_zero, List.set_cons_succ]
            refine wpAnyH_done (by kernel_rfl) ?_ _
            refine NoPanic.normal ?_
            go_wp2
            go_meet
            exact ⟨V1.heap.size, V2.heap.size, V0.heap.size, V3.heap.size, rfl, rfl, rfl, rfl, KX4, ⟨by omega, by omega, by omega, by omega⟩, ⟨by omega, by omega, by omega, by omega, by omega, by omega⟩, A4_4, A5_4, A6_4, A7_4⟩
          · go_simp
            go_wp2_with fail
            obtain ⟨V3, HV3⟩ : ∃ V3, Hid (V3 = V2.alloc (.cells #[.int .i64 0, .int .i64 0, .int .i64 0, .int .i64 0, .int .i64 0] 28)) := ⟨_, rfl⟩
            have KS3 : Kp V2 V3 := by rw [HV3.out]; exact (Kp.refl _).alloc _
            have KV3 : Kp w1 V3 := KV2.trans KS3
            have E7_3 : V3.heap[V2.heap.size]? = some (.cells #[.int .i64 0, .int .i64 0, .int .i64 0, .int .i64 0, .int .i64 0] 28 (0, 0)) := by rw [HV3.out]; exact heap_alloc_at _ _
            have hq3 := lt_blk E7_3
            rw [← HV3.out]
            clear HV3
            have E6_3 := kp_block E6_2 KS3
            have E4_3 := kp_block E4_2 KS3
            clear E6_2 E4_2
            refine hK.out _ _ ?_ (fun hHeld => ?_)
            · exact HSx.out _ KV3
            clear hK K
            try simp only [Act.put, List.setIfInBounds_toArray, List.set_cons_zero, List.set_cons_succ]
            refine wpAnyH_ready (rs := [5]) (by kernel_rfl) (by simp) ?_
            refine AllReadyH.cons (o := Oper.mk (some 6) _ _ _ _ _) rfl (fun K hK => ?_) AllReadyH.nil
            go_simp
            go_wp2_with fail
            obtain ⟨V4, HV4⟩ : ∃ V4, Hid (V4 = V3.alloc (.cells #[.int .i64 0, .int .i64 0, .int .i64 0, .int .i64 0, .int .i64 0] 28)) := ⟨_, rfl⟩
            have KS4 : Kp V3 V4 := by rw [HV4.out]; exact (Kp.refl _).alloc _
            have KV4 : Kp w1 V4 := KV3.trans KS4
            have E5_4 : V4.heap[V3.heap.size]? = some (.cells #[.int .i64 0, .int .i64 0, .int .i64 0, .int .i64 0, .int .i64 0] 28 (0, 0)) := by rw [HV4.out]; exact heap_alloc_at _ _
            have hq4 := lt_blk E5_4
            rw [← HV4.out]
            clear HV4
            have E6_4 := kp_block E6_3 KS4
            have E4_4 := kp_block E4_3 KS4
            have E7_4 := kp_block E7_3 KS4
            clear E6_3 E4_3 E7_3
            refine hK.out _ _ ?_ (fun hHeld => ?_)
            · exact HSx.out _ KV4
            clear hK K
            try simp only [Act.put, List.setIfInBounds_toArray, List.set_cons_zero, List.set_cons_succ]
            obtain ⟨X0, HX0⟩ : ∃ X0, X0 = V4 := ⟨_, rfl⟩
            have KX0 : Kp w1 X0 := HX0 ▸ KV4
            have F4_0 := HX0 ▸ E4_4
            have F5_0 := HX0 ▸ E5_4
            have F6_0 := HX0 ▸ E6_4
            have F7_0 := HX0 ▸ E7_4
            rw [← HX0]
            clear HX0
            refine wpAnyH_ready (rs := [8]) (by kernel_rfl) (by simp) ?_
            refine AllReadyH.cons (o := Oper.mk none _ _ _ _ _) rfl (fun K hK => ?_) AllReadyH.nil
            obtain ⟨⟨c0, c1, c2, c3, c4⟩, ⟨f0, f1, f2, f3, f4⟩⟩ := zero_facts F4_0
            obtain ⟨X1, HX1, KX1, A4_1, N1⟩ := fill (a := a) (show w1.heap.size ≤ V1.heap.size by omega) KX0 F4_0
            go_simp
            go_wp2_with fail
            rw [← HX1.out]
            clear HX1 c0 c1 c2 c3 c4 f0 f1 f2 f3 f4
            have F5_1 := N1 _ _ (by omega) F5_0
            have F6_1 := N1 _ _ (by omega) F6_0
            have F7_1 := N1 _ _ (by omega) F7_0
            refine hK.out _ _ ?_ (fun hHeld => ?_)
            · exact HSx.out _ KX1
            clear hK K
            try simp only [Act.put, List.setIfInBounds_toArray, List.set_cons_zero, List.set_cons_succ]
            refine wpAnyH_ready (rs := [9]) (by kernel_rfl) (by simp) ?_
            refine AllReadyH.cons (o := Oper.mk none _ _ _ _ _) rfl (fun K hK => ?_) AllReadyH.nil
            obtain ⟨⟨c0, c1, c2, c3, c4⟩, ⟨f0, f1, f2, f3, f4⟩⟩ := zero_facts F5_1
            obtain ⟨X2, HX2, KX2, A5_2, N2⟩ := fill (a := a) (show w1.heap.size ≤ V3.heap.size by omega) KX1 F5_1
            go_simp
            go_wp2_with fail
            rw [← HX2.out]
            clear HX2 c0 c1 c2 c3 c4 f0 f1 f2 f3 f4
            have A4_2 := A5.mk (N2 _ _ (by omega) A4_1.blk)
            have F6_2 := N2 _ _ (by omega) F6_1
            have F7_2 := N2 _ _ (by omega) F7_1
            refine hK.out _ _ ?_ (fun hHeld => ?_)
            · exact HSx.out _ KX2
            clear hK K
            try simp only [Act.put, List.setIfInBounds_toArray, List.set_cons_zero, List.set_cons_succ]
            refine wpAnyH_ready (rs := [10]) (by kernel_rfl) (by simp) ?_
            refine AllReadyH.cons (o := Oper.mk none _ _ _ _ _) rfl (fun K hK => ?_) AllReadyH.nil
            obtain ⟨⟨c0, c1, c2, c3, c4⟩, ⟨f0, f1, f2, f3, f4⟩⟩ := zero_facts F6_2
            obtain ⟨X3, HX3, KX3, A6_3, N3⟩ := fill (a := a) (show w1.heap.size ≤ V0.heap.size by omega) KX2 F6_2
            go_simp
            go_wp2_with fail
            rw [← HX3.out]
            clear HX3 c0 c1 c2 c3 c4 f0 f1 f2 f3 f4
            have A4_3 := A5.mk (N3 _ _ (by omega) A4_2.blk)
            have A5_3 := A5.mk (N3 _ _ (by omega) A5_2.blk)
            have F7_3 := N3 _ _ (by omega) F7_2
            refine hK.out _ _ ?_ (fun hHeld => ?_)
            · exact HSx.out _ KX3
            clear hK K
            try simp only [Act.put, List.setIfInBounds_toArray, List.set_cons_zero, List.set_cons_succ]
            refine wpAnyH_ready (rs := [11]) (by kernel_rfl) (by simp) ?_
            refine AllReadyH.cons (o := Oper.mk none _ _ _ _ _) rfl (fun K hK => ?_) AllReadyH.nil
            obtain ⟨⟨c0, c1, c2, c3, c4⟩, ⟨f0, f1, f2, f3, f4⟩⟩ := zero_facts F7_3
            obtain ⟨X4, HX4, KX4, A7_4, N4⟩ := fill (a := a) (show w1.heap.size ≤ V2.heap.size by omega) KX3 F7_3
            go_simp
            go_wp2_with fail
            rw [← HX4.out]
            clear HX4 c0 c1 c2 c3 c4 f0 f1 f2 f3 f4
            have A4_4 := A5.mk (N4 _ _ (by omega) A4_3.blk)
            have A5_4 := A5.mk (N4 _ _ (by omega) A5_3.blk)
            have A6_4 := A5.mk (N4 _ _ (by omega) A6_3.blk)
            refine hK.out _ _ ?_ (fun hHeld => ?_)
            · exact HSx.out _ KX4
            clear hK K
            try simp only [Act.put, List.setIfInBounds_toArray, List.set_cons_zero, List.set_cons_succ]
            refine wpAnyH_done (by kernel_rfl) ?_ _
            refine NoPanic.normal ?_
            go_wp2
            go_meet
            exact ⟨V1.heap.size, V3.heap.size, V0.heap.size, V2.heap.size, rfl, rfl, rfl, rfl, KX4, ⟨by omega, by omega, by omega, by omega⟩, ⟨by omega, by omega, by omega, by omega, by omega, by omega⟩, A4_4, A5_4, A6_4, A7_4⟩
        · go_simp
          go_wp2_with fail
          obtain ⟨V2, HV2⟩ : ∃ V2, Hid (V2 = V1.alloc (.cells #[.int .i64 0, .int .i64 0, .int .i64 0, .int .i64 0, .int .i64 0] 28)) := ⟨_, rfl⟩
          have KS2 : Kp V1 V2 := by rw [HV2.out]; exact (Kp.refl _).alloc _
          have KV2 : Kp w1 V2 := KV1.trans KS2
          have E5_2 : V2.heap[V1.heap.size]? = some (.cells #[.int .i64 0, .int .i64 0, .int .i64 0, .int .i64 0, .int .i64 0] 28 (0, 0)) := by rw [HV2.out]; exact heap_alloc_at _ _
          have hq2 := lt_blk E5_2
          rw [← HV2.out]
          clear HV2
          have E6_2 := kp_block E6_1 KS2
          clear E6_1
          refine hK.out _ _ ?_ (fun hHeld => ?_)
          · exact HSx.out _ KV2
          clear hK K
          try simp only [Act.put, List.setIfInBounds_toArray, List.set_cons_zero, List.set_cons_succ]
          refine wpAnyH_ready (rs := [4, 7]) (by kernel_rfl) (by simp) ?_
          refine AllReadyH.cons (o := Oper.mk (some 5) _ _ _ _ _) rfl (fun K hK => ?_) (AllReadyH.cons (o := Oper.mk (some 8) _ _ _ _ _) rfl (fun K hK => ?_) AllReadyH.nil)
          · go_simp
            go_wp2_with fail
            obtain ⟨V3, HV3⟩ : ∃ V3, Hid (V3 = V2.alloc (.cells #[.int .i64 0, .int .i64 0, .int .i64 0, .int .i64 0, .int .i64 0] 28)) := ⟨_, rfl⟩
            have KS3 : Kp V2 V3 := by rw [HV3.out]; exact (Kp.refl _).alloc _
            have KV3 : Kp w1 V3 := KV2.trans KS3
            have E4_3 : V3.heap[V2.heap.size]? = some (.cells #[.int .i64 0, .int .i64 0, .int .i64 0, .int .i64 0, .int .i64 0] 28 (0, 0)) := by rw [HV3.out]; exact heap_alloc_at _ _
            have hq3 := lt_blk E4_3
            rw [← HV3.out]
            clear HV3
            have E6_3 := kp_block E6_2 KS3
            have E5_3 := kp_block E5_2 KS3
            clear E6_2 E5_2
            refine hK.out _ _ ?_ (fun hHeld => ?_)
            · exact HSx.out _ KV3
            clear hK K
            try simp only [Act.put, List.setIfInBounds_toArray, List.set_cons_zero, List.set_cons_succ]
            refine wpAnyH_ready (rs := [7]) (by kernel_rfl) (by simp) ?_
            refine AllReadyH.cons (o := Oper.mk (some 8) _ _ _ _ _) rfl (fun K hK => ?_) AllReadyH.nil
            go_simp
            go_wp2_with fail
            obtain ⟨V4, HV4⟩ : ∃ V4, Hid (V4 = V3.alloc (.cells #[.int .i64 0, .int .i64 0, .int .i64 0, .int .i64 0, .int .i64 0] 28)) := ⟨_, rfl⟩
            have KS4 : Kp V3 V4 := by rw [HV4.out]; exact (Kp.refl _).alloc _
            have KV4 : Kp w1 V4 := KV3.trans KS4
            have E7_4 : V4.heap[V3.heap.size]? = some (.cells #[.int .i64 0, .int .i64 0, .int .i64 0, .int .i64 0, .int .i64 0] 28 (0, 0)) := by rw [HV4.out]; exact heap_alloc_at _ _
            have hq4 := lt_blk E7_4
            rw [← HV4.out]
            clear HV4
            have E6_4 := kp_block E6_3 KS4
            have E5_4 := kp_block E5_3 KS4
            have E4_4 := kp_block E4_3 KS4
            clear E6_3 E5_3 E4_3
            refine hK.out _ _ ?_ (fun hHeld => ?_)
            · exact HSx.out _ KV4
            clear hK K
            try simp only [Act.put, List.setIfInBounds_toArray, List.set_cons_zero, List.set_cons_succ]
            obtain ⟨X0, HX0⟩ : ∃ X0, X0 = V4 := ⟨_, rfl⟩
            have KX0 : Kp w1 X0 := HX0 ▸ KV4
            have F4_0 := HX0 ▸ E4_4
            have F5_0 := HX0 ▸ E5_4
            have F6_0 := HX0 ▸ E6_4
            have F7_0 := HX0 ▸ E7_4
            rw [← HX0]
            clear HX0
            refine wpAnyH_ready (rs := [8]) (by kernel_rfl) (by simp) ?_
            refine AllReadyH.cons (o := Oper.mk none _ _ _ _ _) rfl (fun K hK => ?_) AllReadyH.nil
            obtain ⟨⟨c0, c1, c2, c3, c4⟩, ⟨f0, f1, f2, f3, f4⟩⟩ := zero_facts F4_0
            obtain ⟨X1, HX1, KX1, A4_1, N1⟩ := fill (a := a) (show w1.heap.size ≤ V2.heap.size by omega) KX0 F4_0
            go_simp
            go_wp2_with fail
            rw [← HX1.out]
            clear HX1 c0 c1 c2 c3 c4 f0 f1 f2 f3 f4
            have F5_1 := N1 _ _ (by omega) F5_0
            have F6_1 := N1 _ _ (by omega) F6_0
            have F7_1 := N1 _ _ (by omega) F7_0
            refine hK.out _ _ ?_ (fun hHeld => ?_)
            · exact HSx.out _ KX1
            clear hK K
            try simp only [Act.put, List.setIfInBounds_toArray, List.set_cons_zero, List.set_cons_succ]
            refine wpAnyH_ready (rs := [9]) (by kernel_rfl) (by simp) ?_
            refine AllReadyH.cons (o := Oper.mk none _ _ _ _ _) rfl (fun K hK => ?_) AllReadyH.nil
            obtain ⟨⟨c0, c1, c2, c3, c4⟩, ⟨f0, f1, f2, f3, f4⟩⟩ := zero_facts F5_1
            obtain ⟨X2, HX2, KX2, A5_2, N2⟩ := fill (a := a) (show w1.heap.size ≤ V1.heap.size by omega) KX1 F5_1
            go_simp
            go_wp2_with fail
            rw [← HX2.out]
            clear HX2 c0 c1 c2 c3 c4 f0 f1 f2 f3 f4
            have A4_2 := A5.mk (N2 _ _ (by omega) A4_1.blk)
            have F6_2 := N2 _ _ (by omega) F6_1
            have F7_2 := N2 _ _ (by omega) F7_1
            refine hK.out _ _ ?_ (fun hHeld => ?_)
            · exact HSx.out _ KX2
            clear hK K
            try simp only [Act.put, List.setIfInBounds_toArray, List.set_cons_zero, List.set_cons_succ]
            refine wpAnyH_ready (rs := [10]) (by kernel_rfl) (by simp) ?_
            refine AllReadyH.cons (o := Oper.mk none _ _ _ _ _) rfl (fun K hK => ?_) AllReadyH.nil
            obtain ⟨⟨c0, c1, c2, c3, c4⟩, ⟨f0, f1, f2, f3, f4⟩⟩ := zero_facts F6_2
            obtain ⟨X3, HX3, KX3, A6_3, N3⟩ := fill (a := a) (show w1.heap.size ≤ V0.heap.size by omega) KX2 F6_2
            go_simp
            go_wp2_with fail
            rw [← HX3.out]
            clear HX3 c0 c1 c2 c3 c4 f0 f1 f2 f3 f4
            have A4_3 := A5.mk (N3 _ _ (by omega) A4_2.blk)
            have A5_3 := A5.mk (N3 _ _ (by omega) A5_2.blk)
            have F7_3 := N3 _ _ (by omega) F7_2
            refine hK.out _ _ ?_ (fun hHeld => ?_)
            · exact HSx.out _ KX3
            clear hK K
            try simp only [Act.put, List.setIfInBounds_toArray, List.set_cons_zero, List.set_cons_succ]
            refine wpAnyH_ready (rs := [11]) (by kernel_rfl) (by simp) ?_
            refine AllReadyH.cons (o := Oper.mk none _ _ _ _ _) rfl (fun K hK => ?_) AllReadyH.nil
            obtain ⟨⟨c0, c1, c2, c3, c4⟩, ⟨f0, f1, f2, f3, f4⟩⟩ := zero_facts F7_3
            obtain ⟨X4, HX4, KX4, A7_4, N4⟩ := fill (a := a) (show w1.heap.size ≤ V3.heap.size by omega) KX3 F7_3
            go_simp
            go_wp2_with fail
            rw [← HX4.out]
            clear HX4 c0 c1 c2 c3 c4 f0 f1 f2 f3 f4
            have A4_4 := A5.mk (N4 _ _ (by omega) A4_3.blk)
            have A5_4 := A5.mk (N4 _ _ (by omega) A5_3.blk)
            have A6_4 := A5.mk (N4 _ _ (by omega) A6_3.blk)
            refine hK.out _ _ ?_ (fun hHeld => ?_)
            · exact HSx.out _ KX4
            clear hK K
            try simp only [Act.put, List.setIfInBounds_toArray, List.set_cons_zero, List.set_cons_succ]
            refine wpAnyH_done (by kernel_rfl) ?_ _
            refine NoPanic.normal ?_
            go_wp2
            go_meet
            exact ⟨V2.heap.size, V1.heap.size, V0.heap.size, V3.heap.size, rfl, rfl, rfl, rfl, KX4, ⟨by omega, by omega, by omega, by omega⟩, ⟨by omega, by omega, by omega, by omega, by omega, by omega⟩, A4_4, A5_4, A6_4, A7_4⟩
          · go_simp
            go_wp2_with fail
            obtain ⟨V3, HV3⟩ : ∃ V3, Hid (V3 = V2.alloc (.cells #[.int .i64 0, .int .i64 0, .int .i64 0, .int .i64 0, .int .i64 0] 28)) := ⟨_, rfl⟩
            have KS3 : Kp V2 V3 := by rw [HV3.out]; exact (Kp.refl _).alloc _
            have KV3 : Kp w1 V3 := KV2.trans KS3
            have E7_3 : V3.heap[V2.heap.size]? = some (.cells #[.int .i64 0, .int .i64 0, .int .i64 0, .int .i64 0, .int .i64 0] 28 (0, 0)) := by rw [HV3.out]; exact heap_alloc_at _ _
            have hq3 := lt_blk E7_3
            rw [← HV3.out]
            clear HV3
            have E6_3 := kp_block E6_2 KS3
            have E5_3 := kp_block E5_2 KS3
            clear E6_2 E5_2
            refine hK.out _ _ ?_ (fun hHeld => ?_)
            · exact HSx.out _ KV3
            clear hK K
            try simp only [Act.put, List.setIfInBounds_toArray, List.set_cons_zero, List.set_cons_succ]
            refine wpAnyH_ready (rs := [4]) (by kernel_rfl) (by simp) ?_
            refine AllReadyH.cons (o := Oper.mk (some 5) _ _ _ _ _) rfl (fun K hK => ?_) AllReadyH.nil
            go_simp
            go_wp2_with fail
            obtain ⟨V4, HV4⟩ : ∃ V4, Hid (V4 = V3.alloc (.cells #[.int .i64 0, .int .i64 0, .int .i64 0, .int .i64 0, .int .i64 0] 28)) := ⟨_, rfl⟩
            have KS4 : Kp V3 V4 := by rw [HV4.out]; exact (Kp.refl _).alloc _
            have KV4 : Kp w1 V4 := KV3.trans KS4
            have E4_4 : V4.heap[V3.heap.size]? = some (.cells #[.int .i64 0, .int .i64 0, .int .i64 0, .int .i64 0, .int .i64 0] 28 (0, 0)) := by rw [HV4.out]; exact heap_alloc_at _ _
            have hq4 := lt_blk E4_4
            rw [← HV4.out]
            clear HV4
            have E6_4 := kp_block E6_3 KS4
            have E5_4 := kp_block E5_3 KS4
            have E7_4 := kp_block E7_3 KS4
            clear E6_3 E5_3 E7_3
            refine hK.out _ _ ?_ (fun hHeld => ?_)
            · exact HSx.out _ KV4
            clear hK K
            try simp only [Act.put, List.setIfInBounds_toArray, List.set_cons_zero, List.set_cons_succ]
            obtain ⟨X0, HX0⟩ : ∃ X0, X0 = V4 := ⟨_, rfl⟩
            have KX0 : Kp w1 X0 := HX0 ▸ KV4
            have F4_0 := HX0 ▸ E4_4
            have F5_0 := HX0 ▸ E5_4
            have F6_0 := HX0 ▸ E6_4
            have F7_0 := HX0 ▸ E7_4
            rw [← HX0]
            clear HX0
            refine wpAnyH_ready (rs := [8]) (by kernel_rfl) (by simp) ?_
            refine AllReadyH.cons (o := Oper.mk none _ _ _ _ _) rfl (fun K hK => ?_) AllReadyH.nil
            obtain ⟨⟨c0, c1, c2, c3, c4⟩, ⟨f0, f1, f2, f3, f4⟩⟩ := zero_facts F4_0
            obtain ⟨X1, HX1, KX1, A4_1, N1⟩ := fill (a := a) (show w1.heap.size ≤ V3.heap.size by omega) KX0 F4_0
            go_simp
            go_wp2_with fail
            rw [← HX1.out]
            clear HX1 c0 c1 c2 c3 c4 f0 f1 f2 f3 f4
            have F5_1 := N1 _ _ (by omega) F5_0
            have F6_1 := N1 _ _ (by omega) F6_0
            have F7_1 := N1 _ _ (by omega) F7_0
            refine hK.out _ _ ?_ (fun hHeld => ?_)
            · exact HSx.out _ KX1
            clear hK K
            try simp only [Act.put, List.setIfInBounds_toArray, List.set_cons_zero, List.set_cons_succ]
            refine wpAnyH_ready (rs := [9]) (by kernel_rfl) (by simp) ?_
            refine AllReadyH.cons (o := Oper.mk none _ _ _ _ _) rfl (fun K hK => ?_) AllReadyH.nil
            obtain ⟨⟨c0, c1, c2, c3, c4⟩, ⟨f0, f1, f2, f3, f4⟩⟩ := zero_facts F5_1
            obtain ⟨X2, HX2, KX2, A5_2, N2⟩ := fill (a := a) (show w1.heap.size ≤ V1.heap.size by omega) KX1 F5_1
            go_simp
            go_wp2_with fail
            rw [← HX2.out]
            clear HX2 c0 c1 c2 c3 c4 f0 f1 f2 f3 f4
            have A4_2 := A5.mk (N2 _ _ (by omega) A4_1.blk)
            have F6_2 := N2 _ _ (by omega) F6_1
            have F7_2 := N2 _ _ (by omega) F7_1
            refine hK.out _ _ ?_ (fun hHeld => ?_)
            · exact HSx.out _ KX2
            clear hK K
            try simp only [Act.put, List.setIfInBounds_toArray, List.set_cons_zero, List.set_cons_succ]
            refine wpAnyH_ready (rs := [10]) (by kernel_rfl) (by simp) ?_
            refine AllReadyH.cons (o := Oper.mk none _ _ _ _ _) rfl (fun K hK => ?_) AllReadyH.nil
            obtain ⟨⟨c0, c1, c2, c3, c4⟩, ⟨f0, f1, f2, f3, f4⟩⟩ := zero_facts F6_2
            obtain ⟨X3, HX3, KX3, A6_3, N3⟩ := fill (a := a) (show w1.heap.size ≤ V0.heap.size by omega) KX2 F6_2
            go_simp
            go_wp2_with fail
            rw [← HX3.out]
            clear HX3 c0 c1 c2 c3 c4 f0 f1 f2 f3 f4
            have A4_3 := A5.mk (N3 _ _ (by omega) A4_2.blk)
            have A5_3 := A5.mk (N3 _ _ (by omega) A5_2.blk)
            have F7_3 := N3 _ _ (by omega) F7_2
            refine hK.out _ _ ?_ (fun hHeld => ?_)
            · exact HSx.out _ KX3
            clear hK K
            try simp only [Act.put, List.setIfInBounds_toArray, List.set_cons_zero, List.set_cons_succ]
            refine wpAnyH_ready (rs := [11]) (by kernel_rfl) (by simp) ?_
            refine AllReadyH.cons (o := Oper.mk none _ _ _ _ _) rfl (fun K hK => ?_) AllReadyH.nil
            obtain ⟨⟨c0, c1, c2, c3, c4⟩, ⟨f0, f1, f2, f3, f4⟩⟩ := zero_facts F7_3
            obtain ⟨X4, HX4, KX4, A7_4, N4⟩ := fill (a := a) (show w1.heap.size ≤ V2.heap.size by omega) KX3 F7_3
            go_simp
            go_wp2_with fail
            rw [← HX4.out]
            clear HX4 c0 c1 c2 c3 c4 f0 f1 f2 f3 f4
            have A4_4 := A5.mk (N4 _ _ (by omega) A4_3.blk)
            have A5_4 := A5.mk (N4 _ _ (by omega) A5_3.blk)
            have A6_4 := A5.mk (N4 _ _ (by omega) A6_3.blk)
            refine hK.out _ _ ?_ (fun hHeld => ?_)
            · exact HSx.out _ KX4
            clear hK K
            try simp only [Act.put, List.setIfInBounds_toArray, List.set_cons_zero, List.set_cons_succ]
            refine wpAnyH_done (by kernel_rfl) ?_ _
            refine NoPanic.normal ?_
            go_wp2
            go_meet
            exact ⟨V3.heap.size, V1.heap.size, V0.heap.size, V2.heap.size, rfl, rfl, rfl, rfl, KX4, ⟨by omega, by omega, by omega, by omega⟩, ⟨by omega, by omega, by omega, by omega, by omega, by omega⟩, A4_4, A5_4, A6_4, A7_4⟩
        · go_simp
          go_wp2_with fail
          obtain ⟨V2, HV2⟩ : ∃ V2, Hid (V2 = V1.alloc (.cells #[.int .i64 0, .int .i64 0, .int .i64 0, .int .i64 0, .int .i64 0] 28)) := ⟨_, rfl⟩
          have KS2 : Kp V1 V2 := by rw [HV2.out]; exact (Kp.refl _).alloc _
          have KV2 : Kp w1 V2 := KV1.trans KS2
          have E7_2 : V2.heap[V1.heap.size]? = some (.cells #[.int .i64 0, .int .i64 0, .int .i64 0, .int .i64 0, .int .i64 0] 28 (0, 0)) := by rw [HV2.out]; exact heap_alloc_at _ _
          have hq2 := lt_blk E7_2
          rw [← HV2.out]
          clear HV2
          have E6_2 := kp_block E6_1 KS2
          clear E6_1
          refine hK.out _ _ ?_ (fun hHeld => ?_)
          · exact HSx.out _ KV2
          clear hK K
          try simp only [Act.put, List.setIfInBounds_toArray, List.set_cons_zero, List.set_cons_succ]
          refine wpAnyH_ready (rs := [4, 5]) (by kernel_rfl) (by simp) ?_
          refine AllReadyH.cons (o := Oper.mk (some 5) _ _ _ _ _) rfl (fun K hK => ?_) (AllReadyH.cons (o := Oper.mk (some 6) _ _ _ _ _) rfl (fun K hK => ?_) AllReadyH.nil)
          · go_simp
            go_wp2_with fail
            obtain ⟨V3, HV3⟩ : ∃ V3, Hid (V3 = V2.alloc (.cells #[.int .i64 0, .int .i64 0, .int .i64 0, .int .i64 0, .int .i64 0] 28)) := ⟨_, rfl⟩
            have KS3 : Kp V2 V3 := by rw [HV3.out]; exact (Kp.refl _).alloc _
            have KV3 : Kp w1 V3 := KV2.trans KS3
            have E4_3 : V3.heap[V2.heap.size]? = some (.cells #[.int .i64 0, .int .i64 0, .int .i64 0, .int .i64 0, .int .i64 0] 28 (0, 0)) := by rw [HV3.out]; exact heap_alloc_at _ _
            have hq3 := lt_blk E4_3
            rw [← HV3.out]
            clear HV3
            have E6_3 := kp_block E6_2 KS3
            have E7_3 := kp_block E7_2 KS3
            clear E6_2 E7_2
            refine hK.out _ _ ?_ (fun hHeld => ?_)
            · exact HSx.out _ KV3
            clear hK K
            try simp only [Act.put, List.setIfInBounds_toArray, List.set_cons_zero, List.set_cons_succ]
            refine wpAnyH_ready (rs := [5]) (by kernel_rfl) (by simp) ?_
            refine AllReadyH.cons (o := Oper.mk (some 6) _ _ _ _ _) rfl (fun K hK => ?_) AllReadyH.nil
            go_simp
            go_wp2_with fail
            obtain ⟨V4, HV4⟩ : ∃ V4, Hid (V4 = V3.alloc (.cells #[.int .i64 0, .int .i64 0, .int .i64 0, .int .i64 0, .int .i64 0] 28)) := ⟨_, rfl⟩
            have KS4 : Kp V3 V4 := by rw [HV4.out]; exact (Kp.refl _).alloc _
            have KV4 : Kp w1 V4 := KV3.trans KS4
            have E5_4 : V4.heap[V3.heap.size]? = some (.cells #[.int .i64 0, .int .i64 0, .int .i64 0, .int .i64 0, .int .i64 0] 28 (0, 0)) := by rw [HV4.out]; exact heap_alloc_at _ _
            have hq4 := lt_blk E5_4
            rw [← HV4.out]
            clear HV4
            have E6_4 := kp_block E6_3 KS4
            have E7_4 := kp_block E7_3 KS4
            have E4_4 := kp_block E4_3 KS4
            clear E6_3 E7_3 E4_3
            refine hK.out _ _ ?_ (fun hHeld => ?_)
            · exact HSx.out _ KV4
            clear hK K
            try simp only [Act.put, List.setIfInBounds_toArray, List.set_cons_zero, List.set_cons_succ]
            obtain ⟨X0, HX0⟩ : ∃ X0, X0 = V4 := ⟨_, rfl⟩
            have KX0 : Kp w1 X0 := HX0 ▸ KV4
            have F4_0 := HX0 ▸ E4_4
            have F5_0 := HX0 ▸ E5_4
            have F6_0 := HX0 ▸ E6_4
            have F7_0 := HX0 ▸ E7_4
            rw [← HX0]
            clear HX0
            refine wpAnyH_ready (rs := [8]) (by kernel_rfl) (by simp) ?_
            refine AllReadyH.cons (o := Oper.mk none _ _ _ _ _) rfl (fun K hK => ?_) AllReadyH.nil
            obtain ⟨⟨c0, c1, c2, c3, c4⟩, ⟨f0, f1, f2, f3, f4⟩⟩ := zero_facts F4_0
            obtain ⟨X1, HX1, KX1, A4_1, N1⟩ := fill (a := a) (show w1.heap.size ≤ V2.heap.size by omega) KX0 F4_0
            go_simp
            go_wp2_with fail
            rw [← HX1.out]
            clear HX1 c0 c1 c2 c3 c4 f0 f1 f2 f3 f4
            have F5_1 := N1 _ _ (by omega) F5_0
            have F6_1 := N1 _ _ (by omega) F6_0
            have F7_1 := N1 _ _ (by omega) F7_0
            refine hK.out _ _ ?_ (fun hHeld => ?_)
            · exact HSx.out _ KX1
            clear hK K
            try simp only [Act.put, List.setIfInBounds_toArray, List.set_cons_zero, List.set_cons_succ]
            refine wpAnyH_ready (rs := [9]) (by kernel_rfl) (by simp) ?_
            refine AllReadyH.cons (o := Oper.mk none _ _ _ _ _) rfl (fun K hK => ?_) AllReadyH.nil
            obtain ⟨⟨c0, c1, c2, c3, c4⟩, ⟨f0, f1, f2, f3, f4⟩⟩ := zero_facts F5_1
            obtain ⟨X2, HX2, KX2, A5_2, N2⟩ := fill (a := a) (show w1.heap.size ≤ V3.heap.size by omega) KX1 F5_1
            go_simp
            go_wp2_with fail
            rw [← HX2.out]
            clear HX2 c0 c1 c2 c3 c4 f0 f1 f2 f3 f4
            have A4_2 := A5.mk (N2 _ _ (by omega) A4_1.blk)
            have F6_2 := N2 _ _ (by omega) F6_1
            have F7_2 := N2 _ _ (by omega) F7_1
            refine hK.out _ _ ?_ (fun hHeld => ?_)
            · exact HSx.out _ KX2
            clear hK K
            try simp only [Act.put, List.setIfInBounds_toArray, List.set_cons_zero, List.set_cons_succ]
            refine wpAnyH_ready (rs := [10]) (by kernel_rfl) (by simp) ?_
            refine AllReadyH.cons (o := Oper.mk none _ _ _ _ _) rfl (fun K hK => ?_) AllReadyH.nil
            obtain ⟨⟨c0, c1, c2, c3, c4⟩, ⟨f0, f1, f2, f3, f4⟩⟩ := zero_facts F6_2
            obtain ⟨X3, HX3, KX3, A6_3, N3⟩ := fill (a := a) (show w1.heap.size ≤ V0.heap.size by omega) KX2 F6_2
            go_simp
            go_wp2_with fail
            rw [← HX3.out]
            clear HX3 c0 c1 c2 c3 c4 f0 f1 f2 f3 f4
            have A4_3 := A5.mk (N3 _ _ (by omega) A4_2.blk)
            have A5_3 := A5.mk (N3 _ _ (by omega) A5_2.blk)
            have F7_3 := N3 _ _ (by omega) F7_2
            refine hK.out _ _ ?_ (fun hHeld => ?_)
            · exact HSx.out _ KX3
            clear hK K
            try simp only [Act.put, List.setIfInBounds_toArray, List.set_cons_zero, List.set_cons_succ]
            refine wpAnyH_ready (rs := [11]) (by kernel_rfl) (by simp) ?_
            refine AllReadyH.cons (o := Oper.mk none _ _ _ _ _) rfl (fun K hK => ?_) AllReadyH.nil
            obtain ⟨⟨c0, c1, c2, c3, c4⟩, ⟨f0, f1, f2, f3, f4⟩⟩ := zero_facts F7_3
            obtain ⟨X4, HX4, KX4, A7_4, N4⟩ := fill (a := a) (show w1.heap.size ≤ V1.heap.size by omega) KX3 F7_3
            go_simp
            go_wp2_with fail
            rw [← HX4.out]
            clear HX4 c0 c1 c2 c3 c4 f0 f1 f2 f3 f4
            have A4_4 := A5.mk (N4 _ _ (by omega) A4_3.blk)
            have A5_4 := A5.mk (N4 _ _ (by omega) A5_3.blk)
            have A6_4 := A5.mk (N4 _ _ (by omega) A6_3.blk)
            refine hK.out _ _ ?_ (fun hHeld => ?_)
            · exact HSx.out _ KX4
            clear hK K
            try simp only [Act.put, List.setIfInBounds_toArray, List.set_cons_zero, List.set_cons_succ]
            refine wpAnyH_done (by kernel_rfl) ?_ _
            refine NoPanic.normal ?_
            go_wp2
            go_meet
            exact ⟨V2.heap.size, V3.heap.size, V0.heap.size, V1.heap.size, rfl, rfl, rfl, rfl, KX4, ⟨by omega, by omega, by omega, by omega⟩, ⟨by omega, by omega, by omega, by omega, by omega, by omega⟩, A4_4, A5_4, A6_4, A7_4⟩
          · go_simp
            go_wp2_with fail
            obtain ⟨V3, HV3⟩ : ∃ V3, Hid (V3 = V2.alloc (.cells #[.int .i64 0, .int .i64 0, .int .i64 0, .int .i64 0, .int .i64 0] 28)) := ⟨_, rfl⟩
            have KS3 : Kp V2 V3 := by rw [HV3.out]; exact (Kp.refl _).alloc _
            have KV3 : Kp w1 V3 := KV2.trans KS3
            have E5_3 : V3.heap[V2.heap.size]? = some (.cells #[.int .i64 0, .int .i64 0, .int .i64 0, .int .i64 0, .int .i64 0] 28 (0, 0)) := by rw [HV3.out]; exact heap_alloc_at _ _
            have hq3 := lt_blk E5_3
            rw [← HV3.out]
            clear HV3
            have E6_3 := kp_block E6_2 KS3
            have E7_3 := kp_block E7_2 KS3
            clear E6_2 E7_2
            refine hK.out _ _ ?_ (fun hHeld => ?_)
            · exact HSx.out _ KV3
            clear hK K
            try simp only [Act.put, List.setIfInBounds_toArray, List.set_cons_zero, List.set_cons_succ]
            refine wpAnyH_ready (rs := [4]) (by kernel_rfl) (by simp) ?_
            refine AllReadyH.cons (o := Oper.mk (some 5) _ _ _ _ _) rfl (fun K hK => ?_) AllReadyH.nil
            go_simp
            go_wp2_with fail
            obtain ⟨V4, HV4⟩ : ∃ V4, Hid (V4 = V3.alloc (.cells #[.int .i64 0, .int .i64 0, .int .i64 0, .int .i64 0, .int .i64 0] 28)) := ⟨_, rfl⟩
            have KS4 : Kp V3 V4 := by rw [HV4.out]; exact (Kp.refl _).alloc _
            have KV4 : Kp w1 V4 := KV3.trans KS4
            have E4_4 : V4.heap[V3.heap.size]? = some (.cells #[.int .i64 0, .int .i64 0, .int .i64 0, .int .i64 0, .int .i64 0] 28 (0, 0)) := by rw [HV4.out]; exact heap_alloc_at _ _
            have hq4 := lt_blk E4_4
            rw [← HV4.out]
            clear HV4
            have E6_4 := kp_block E6_3 KS4
            have E7_4 := kp_block E7_3 KS4
            have E5_4 := kp_block E5_3 KS4
            clear E6_3 E7_3 E5_3
            refine hK.out _ _ ?_ (fun hHeld => ?_)
            · exact HSx.out _ KV4
            clear hK K
            try simp only [Act.put, List.setIfInBounds_toArray, List.set_cons_zero, List.set_cons_succ]
            obtain ⟨X0, HX0⟩ : ∃ X0, X0 = V4 := ⟨_, rfl⟩
            have KX0 : Kp w1 X0 := HX0 ▸ KV4
            have F4_0 := HX0 ▸ E4_4
            have F5_0 := HX0 ▸ E5_4
            have F6_0 := HX0 ▸ E6_4
            have F7_0 := HX0 ▸ E7_4
            rw [← HX0]
            clear HX0
            refine wpAnyH_ready (rs := [8]) (by kernel_rfl) (by simp) ?_
            refine AllReadyH.cons (o := Oper.mk none _ _ _ _ _) rfl (fun K hK => ?_) AllReadyH.nil
            obtain ⟨⟨c0, c1, c2, c3, c4⟩, ⟨f0, f1, f2, f3, f4⟩⟩ := zero_facts F4_0
            obtain ⟨X1, HX1, KX1, A4_1, N1⟩ := fill (a := a) (show w1.heap.size ≤ V3.heap.size by omega) KX0 F4_0
            go_simp
            go_wp2_with fail
            rw [← HX1.out]
            clear HX1 c0 c1 c2 c3 c4 f0 f1 f2 f3 f4
            have F5_1 := N1 _ _ (by omega) F5_0
            have F6_1 := N1 _ _ (by omega) F6_0
            have F7_1 := N1 _ _ (by omega) F7_0
            refine hK.out _ _ ?_ (fun hHeld => ?_)
            · exact HSx.out _ KX1
            clear hK K
            try simp only [Act.put, List.setIfInBounds_toArray, List.set_cons_zero, List.set_cons_succ]
            refine wpAnyH_ready (rs := [9]) (by kernel_rfl) (by simp) ?_
            refine AllReadyH.cons (o := Oper.mk none _ _ _ _ _) rfl (fun K hK => ?_) AllReadyH.nil
            obtain ⟨⟨c0, c1, c2, c3, c4⟩, ⟨f0, f1, f2, f3, f4⟩⟩ := zero_facts F5_1
            obtain ⟨X2, HX2, KX2, A5_2, N2⟩ := fill (a := a) (show w1.heap.size ≤ V2.heap.size by omega) KX1 F5_1
            go_simp
            go_wp2_with fail
            rw [← HX2.out]
            clear HX2 c0 c1 c2 c3 c4 f0 f1 f2 f3 f4
            have A4_2 := A5.mk (N2 _ _ (by omega) A4_1.blk)
            have F6_2 := N2 _ _ (by omega) F6_1
            have F7_2 := N2 _ _ (by omega) F7_1
            refine hK.out _ _ ?_ (fun hHeld => ?_)
            · exact HSx.out _ KX2
            clear hK K
            try simp only [Act.put, List.setIfInBounds_toArray, List.set_cons_zero, List.set_cons_succ]
            refine wpAnyH_ready (rs := [10]) (by kernel_rfl) (by simp) ?_
            refine AllReadyH.cons (o := Oper.mk none _ _ _ _ _) rfl (fun K hK => ?_) AllReadyH.nil
            obtain ⟨⟨c0, c1, c2, c3, c4⟩, ⟨f0, f1, f2, f3, f4⟩⟩ := zero_facts F6_2
            obtain ⟨X3, HX3, KX3, A6_3, N3⟩ := fill (a := a) (show w1.heap.size ≤ V0.heap.size by omega) KX2 F6_2
            go_simp
            go_wp2_with fail
            rw [← HX3.out]
            clear HX3 c0 c1 c2 c3 c4 f0 f1 f2 f3 f4
            have A4_3 := A5.mk (N3 _ _ (by omega) A4_2.blk)
            have A5_3 := A5.mk (N3 _ _ (by omega) A5_2.blk)
            have F7_3 := N3 _ _ (by omega) F7_2
            refine hK.out _ _ ?_ (fun hHeld => ?_)
            · exact HSx.out _ KX3
            clear hK K
            try simp only [Act.put, List.setIfInBounds_toArray, List.set_cons_zero, List.set_cons_succ]
            refine wpAnyH_ready (rs := [11]) (by kernel_rfl) (by simp) ?_
            refine AllReadyH.cons (o := Oper.mk none _ _ _ _ _) rfl (fun K hK => ?_) AllReadyH.nil
            obtain ⟨⟨c0, c1, c2, c3, c4⟩, ⟨f0, f1, f2, f3, f4⟩⟩ := zero_facts F7_3
            obtain ⟨X4, HX4, KX4, A7_4, N4⟩ := fill (a := a) (show w1.heap.size ≤ V1.heap.size by omega) KX3 F7_3
            go_simp
            go_wp2_with fail
            rw [← HX4.out]
            clear HX4 c0 c1 c2 c3 c4 f0 f1 f2 f3 f4
            have A4_4 := A5.mk (N4 _ _ (by omega) A4_3.blk)
            have A5_4 := A5.mk (N4 _ _ (by omega) A5_3.blk)
            have A6_4 := A5.mk (N4 _ _ (by omega) A6_3.blk)
            refine hK.out _ _ ?_ (fun hHeld => ?_)
            · exact HSx.out _ KX4
            clear hK K
            try simp only [Act.put, List.setIfInBounds_toArray, List.set_cons_zero, List.set_cons_succ]
            refine wpAnyH_done (by kernel_rfl) ?_ _
            refine NoPanic.normal ?_
            go_wp2
            go_meet
            exact ⟨V3.heap.size, V2.heap.size, V0.heap.size, V1.heap.size, rfl, rfl, rfl, rfl, KX4, ⟨by omega, by omega, by omega, by omega⟩, ⟨by omega, by omega, by omega, by omega, by omega, by omega⟩, A4_4, A5_4, A6_4, A7_4⟩
      · go_simp
        go_wp2_with fail
        obtain ⟨V1, HV1⟩ : ∃ V1, Hid (V1 = V0.alloc (.cells #[.int .i64 0, .int .i64 0, .int .i64 0, .int .i64 0, .int .i64 0] 28)) := ⟨_, rfl⟩
        have KS1 : Kp V0 V1 := by rw [HV1.out]; exact (Kp.refl _).alloc _
        have KV1 : Kp w1 V1 := KV0.trans KS1
        have E7_1 : V1.heap[V0.heap.size]? = some (.cells #[.int .i64 0, .int .i64 0, .int .i64 0, .int .i64 0, .int .i64 0] 28 (0, 0)) := by rw [HV1.out]; exact heap_alloc_at _ _
        have hq1 := lt_blk E7_1
        rw [← HV1.out]
        clear HV1
        refine hK.out _ _ ?_ (fun hHeld => ?_)
        · exact HSx.out _ KV1
        clear hK K
        try simp only [Act.put, List.setIfInBounds_toArray, List.set_cons_zero, List.set_cons_succ]
        refine wpAnyH_ready (rs := [4, 5, 6]) (by kernel_rfl) (by simp) ?_
        refine AllReadyH.cons (o := Oper.mk (some 5) _ _ _ _ _) rfl (fun K hK => ?_) (AllReadyH.cons (o := Oper.mk (some 6) _ _ _ _ _) rfl (fun K hK => ?_) (AllReadyH.cons (o := Oper.mk (some 7) _ _ _ _ _) rfl (fun K hK => ?_) AllReadyH.nil))
        · go_simp
          go_wp2_with fail
          obtain ⟨V2, HV2⟩ : ∃ V2, Hid (V2 = V1.alloc (.cells #[.int .i64 0, .int .i64 0, .int .i64 0, .int .i64 0, .int .i64 0] 28)) := ⟨_, rfl⟩
          have KS2 : Kp V1 V2 := by rw [HV2.out]; exact (Kp.refl _).alloc _
          have KV2 : Kp w1 V2 := KV1.trans KS2
          have E4_2 : V2.heap[V1.heap.size]? = some (.cells #[.int .i64 0, .int .i64 0, .int .i64 0, .int .i64 0, .int .i64 0] 28 (0, 0)) := by rw [HV2.out]; exact heap_alloc_at _ _
          have hq2 := lt_blk E4_2
          rw [← HV2.out]
          clear HV2
          have E7_2 := kp_block E7_1 KS2
          clear E7_1
          refine hK.out _ _ ?_ (fun hHeld => ?_)
          · exact HSx.out _ KV2
          clear hK K
          try simp only [Act.put, List.setIfInBounds_toArray, List.set_cons_zero, List.set_cons_succ]
          refine wpAnyH_ready (rs := [5, 6]) (by kernel_rfl) (by simp) ?_
          refine AllReadyH.cons (o := Oper.mk (some 6) _ _ _ _ _) rfl (fun K hK => ?_) (AllReadyH.cons (o := Oper.mk (some 7) _ _ _ _ _) rfl (fun K hK => ?_) AllReadyH.nil)
          · go_simp
            go_wp2_with fail
            obtain ⟨V3, HV3⟩ : ∃ V3, Hid (V3 = V2.alloc (.cells #[.int .i64 0, .int .i64 0, .int .i64 0, .int .i64 0, .int .i64 0] 28)) := ⟨_, rfl⟩
            have KS3 : Kp V2 V3 := by rw [HV3.out]; exact (Kp.refl _).alloc _
            have KV3 : Kp w1 V3 := KV2.trans KS3
            have E5_3 : V3.heap[V2.heap.size]? = some (.cells #[.int .i64 0, .int .i64 0, .int .i64 0, .int .i64 0, .int .i64 0] 28 (0, 0)) := by rw [HV3.out]; exact heap_alloc_at _ _
            have hq3 := lt_blk E5_3
            rw [← HV3.out]
            clear HV3
            have E7_3 := kp_block E7_2 KS3
            have E4_3 := kp_block E4_2 KS3
            clear E7_2 E4_2
            refine hK.out _ _ ?_ (fun hHeld => ?_)
            · exact HSx.out _ KV3
            clear hK K
            try simp only [Act.put, List.setIfInBounds_toArray, List.set_cons_zero, List.set_cons_succ]
            refine wpAnyH_ready (rs := [6]) (by kernel_rfl) (by simp) ?_
            refine AllReadyH.cons (o := Oper.mk (some 7) _ _ _ _ _) rfl (fun K hK => ?_) AllReadyH.nil
            go_simp
            go_wp2_with fail
            obtain ⟨V4, HV4⟩ : ∃ V4, Hid (V4 = V3.alloc (.cells #[.int .i64 0, .int .i64 0, .int .i64 0, .int .i64 0, .int .i64 0] 28)) := ⟨_, rfl⟩
            have KS4 : Kp V3 V4 := by rw [HV4.out]; exact (Kp.refl _).alloc _
            have KV4 : Kp w1 V4 := KV3.trans KS4
            have E6_4 : V4.heap[V3.heap.size]? = some (.cells #[.int .i64 0, .int .i64 0, .int .i64 0, .int .i64 0, .int .i64 0] 28 (0, 0)) := by rw [HV4.out]; exact heap_alloc_at _ _
            have hq4 := lt_blk E6_4
            rw [← HV4.out]
            clear HV4
            have E7_4 := kp_block E7_3 KS4
            have E4_4 := kp_block E4_3 KS4
            have E5_4 := kp_block E5_3 KS4
            clear E7_3 E4_3 E5_3
            refine hK.out _ _ ?_ (fun hHeld => ?_)
            · exact HSx.out _ KV4
            clear hK K
            try simp only [Act.put, List.setIfInBounds_toArray, List.set_cons_zero, List.set_cons_succ]
            obtain ⟨X0, HX0⟩ : ∃ X0, X0 = V4 := ⟨_, rfl⟩
            have KX0 : Kp w1 X0 := HX0 ▸ KV4
            have F4_0 := HX0 ▸ E4_4
            have F5_0 := HX0 ▸ E5_4
            have F6_0 := HX0 ▸ E6_4
            have F7_0 := HX0 ▸ E7_4
            rw [← HX0]
            clear HX0
            refine wpAnyH_ready (rs := [8]) (by kernel_rfl) (by simp) ?_
            refine AllReadyH.cons (o := Oper.mk none _ _ _ _ _) rfl (fun K hK => ?_) AllReadyH.nil
            obtain ⟨⟨c0, c1, c2, c3, c4⟩, ⟨f0, f1, f2, f3, f4⟩⟩ := zero_facts F4_0
            obtain ⟨X1, HX1, KX1, A4_1, N1⟩ := fill (a := a) (show w1.heap.size ≤ V1.heap.size by omega) KX0 F4_0
            go_simp
            go_wp2_with fail
            rw [← HX1.out]
            clear HX1 c0 c1 c2 c3 c4 f0 f1 f2 f3 f4
            have F5_1 := N1 _ _ (by omega) F5_0
            have F6_1 := N1 _ _ (by omega) F6_0
            have F7_1 := N1 _ _ (by omega) F7_0
            refine hK.out _ _ ?_ (fun hHeld => ?_)
            · exact HSx.out _ KX1
            clear hK K
            try simp only [Act.put, List.setIfInBounds_toArray, List.set_cons_zero, List.set_cons_succ]
            refine wpAnyH_ready (rs := [9]) (by kernel_rfl) (by simp) ?_
            refine AllReadyH.cons (o := Oper.mk none _ _ _ _ _) rfl (fun K hK => ?_) AllReadyH.nil
            obtain ⟨⟨c0, c1, c2, c3, c4⟩, ⟨f0, f1, f2, f3, f4⟩⟩ := zero_facts F5_1
            obtain ⟨X2, HX2, KX2, A5_2, N2⟩ := fill (a := a) (show w1.heap.size ≤ V2.heap.size by omega) KX1 F5_1
            go_simp
            go_wp2_with fail
            rw [← HX2.out]
            clear HX2 c0 c1 c2 c3 c4 f0 f1 f2 f3 f4
            have A4_2 := A5.mk (N2 _ _ (by omega) A4_1.blk)
            have F6_2 := N2 _ _ (by omega) F6_1
            have F7_2 := N2 _ _ (by omega) F7_1
            refine hK.out _ _ ?_ (fun hHeld => ?_)
            · exact HSx.out _ KX2
            clear hK K
            try simp only [Act.put, List.setIfInBounds_toArray, List.set_cons_zero, List.set_cons_succ]
            refine wpAnyH_ready (rs := [10]) (by kernel_rfl) (by simp) ?_
            refine AllReadyH.cons (o := Oper.mk none _ _ _ _ _) rfl (fun K hK => ?_) AllReadyH.nil
            obtain ⟨⟨c0, c1, c2, c3, c4⟩, ⟨f0, f1, f2, f3, f4⟩⟩ := zero_facts F6_2
            obtain ⟨X3, HX3, KX3, A6_3, N3⟩ := fill (a := a) (show w1.heap.size ≤ V3.heap.size by omega) KX2 F6_2
            go_simp
            go_wp2_with fail
            rw [← HX3.out]
            clear HX3 c0 c1 c2 c3 c4 f0 f1 f2 f3 f4
            have A4_3 := A5.mk (N3 _ _ (by omega) A4_2.blk)
            have A5_3 := A5.mk (N3 _ _ (by omega) A5_2.blk)
            have F7_3 := N3 _ _ (by omega) F7_2
            refine hK.out _ _ ?_ (fun hHeld => ?_)
            · exact HSx.out _ KX3
            clear hK K
            try simp only [Act.put, List.setIfInBounds_toArray, List.set_cons_zero, List.set_cons_succ]
            refine wpAnyH_ready (rs := [11]) (by kernel_rfl) (by simp) ?_
            refine AllReadyH.cons (o := Oper.mk none _ _ _ _ _) rfl (fun K hK => ?_) AllReadyH.nil
            obtain ⟨⟨c0, c1, c2, c3, c4⟩, ⟨f0, f1, f2, f3, f4⟩⟩ := zero_facts F7_3
            obtain ⟨X4, HX4, KX4, A7_4, N4⟩ := fill (a := a) (show w1.heap.size ≤ V0.heap.size by omega) KX3 F7_3
            go_simp
            go_wp2_with fail
            rw [← HX4.out]
            clear HX4 c0 c1 c2 c3 c4 f0 f1 f2 f3 f4
            have A4_4 := A5.mk (N4 _ _ (by omega) A4_3.blk)
            have A5_4 := A5.mk (N4 _ _ (by omega) A5_3.blk)
            have A6_4 := A5.mk (N4 _ _ (by omega) A6_3.blk)
            refine hK.out _ _ ?_ (fun hHeld => ?_)
            · exact HSx.out _ KX4
            clear hK K
            try simp only [Act.put, List.setIfInBounds_toArray, List.set_cons_zero, List.set_cons_succ]
            refine wpAnyH_done (by kernel_rfl) ?_ _
            refine NoPanic.normal ?_
            go_wp2
            go_meet
            exact ⟨V1.heap.size, V2.heap.size, V3.heap.size, V0.heap.size, rfl, rfl, rfl, rfl, KX4, ⟨by omega, by omega, by omega, by omega⟩, ⟨by omega, by omega, by omega, by omega, by omega, by omega⟩, A4_4, A5_4, A6_4, A7_4⟩
          · go_simp
            go_wp2_with fail
            obtain ⟨V3, HV3⟩ : ∃ V3, Hid (V3 = V2.alloc (.cells #[.int .i64 0, .int .i64 0, .int .i64 0, .int .i64 0, .int .i64 0] 28)) := ⟨_, rfl⟩
            have KS3 : Kp V2 V3 := by rw [HV3.out]; exact (Kp.refl _).alloc _
            have KV3 : Kp w1 V3 := KV2.trans KS3
            have E6_3 : V3.heap[V2.heap.size]? = some (.cells #[.int .i64 0, .int .i64 0, .int .i64 0, .int .i64 0, .int .i64 0] 28 (0, 0)) := by rw [HV3.out]; exact heap_alloc_at _ _
            have hq3 := lt_blk E6_3
            rw [← HV3.out]
            clear HV3
            have E7_3 := kp_block E7_2 KS3
            have E4_3 := kp_block E4_2 KS3
            clear E7_2 E4_2
            refine hK.out _ _ ?_ (fun hHeld => ?_)
            · exact HSx.out _ KV3
            clear hK K
            try simp only [Act.put, List.setIfInBounds_toArray, List.set_cons_zero, List.set_cons_succ]
            refine wpAnyH_ready (rs := [5]) (by kernel_rfl) (by simp) ?_
            refine AllReadyH.cons (o := Oper.mk (some 6) _ _ _ _ _) rfl (fun K hK => ?_) AllReadyH.nil
            go_simp
            go_wp2_with fail
            obtain ⟨V4, HV4⟩ : ∃ V4, Hid (V4 = V3.alloc (.cells #[.int .i64 0, .int .i64 0, .int .i64 0, .int .i64 0, .int .i64 0] 28)) := ⟨_, rfl⟩
            have KS4 : Kp V3 V4 := by rw [HV4.out]; exact (Kp.refl _).alloc _
            have KV4 : Kp w1 V4 := KV3.trans KS4
            have E5_4 : V4.heap[V3.heap.size]? = some (.cells #[.int .i64 0, .int .i64 0, .int .i64 0, .int .i64 0, .int .i64 0] 28 (0, 0)) := by rw [HV4.out]; exact heap_alloc_at _ _
            have hq4 := lt_blk E5_4
            rw [← HV4.out]
            clear HV4
            have E7_4 := kp_block E7_3 KS4
            have E4_4 := kp_block E4_3 KS4
            have E6_4 := kp_block E6_3 KS4
            clear E7_3 E4_3 E6_3
            refine hK.out _ _ ?_ (fun hHeld => ?_)
            · exact HSx.out _ KV4
            clear hK K
            try simp only [Act.put, List.setIfInBounds_toArray, List.set_cons_zero, List.set_cons_succ]
            obtain ⟨X0, HX0⟩ : ∃ X0, X0 = V4 := ⟨_, rfl⟩
            have KX0 : Kp w1 X0 := HX0 ▸ KV4
            have F4_0 := HX0 ▸ E4_4
            have F5_0 := HX0 ▸ E5_4
            have F6_0 := HX0 ▸ E6_4
            have F7_0 := HX0 ▸ E7_4
            rw [← HX0]
            clear HX0
            refine wpAnyH_ready (rs := [8]) (by kernel_rfl) (by simp) ?_
            refine AllReadyH.cons (o := Oper.mk none _ _ _ _ _) rfl (fun K hK => ?_) AllReadyH.nil
            obtain ⟨⟨c0, c1, c2, c3, c4⟩, ⟨f0, f1, f2, f3, f4⟩⟩ := zero_facts F4_0
            obtain ⟨X1, HX1, KX1, A4_1, N1⟩ := fill (a := a) (show w1.heap.size ≤ V1.heap.size by omega) KX0 F4_0
            go_simp
            go_wp2_with fail
            rw [← HX1.out]
            clear HX1 c0 c1 c2 c3 c4 f0 f1 f2 f3 f4
            have F5_1 := N1 _ _ (by omega) F5_0
            have F6_1 := N1 _ _ (by omega) F6_0
            have F7_1 := N1 _ _ (by omega) F7_0
            refine hK.out _ _ ?_ (fun hHeld => ?_)
            · exact HSx.out _ KX1
            clear hK K
            try simp only [Act.put, List.setIfInBounds_toArray, List.set_cons_zero, List.set_cons_succ]
            refine wpAnyH_ready (rs := [9]) (by kernel_rfl) (by simp) ?_
            refine AllReadyH.cons (o := Oper.mk none _ _ _ _ _) rfl (fun K hK => ?_) AllReadyH.nil
            obtain ⟨⟨c0, c1, c2, c3, c4⟩, ⟨f0, f1, f2, f3, f4⟩⟩ := zero_facts F5_1
            obtain ⟨X2, HX2, KX2, A5_2, N2⟩ := fill (a := a) (show w1.heap.size ≤ V3.heap.size by omega) KX1 F5_1
            go_simp
            go_wp2_with fail
            rw [← HX2.out]
            clear HX2 c0 c1 c2 c3 c4 f0 f1 f2 f3 f4
            have A4_2 := A5.mk (N2 _ _ (by omega) A4_1.blk)
            have F6_2 := N2 _ _ (by omega) F6_1
            have F7_2 := N2 _ _ (by omega) F7_1
            refine hK.out _ _ ?_ (fun hHeld => ?_)
            · exact HSx.out _ KX2
            clear hK K
            try simp only [Act.put, List.setIfInBounds_toArray, List.set_cons_zero, List.set_cons_succ]
            refine wpAnyH_ready (rs := [10]) (by kernel_rfl) (by simp) ?_
            refine AllReadyH.cons (o := Oper.mk none _ _ _ _ _) rfl (fun K hK => ?_) AllReadyH.nil
            obtain ⟨⟨c0, c1, c2, c3, c4⟩, ⟨f0, f1, f2, f3, f4⟩⟩ := zero_facts F6_2
            obtain ⟨X3, HX3, KX3, A6_3, N3⟩ := fill (a := a) (show w1.heap.size ≤ V2.heap.size by omega) KX2 F6_2
            go_simp
            go_wp2_with fail
            rw [← HX3.out]
            clear HX3 c0 c1 c2 c3 c4 f0 f1 f2 f3 f4
            have A4_3 := A5.mk (N3 _ _ (by omega) A4_2.blk)
            have A5_3 := A5.mk (N3 _ _ (by omega) A5_2.blk)
            have F7_3 := N3 _ _ (by omega) F7_2
            refine hK.out _ _ ?_ (fun hHeld => ?_)
            · exact HSx.out _ KX3
            clear hK K
            try simp only [Act.put, List.setIfInBounds_toArray, List.set_cons_zero, List.set_cons_succ]
            refine wpAnyH_ready (rs := [11]) (by kernel_rfl) (by simp) ?_
            refine AllReadyH.cons (o := Oper.mk none _ _ _ _ _) rfl (fun K hK => ?_) AllReadyH.nil
            obtain ⟨⟨c0, c1, c2, c3, c4⟩, ⟨f0, f1, f2, f3, f4⟩⟩ := zero_facts F7_3
            obtain ⟨X4, HX4, KX4, A7_4, N4⟩ := fill (a := a) (show w1.heap.size ≤ V0.heap.size by omega) KX3 F7_3
            go_simp
            go_wp2_with fail
            rw [← HX4.out]
            clear HX4 c0 c1 c2 c3 c4 f0 f1 f2 f3 f4
            have A4_4 := A5.mk (N4 _ _ (by omega) A4_3.blk)
            have A5_4 := A5.mk (N4 _ _ (by omega) A5_3.blk)
            have A6_4 := A5.mk (N4 _ _ (by omega) A6_3.blk)
            refine hK.out _ _ ?_ (fun hHeld => ?_)
            · exact HSx.out _ KX4
            clear hK K
            try simp only [Act.put, List.setIfInBounds_toArray, List.set_cons_zero, List.set_cons_succ]
            refine wpAnyH_done (by kernel_rfl) ?_ _
            refine NoPanic.normal ?_
            go_wp2
            go_meet
            exact ⟨V1.heap.size, V3.heap.size, V2.heap.size, V0.heap.size, rfl, rfl, rfl, rfl, KX4, ⟨by omega, by omega, by omega, by omega⟩, ⟨by omega, by omega, by omega, by omega, by omega, by omega⟩, A4_4, A5_4, A6_4, A7_4⟩
        · go_simp
          go_wp2_with fail
          obtain ⟨V2, HV2⟩ : ∃ V2, Hid (V2 = V1.alloc (.cells #[.int .i64 0, .int .i64 0, .int .i64 0, .int .i64 0, .int .i64 0] 28)) := ⟨_, rfl⟩
          have KS2 : Kp V1 V2 := by rw [HV2.out]; exact (Kp.refl _).alloc _
          have KV2 : Kp w1 V2 := KV1.trans KS2
          have E5_2 : V2.heap[V1.heap.size]? = some (.cells #[.int .i64 0, .int .i64 0, .int .i64 0, .int .i64 0, .int .i64 0] 28 (0, 0)) := by rw [HV2.out]; exact heap_alloc_at _ _
          have hq2 := lt_blk E5_2
          rw [← HV2.out]
          clear HV2
          have E7_2 := kp_block E7_1 KS2
          clear E7_1
          refine hK.out _ _ ?_ (fun hHeld => ?_)
          · exact HSx.out _ KV2
          clear hK K
          try simp only [Act.put, List.setIfInBounds_toArray, List.set_cons_zero, List.set_cons_succ]
          refine wpAnyH_ready (rs := [4, 6]) (by kernel_rfl) (by simp) ?_
          refine AllReadyH.cons (o := Oper.mk (some 5) _ _ _ _ _) rfl (fun K hK => ?_) (AllReadyH.cons (o := Oper.mk (some 7) _ _ _ _ _) rfl (fun K hK => ?_) AllReadyH.nil)
          · go_simp
            go_wp2_with fail
            obtain ⟨V3, HV3⟩ : ∃ V3, Hid (V3 = V2.alloc (.cells #[.int .i64 0, .int .i64 0, .int .i64 0, .int .i64 0, .int .i64 0] 28)) := ⟨_, rfl⟩
            have KS3 : Kp V2 V3 := by rw [HV3.out]; exact (Kp.refl _).alloc _
            have KV3 : Kp w1 V3 := KV2.trans KS3
            have E4_3 : V3.heap[V2.heap.size]? = some (.cells #[.int .i64 0, .int .i64 0, .int .i64 0, .int .i64 0, .int .i64 0] 28 (0, 0)) := by rw [HV3.out]; exact heap_alloc_at _ _
            have hq3 := lt_blk E4_3
            rw [← HV3.out]
            clear HV3
            have E7_3 := kp_block E7_2 KS3
            have E5_3 := kp_block E5_2 KS3
            clear E7_2 E5_2
            refine hK.out _ _ ?_ (fun hHeld => ?_)
            · exact HSx.out _ KV3
            clear hK K
            try simp only [Act.put, List.setIfInBounds_toArray, List.set_cons_zero, List.set_cons_succ]
            refine wpAnyH_ready (rs := [6]) (by kernel_rfl) (by simp) ?_
            refine AllReadyH.cons (o := Oper.mk (some 7) _ _ _ _ _) rfl (fun K hK => ?_) AllReadyH.nil
            go_simp
            go_wp2_with fail
            obtain ⟨V4, HV4⟩ : ∃ V4, Hid (V4 = V3.alloc (.cells #[.int .i64 0, .int .i64 0, .int .i64 0, .int .i64 0, .int .i64 0] 28)) := ⟨_, rfl⟩
            have KS4 : Kp V3 V4 := by rw [HV4.out]; exact (Kp.refl _).alloc _
            have KV4 : Kp w1 V4 := KV3.trans KS4
            have E6_4 : V4.heap[V3.heap.size]? = some (.cells #[.int .i64 0, .int .i64 0, .int .i64 0, .int .i64 0, .int .i64 0] 28 (0, 0)) := by rw [HV4.out]; exact heap_alloc_at _ _
            have hq4 := lt_blk E6_4
            rw [← HV4.out]
            clear HV4
            have E7_4 := kp_block E7_3 KS4
            have E5_4 := kp_block E5_3 KS4
            have E4_4 := kp_block E4_3 KS4
            clear E7_3 E5_3 E4_3
            refine hK.out _ _ ?_ (fun hHeld => ?_)
            · exact HSx.out _ KV4
            clear hK K
            try simp only [Act.put, List.setIfInBounds_toArray, List.set_cons_zero, List.set_cons_succ]
            obtain ⟨X0, HX0⟩ : ∃ X0, X0 = V4 := ⟨_, rfl⟩
            have KX0 : Kp w1 X0 := HX0 ▸ KV4
            have F4_0 := HX0 ▸ E4_4
            have F5_0 := HX0 ▸ E5_4
            have F6_0 := HX0 ▸ E6_4
            have F7_0 := HX0 ▸ E7_4
            rw [← HX0]
            clear HX0
            refine wpAnyH_ready (rs := [8]) (by kernel_rfl) (by simp) ?_
            refine AllReadyH.cons (o := Oper.mk none _ _ _ _ _) rfl (fun K hK => ?_) AllReadyH.nil
            obtain ⟨⟨c0, c1, c2, c3, c4⟩, ⟨f0, f1, f2, f3, f4⟩⟩ := zero_facts F4_0
            obtain ⟨X1, HX1, KX1, A4_1, N1⟩ := fill (a := a) (show w1.heap.size ≤ V2.heap.size by omega) KX0 F4_0
            go_simp
            go_wp2_with fail
            rw [← HX1.out]
            clear HX1 c0 c1 c2 c3 c4 f0 f1 f2 f3 f4
            have F5_1 := N1 _ _ (by omega) F5_0
            have F6_1 := N1 _ _ (by omega) F6_0
            have F7_1 := N1 _ _ (by omega) F7_0
            refine hK.out _ _ ?_ (fun hHeld => ?_)
            · exact HSx.out _ KX1
            clear hK K
            try simp only [Act.put, List.setIfInBounds_toArray, List.set_cons_zero, List.set_cons_succ]
            refine wpAnyH_ready (rs := [9]) (by kernel_rfl) (by simp) ?_
            refine AllReadyH.cons (o := Oper.mk none _ _ _ _ _) rfl (fun K hK => ?_) AllReadyH.nil
            obtain ⟨⟨c0, c1, c2, c3, c4⟩, ⟨f0, f1, f2, f3, f4⟩⟩ := zero_facts F5_1
            obtain ⟨X2, HX2, KX2, A5_2, N2⟩ := fill (a := a) (show w1.heap.size ≤ V1.heap.size by omega) KX1 F5_1
            go_simp
            go_wp2_with fail
            rw [← HX2.out]
            clear HX2 c0 c1 c2 c3 c4 f0 f1 f2 f3 f4
            have A4_2 := A5.mk (N2 _ _ (by omega) A4_1.blk)
            have F6_2 := N2 _ _ (by omega) F6_1
            have F7_2 := N2 _ _ (by omega) F7_1
            refine hK.out _ _ ?_ (fun hHeld => ?_)
            · exact HSx.out _ KX2
            clear hK K
            try simp only [Act.put, List.setIfInBounds_toArray, List.set_cons_zero, List.set_cons_succ]
            refine wpAnyH_ready (rs := [10]) (by kernel_rfl) (by simp) ?_
            refine AllReadyH.cons (o := Oper.mk none _ _ _ _ _) rfl (fun K hK => ?_) AllReadyH.nil
            obtain ⟨⟨c0, c1, c2, c3, c4⟩, ⟨f0, f1, f2, f3, f4⟩⟩ := zero_facts F6_2
            obtain ⟨X3, HX3, KX3, A6_3, N3⟩ := fill (a := a) (show w1.heap.size ≤ V3.heap.size by omega) KX2 F6_2
            go_simp
            go_wp2_with fail
            rw [← HX3.out]
            clear HX3 c0 c1 c2 c3 c4 f0 f1 f2 f3 f4
            have A4_3 := A5.mk (N3 _ _ (by omega) A4_2.blk)
            have A5_3 := A5.mk (N3 _ _ (by omega) A5_2.blk)
            have F7_3 := N3 _ _ (by omega) F7_2
            refine hK.out _ _ ?_ (fun hHeld => ?_)
            · exact HSx.out _ KX3
            clear hK K
            try simp only [Act.put, List.setIfInBounds_toArray, List.set_cons_zero, List.set_cons_succ]
            refine wpAnyH_ready (rs := [11]) (by kernel_rfl) (by simp) ?_
            refine AllReadyH.cons (o := Oper.mk none _ _ _ _ _) rfl (fun K hK => ?_) AllReadyH.nil
            obtain ⟨⟨c0, c1, c2, c3, c4⟩, ⟨f0, f1, f2, f3, f4⟩⟩ := zero_facts F7_3
            obtain ⟨X4, HX4, KX4, A7_4, N4⟩ := fill (a := a) (show w1.heap.size ≤ V0.heap.size by omega) KX3 F7_3
            go_simp
            go_wp2_with fail
            rw [← HX4.out]
            clear HX4 c0 c1 c2 c3 c4 f0 f1 f2 f3 f4
            have A4_4 := A5.mk (N4 _ _ (by omega) A4_3.blk)
            have A5_4 := A5.mk (N4 _ _ (by omega) A5_3.blk)
            have A6_4 := A5.mk (N4 _ _ (by omega) A6_3.blk)
            refine hK.out _ _ ?_ (fun hHeld => ?_)
            · exact HSx.out _ KX4
            clear hK K
            try simp only [Act.put, List.setIfInBounds_toArray, List.set_cons_zero, List.set_cons_succ]
            refine wpAnyH_done (by kernel_rfl) ?_ _
            refine NoPanic.normal ?_
            go_wp2
            go_meet
            exact ⟨V2.heap.size, V1.heap.size, V3.heap.size, V0.heap.size, rfl, rfl, rfl, rfl, KX4, ⟨by omega, by omega, by omega, by omega⟩, ⟨by omega, by omega, by omega, by omega, by omega, by omega⟩, A4_4, A5_4, A6_4, A7_4⟩
          · go_simp
            go_wp2_with fail
            obtain ⟨V3, HV3⟩ : ∃ V3, Hid (V3 = V2.alloc (.cells #[.int .i64 0, .int .i64 0, .int .i64 0, .int .i64 0, .int .i64 0] 28)) := ⟨_, rfl⟩
            have KS3 : Kp V2 V3 := by rw [HV3.out]; exact (Kp.refl _).alloc _
            have KV3 : Kp w1 V3 := KV2.trans KS3
            have E6_3 : V3.heap[V2.heap.size]? = some (.cells #[.int .i64 0, .int .i64 0, .int .i64 0, .int .i64 0, .int .i64 0] 28 (0, 0)) := by rw [HV3.out]; exact heap_alloc_at _ _
            have hq3 := lt_blk E6_3
            rw [← HV3.out]
            clear HV3
            have E7_3 := kp_block E7_2 KS3
            have E5_3 := kp_block E5_2 KS3
            clear E7_2 E5_2
            refine hK.out _ _ ?_ (fun hHeld => ?_)
            · exact HSx.out _ KV3
            clear hK K
            try simp only [Act.put, List.setIfInBounds_toArray, List.set_cons_zero, List.set_cons_succ]
            refine wpAnyH_ready (rs := [4]) (by kernel_rfl) (by simp) ?_
            refine AllReadyH.cons (o := Oper.mk (some 5) _ _ _ _ _) rfl (fun K hK => ?_) AllReadyH.nil
            go_simp
            go_wp2_with fail
            obtain ⟨V4, HV4⟩ : ∃ V4, Hid (V4 = V3.alloc (.cells #[.int .i64 0, .int .i64 0, .int .i64 0, .int .i64 0, .int .i64 0] 28)) := ⟨_, rfl⟩
            have KS4 : Kp V3 V4 := by rw [HV4.out]; exact (Kp.refl _).alloc _
            have KV4 : Kp w1 V4 := KV3.trans KS4
            have E4_4 : V4.heap[V3.heap.size]? = some (.cells #[.int .i64 0, .int .i64 0, .int .i64 0, .int .i64 0, .int .i64 0] 28 (0, 0)) := by rw [HV4.out]; exact heap_alloc_at _ _
            have hq4 := lt_blk E4_4
            rw [← HV4.out]
            clear HV4
            have E7_4 := kp_block E7_3 KS4
            have E5_4 := kp_block E5_3 KS4
            have E6_4 := kp_block E6_3 KS4
            clear E7_3 E5_3 E6_3
            refine hK.out _ _ ?_ (fun hHeld => ?_)
            · exact HSx.out _ KV4
            clear hK K
            try simp only [Act.put, List.setIfInBounds_toArray, List.set_cons_zero, List.set_cons_succ]
            obtain ⟨X0, HX0⟩ : ∃ X0, X0 = V4 := ⟨_, rfl⟩
            have KX0 : Kp w1 X0 := HX0 ▸ KV4
            have F4_0 := HX0 ▸ E4_4
            have F5_0 := HX0 ▸ E5_4
            have F6_0 := HX0 ▸ E6_4
            have F7_0 := HX0 ▸ E7_4
            rw [← HX0]
            clear HX0
            refine wpAnyH_ready (rs := [8]) (by kernel_rfl) (by simp) ?_
            refine AllReadyH.cons (o := Oper.mk none _ _ _ _ _) rfl (fun K hK => ?_) AllReadyH.nil
            obtain ⟨⟨c0, c1, c2, c3, c4⟩, ⟨f0, f1, f2, f3, f4⟩⟩ := zero_facts F4_0
            obtain ⟨X1, HX1, KX1, A4_1, N1⟩ := fill (a := a) (show w1.heap.size ≤ V3.heap.size by omega) KX0 F4_0
            go_simp
            go_wp2_with fail
            rw [← HX1.out]
            clear HX1 c0 c1 c2 c3 c4 f0 f1 f2 f3 f4
            have F5_1 := N1 _ _ (by omega) F5_0
            have F6_1 := N1 _ _ (by omega) F6_0
            have F7_1 := N1 _ _ (by omega) F7_0
            refine hK.out _ _ ?_ (fun hHeld => ?_)
            · exact HSx.out _ KX1
            clear hK K
            try simp only [Act.put, List.setIfInBounds_toArray, List.set_cons_zero, List.set_cons_succ]
            refine wpAnyH_ready (rs := [9]) (by kernel_rfl) (by simp) ?_
            refine AllReadyH.cons (o := Oper.mk none _ _ _ _ _) rfl (fun K hK => ?_) AllReadyH.nil
            obtain ⟨⟨c0, c1, c2, c3, c4⟩, ⟨f0, f1, f2, f3, f4⟩⟩ := zero_facts F5_1
            obtain ⟨X2, HX2, KX2, A5_2, N2⟩ := fill (a := a) (show w1.heap.size ≤ V1.heap.size by omega) KX1 F5_1
            go_simp
            go_wp2_with fail
            rw [← HX2.out]
            clear HX2 c0 c1 c2 c3 c4 f0 f1 f2 f3 f4
            have A4_2 := A5.mk (N2 _ _ (by omega) A4_1.blk)
            have F6_2 := N2 _ _ (by omega) F6_1
            have F7_2 := N2 _ _ (by omega) F7_1
            refine hK.out _ _ ?_ (fun hHeld => ?_)
            · exact HSx.out _ KX2
            clear hK K
            try simp only [Act.put, List.setIfInBounds_toArray, List.set_cons_zero, List.set_cons_succ]
            refine wpAnyH_ready (rs := [10]) (by kernel_rfl) (by simp) ?_
            refine AllReadyH.cons (o := Oper.mk none _ _ _ _ _) rfl (fun K hK => ?_) AllReadyH.nil
            obtain ⟨⟨c0, c1, c2, c3, c4⟩, ⟨f0, f1, f2, f3, f4⟩⟩ := zero_facts F6_2
            obtain ⟨X3, HX3, KX3, A6_3, N3⟩ := fill (a := a) (show w1.heap.size ≤ V2.heap.size by omega) KX2 F6_2
            go_simp
            go_wp2_with fail
            rw [← HX3.out]
            clear HX3 c0 c1 c2 c3 c4 f0 f1 f2 f3 f4
            have A4_3 := A5.mk (N3 _ _ (by omega) A4_2.blk)
            have A5_3 := A5.mk (N3 _ _ (by omega) A5_2.blk)
            have F7_3 := N3 _ _ (by omega) F7_2
            refine hK.out _ _ ?_ (fun hHeld => ?_)
            · exact HSx.out _ KX3
            clear hK K
            try simp only [Act.put, List.setIfInBounds_toArray, List.set_cons_zero, List.set_cons_succ]
            refine wpAnyH_ready (rs := [11]) (by kernel_rfl) (by simp) ?_
            refine AllReadyH.cons (o := Oper.mk none _ _ _ _ _) rfl (fun K hK => ?_) AllReadyH.nil
            obtain ⟨⟨c0, c1, c2, c3, c4⟩, ⟨f0, f1, f2, f3, f4⟩⟩ := zero_facts F7_3
            obtain ⟨X4, HX4, KX4, A7_4, N4⟩ := fill (a := a) (show w1.heap.size ≤ V0.heap.size by omega) KX3 F7_3
            go_simp
            go_wp2_with fail
            rw [← HX4.out]
            clear HX4 c0 c1 c2 c3 c4 f0 f1 f2 f3 f4
            have A4_4 := A5.mk (N4 _ _ (by omega) A4_3.blk)
            have A5_4 := A5.mk (N4 _ _ (by omega) A5_3.blk)
            have A6_4 := A5.mk (N4 _ _ (by omega) A6_3.blk)
            refine hK.out _ _ ?_ (fun hHeld => ?_)
            · exact HSx.out _ KX4
            clear hK K
            try simp only [Act.put, List.setIfInBounds_toArray, List.set_cons_zero, List.set_cons_succ]
            refine wpAnyH_done (by kernel_rfl) ?_ _
            refine NoPanic.normal ?_
            go_wp2
            go_meet
            exact ⟨V3.heap.size, V1.heap.size, V2.heap.size, V0.heap.size, rfl, rfl, rfl, rfl, KX4, ⟨by omega, by omega, by omega, by omega⟩, ⟨by omega, by omega, by omega, by omega, by omega, by omega⟩, A4_4, A5_4, A6_4, A7_4⟩
        · go_simp
          go_wp2_with fail
          obtain ⟨V2, HV2⟩ : ∃ V2, Hid (V2 = V1.alloc (.cells #[.int .i64 0, .int .i64 0, .int .i64 0, .int .i64 0, .int .i64 0] 28)) := ⟨_, rfl⟩
          have KS2 : Kp V1 V2 := by rw [HV2.out]; exact (Kp.refl _).alloc _
          have KV2 : Kp w1 V2 := KV1.trans KS2
          have E6_2 : V2.heap[V1.heap.size]? = some (.cells #[.int .i64 0, .int .i64 0, .int .i64 0, .int .i64 0, .int .i64 0] 28 (0, 0)) := by rw [HV2.out]; exact heap_alloc_at _ _
          have hq2 := lt_blk E6_2
          rw [← HV2.out]
          clear HV2
          have E7_2 := kp_block E7_1 KS2
          clear E7_1
          refine hK.out _ _ ?_ (fun hHeld => ?_)
          · exact HSx.out _ KV2
          clear hK K
          try simp only [Act.put, List.setIfInBounds_toArray, List.set_cons_zero, List.set_cons_succ]
          refine wpAnyH_ready (rs := [4, 5]) (by kernel_rfl) (by simp) ?_
          refine AllReadyH.cons (o := Oper.mk (some 5) _ _ _ _ _) rfl (fun K hK => ?_) (AllReadyH.cons (o := Oper.mk (some 6) _ _ _ _ _) rfl (fun K hK => ?_) AllReadyH.nil)
          · go_simp
            go_wp2_with fail
            obtain ⟨V3, HV3⟩ : ∃ V3, Hid (V3 = V2.alloc (.cells #[.int .i64 0, .int .i64 0, .int .i64 0, .int .i64 0, .int .i64 0] 28)) := ⟨_, rfl⟩
            have KS3 : Kp V2 V3 := by rw [HV3.out]; exact (Kp.refl _).alloc _
            have KV3 : Kp w1 V3 := KV2.trans KS3
            have E4_3 : V3.heap[V2.heap.size]? = some (.cells #[.int .i64 0, .int .i64 0, .int .i64 0, .int .i64 0, .int .i64 0] 28 (0, 0)) := by rw [HV3.out]; exact heap_alloc_at _ _
            have hq3 := lt_blk E4_3
            rw [← HV3.out]
            clear HV3
            have E7_3 := kp_block E7_2 KS3
            have E6_3 := kp_block E6_2 KS3
            clear E7_2 E6_2
            refine hK.out _ _ ?_ (fun hHeld => ?_)
            · exact HSx.out _ KV3
            clear hK K
            try simp only [Act.put, List.setIfInBounds_toArray, List.set_cons_zero, List.set_cons_succ]
            refine wpAnyH_ready (rs := [5]) (by kernel_rfl) (by simp) ?_
            refine AllReadyH.cons (o := Oper.mk (some 6) _ _ _ _ _) rfl (fun K hK => ?_) AllReadyH.nil
            go_simp
            go_wp2_with fail
            obtain ⟨V4, HV4⟩ : ∃ V4, Hid (V4 = V3.alloc (.cells #[.int .i64 0, .int .i64 0, .int .i64 0, .int .i64 0, .int .i64 0] 28)) := ⟨_, rfl⟩
            have KS4 : Kp V3 V4 := by rw [HV4.out]; exact (Kp.refl _).alloc _
            have KV4 : Kp w1 V4 := KV3.trans KS4
            have E5_4 : V4.heap[V3.heap.size]? = some (.cells #[.int .i64 0, .int .i64 0, .int .i64 0, .int .i64 0, .int .i64 0] 28 (0, 0)) := by rw [HV4.out]; exact heap_alloc_at _ _
            have hq4 := lt_blk E5_4
            rw [← HV4.out]
            clear HV4
            have E7_4 := kp_block E7_3 KS4
            have E6_4 := kp_block E6_3 KS4
            have E4_4 := kp_block E4_3 KS4
            clear E7_3 E6_3 E4_3
            refine hK.out _ _ ?_ (fun hHeld => ?_)
            · exact HSx.out _ KV4
            clear hK K
            try simp only [Act.put, List.setIfInBounds_toArray, List.set_cons_zero, List.set_cons_succ]
            obtain ⟨X0, HX0⟩ : ∃ X0, X0 = V4 := ⟨_, rfl⟩
            have KX0 : Kp w1 X0 := HX0 ▸ KV4
            have F4_0 := HX0 ▸ E4_4
            have F5_0 := HX0 ▸ E5_4
            have F6_0 := HX0 ▸ E6_4
            have F7_0 := HX0 ▸ E7_4
            rw [← HX0]
            clear HX0
            refine wpAnyH_ready (rs := [8]) (by kernel_rfl) (by simp) ?_
            refine AllReadyH.cons (o := Oper.mk none _ _ _ _ _) rfl (fun K hK => ?_) AllReadyH.nil
            obtain ⟨⟨c0, c1, c2, c3, c4⟩, ⟨f0, f1, f2, f3, f4⟩⟩ := zero_facts F4_0
            obtain ⟨X1, HX1, KX1, A4_1, N1⟩ := fill (a := a) (show w1.heap.size ≤ V2.heap.size by omega) KX0 F4_0
            go_simp
            go_wp2_with fail
            rw [← HX1.out]
            clear HX1 c0 c1 c2 c3 c4 f0 f1 f2 f3 f4
            have F5_1 := N1 _ _ (by omega) F5_0
            have F6_1 := N1 _ _ (by omega) F6_0
            have F7_1 := N1 _ _ (by omega) F7_0
            refine hK.out _ _ ?_ (fun hHeld => ?_)
            · exact HSx.out _ KX1
            clear hK K
            try simp only [Act.put, List.setIfInBounds_toArray, List.set_cons_zero, List.set_cons_succ]
            refine wpAnyH_ready (rs := [9]) (by kernel_rfl) (by simp) ?_
            refine AllReadyH.cons (o := Oper.mk none _ _ _ _ _) rfl (fun K hK => ?_) AllReadyH.nil
            obtain ⟨⟨c0, c1, c2, c3, c4⟩, ⟨f0, f1, f2, f3, f4⟩⟩ := zero_facts F5_1
            obtain ⟨X2, HX2, KX2, A5_2, N2⟩ := fill (a := a) (show w1.heap.size ≤ V3.heap.size by omega) KX1 F5_1
            go_simp
            go_wp2_with fail
            rw [← HX2.out]
            clear HX2 c0 c1 c2 c3 c4 f0 f1 f2 f3 f4
            have A4_2 := A5.mk (N2 _ _ (by omega) A4_1.blk)
            have F6_2 := N2 _ _ (by omega) F6_1
            have F7_2 := N2 _ _ (by omega) F7_1
            refine hK.out _ _ ?_ (fun hHeld => ?_)
            · exact HSx.out _ KX2
            clear hK K
            try simp only [Act.put, List.setIfInBounds_toArray, List.set_cons_zero, List.set_cons_succ]
            refine wpAnyH_ready (rs := [10]) (by kernel_rfl) (by simp) ?_
            refine AllReadyH.cons (o := Oper.mk none _ _ _ _ _) rfl (fun K hK => ?_) AllReadyH.nil
            obtain ⟨⟨c0, c1, c2, c3, c4⟩, ⟨f0, f1, f2, f3, f4⟩⟩ := zero_facts F6_2
            obtain ⟨X3, HX3, KX3, A6_3, N3⟩ := fill (a := a) (show w1.heap.size ≤ V1.heap.size by omega) KX2 F6_2
            go_simp
            go_wp2_with fail
            rw [← HX3.out]
            clear HX3 c0 c1 c2 c3 c4 f0 f1 f2 f3 f4
            have A4_3 := A5.mk (N3 _ _ (by omega) A4_2.blk)
            have A5_3 := A5.mk (N3 _ _ (by omega) A5_2.blk)
            have F7_3 := N3 _ _ (by omega) F7_2
            refine hK.out _ _ ?_ (fun hHeld => ?_)
            · exact HSx.out _ KX3
            clear hK K
            try simp only [Act.put, List.setIfInBounds_toArray, List.set_cons_zero, List.set_cons_succ]
            refine wpAnyH_ready (rs := [11]) (by kernel_rfl) (by simp) ?_
            refine AllReadyH.cons (o := Oper.mk none _ _ _ _ _) rfl (fun K hK => ?_) AllReadyH.nil
            obtain ⟨⟨c0, c1, c2, c3, c4⟩, ⟨f0, f1, f2, f3, f4⟩⟩ := zero_facts F7_3
            obtain ⟨X4, HX4, KX4, A7_4, N4⟩ := fill (a := a) (show w1.heap.size ≤ V0.heap.size by omega) KX3 F7_3
            go_simp
            go_wp2_with fail
            rw [← HX4.out]
            clear HX4 c0 c1 c2 c3 c4 f0 f1 f2 f3 f4
            have A4_4 := A5.mk (N4 _ _ (by omega) A4_3.blk)
            have A5_4 := A5.mk (N4 _ _ (by omega) A5_3.blk)
            have A6_4 := A5.mk (N4 _ _ (by omega) A6_3.blk)
            refine hK.out _ _ ?_ (fun hHeld => ?_)
            · exact HSx.out _ KX4
            clear hK K
            try simp only [Act.put, List.setIfInBounds_toArray, List.set_cons_zero, List.set_cons_succ]
            refine wpAnyH_done (by kernel_rfl) ?_ _
            refine NoPanic.normal ?_
            go_wp2
            go_meet
            exact ⟨V2.heap.size, V3.heap.size, V1.heap.size, V0.heap.size, rfl, rfl, rfl, rfl, KX4, ⟨by omega, by omega, by omega, by omega⟩, ⟨by omega, by omega, by omega, by omega, by omega, by omega⟩, A4_4, A5_4, A6_4, A7_4⟩
          · go_simp
            go_wp2_with fail
            obtain ⟨V3, HV3⟩ : ∃ V3, Hid (V3 = V2.alloc (.cells #[.int .i64 0, .int .i64 0, .int .i64 0, .int .i64 0, .int .i64 0] 28)) := ⟨_, rfl⟩
            have KS3 : Kp V2 V3 := by rw [HV3.out]; exact (Kp.refl _).alloc _
            have KV3 : Kp w1 V3 := KV2.trans KS3
            have E5_3 : V3.heap[V2.heap.size]? = some (.cells #[.int .i64 0, .int .i64 0, .int .i64 0, .int .i64 0, .int .i64 0] 28 (0, 0)) := by rw [HV3.out]; exact heap_alloc_at _ _
            have hq3 := lt_blk E5_3
            rw [← HV3.out]
            clear HV3
            have E7_3 := kp_block E7_2 KS3
            have E6_3 := kp_block E6_2 KS3
            clear E7_2 E6_2
            refine hK.out _ _ ?_ (fun hHeld => ?_)
            · exact HSx.out _ KV3
            clear hK K
            try simp only [Act.put, List.setIfInBounds_toArray, List.set_cons_zero, List.set_cons_succ]
            refine wpAnyH_ready (rs := [4]) (by kernel_rfl) (by simp) ?_
            refine AllReadyH.cons (o := Oper.mk (some 5) _ _ _ _ _) rfl (fun K hK => ?_) AllReadyH.nil
            go_simp
            go_wp2_with fail
            obtain ⟨V4, HV4⟩ : ∃ V4, Hid (V4 = V3.alloc (.cells #[.int .i64 0, .int .i64 0, .int .i64 0, .int .i64 0, .int .i64 0] 28)) := ⟨_, rfl⟩
            have KS4 : Kp V3 V4 := by rw [HV4.out]; exact (Kp.refl _).alloc _
            have KV4 : Kp w1 V4 := KV3.trans KS4
            have E4_4 : V4.heap[V3.heap.size]? = some (.cells #[.int .i64 0, .int .i64 0, .int .i64 0, .int .i64 0, .int .i64 0] 28 (0, 0)) := by rw [HV4.out]; exact heap_alloc_at _ _
            have hq4 := lt_blk E4_4
            rw [← HV4.out]
            clear HV4
            have E7_4 := kp_block E7_3 KS4
            have E6_4 := kp_block E6_3 KS4
            have E5_4 := kp_block E5_3 KS4
            clear E7_3 E6_3 E5_3
            refine hK.out _ _ ?_ (fun hHeld => ?_)
            · exact HSx.out _ KV4
            clear hK K
            try simp only [Act.put, List.setIfInBounds_toArray, List.set_cons_zero, List.set_cons_succ]
            obtain ⟨X0, HX0⟩ : ∃ X0, X0 = V4 := ⟨_, rfl⟩
            have KX0 : Kp w1 X0 := HX0 ▸ KV4
            have F4_0 := HX0 ▸ E4_4
            have F5_0 := HX0 ▸ E5_4
            have F6_0 := HX0 ▸ E6_4
            have F7_0 := HX0 ▸ E7_4
            rw [← HX0]
            clear HX0
            refine wpAnyH_ready (rs := [8]) (by kernel_rfl) (by simp) ?_
            refine AllReadyH.cons (o := Oper.mk none _ _ _ _ _) rfl (fun K hK => ?_) AllReadyH.nil
            obtain ⟨⟨c0, c1, c2, c3, c4⟩, ⟨f0, f1, f2, f3, f4⟩⟩ := zero_facts F4_0
            obtain ⟨X1, HX1, KX1, A4_1, N1⟩ := fill (a := a) (show w1.heap.size ≤ V3.heap.size by omega) KX0 F4_0
            go_simp
            go_wp2_with fail
            rw [← HX1.out]
            clear HX1 c0 c1 c2 c3 c4 f0 f1 f2 f3 f4
            have F5_1 := N1 _ _ (by omega) F5_0
            have F6_1 := N1 _ _ (by omega) F6_0
            have F7_1 := N1 _ _ (by omega) F7_0
            refine hK.out _ _ ?_ (fun hHeld => ?_)
            · exact HSx.out _ KX1
            clear hK K
            try simp only [Act.put, List.setIfInBounds_toArray, List.set_cons_zero, List.set_cons_succ]
            refine wpAnyH_ready (rs := [9]) (by kernel_rfl) (by simp) ?_
            refine AllReadyH.cons (o := Oper.mk none _ _ _ _ _) rfl (fun K hK => ?_) AllReadyH.nil
            obtain ⟨⟨c0, c1, c2, c3, c4⟩, ⟨f0, f1, f2, f3, f4⟩⟩ := zero_facts F5_1
            obtain ⟨X2, HX2, KX2, A5_2, N2⟩ := fill (a := a) (show w1.heap.size ≤ V2.heap.size by omega) KX1 F5_1
            go_simp
            go_wp2_with fail
            rw [← HX2.out]
            clear HX2 c0 c1 c2 c3 c4 f0 f1 f2 f3 f4
            have A4_2 := A5.mk (N2 _ _ (by omega) A4_1.blk)
            have F6_2 := N2 _ _ (by omega) F6_1
            have F7_2 := N2 _ _ (by omega) F7_1
            refine hK.out _ _ ?_ (fun hHeld => ?_)
            · exact HSx.out _ KX2
            clear hK K
            try simp only [Act.put, List.setIfInBounds_toArray, List.set_cons_zero, List.set_cons_succ]
            refine wpAnyH_ready (rs := [10]) (by kernel_rfl) (by simp) ?_
            refine AllReadyH.cons (o := Oper.mk none _ _ _ _ _) rfl (fun K hK => ?_) AllReadyH.nil
            obtain ⟨⟨c0, c1, c2, c3, c4⟩, ⟨f0, f1, f2, f3, f4⟩⟩ := zero_facts F6_2
            obtain ⟨X3, HX3, KX3, A6_3, N3⟩ := fill (a := a) (show w1.heap.size ≤ V1.heap.size by omega) KX2 F6_2
            go_simp
            go_wp2_with fail
            rw [← HX3.out]
            clear HX3 c0 c1 c2 c3 c4 f0 f1 f2 f3 f4
            have A4_3 := A5.mk (N3 _ _ (by omega) A4_2.blk)
            have A5_3 := A5.mk (N3 _ _ (by omega) A5_2.blk)
            have F7_3 := N3 _ _ (by omega) F7_2
            refine hK.out _ _ ?_ (fun hHeld => ?_)
            · exact HSx.out _ KX3
            clear hK K
            try simp only [Act.put, List.setIfInBounds_toArray, List.set_cons_zero, List.set_cons_succ]
            refine wpAnyH_ready (rs := [11]) (by kernel_rfl) (by simp) ?_
            refine AllReadyH.cons (o := Oper.mk none _ _ _ _ _) rfl (fun K hK => ?_) AllReadyH.nil
            obtain ⟨⟨c0, c1, c2, c3, c4⟩, ⟨f0, f1, f2, f3, f4⟩⟩ := zero_facts F7_3
            obtain ⟨X4, HX4, KX4, A7_4, N4⟩ := fill (a := a) (show w1.heap.size ≤ V0.heap.size by omega) KX3 F7_3
            go_simp
            go_wp2_with fail
            rw [← HX4.out]
            clear HX4 c0 c1 c2 c3 c4 f0 f1 f2 f3 f4
            have A4_4 := A5.mk (N4 _ _ (by omega) A4_3.blk)
            have A5_4 := A5.mk (N4 _ _ (by omega) A5_3.blk)
            have A6_4 := A5.mk (N4 _ _ (by omega) A6_3.blk)
            refine hK.out _ _ ?_ (fun hHeld => ?_)
            · exact HSx.out _ KX4
            clear hK K
            try simp only [Act.put, List.setIfInBounds_toArray, List.set_cons_zero, List.set_cons_succ]
            refine wpAnyH_done (by kernel_rfl) ?_ _
            refine NoPanic.normal ?_
            go_wp2
            go_meet
            exact ⟨V3.heap.size, V2.heap.size, V1.heap.size, V0.heap.size, rfl, rfl, rfl, rfl, KX4, ⟨by omega, by omega, by omega, by omega⟩, ⟨by omega, by omega, by omega, by omega, by omega, by omega⟩, A4_4, A5_4, A6_4, A7_4⟩
    case rest =>
      obtain ⟨g5, g6, g7, g8, rfl, rfl, rfl, rfl, kc, ⟨z5, z6, z7, z8⟩, ⟨n56, n57, n58, n67, n68, n78⟩, a5, a6, a7, a8⟩ := hcut
      obtain ⟨X, HX, KX, A5', A6', A7', A8'⟩ := four_pol kc z5 z6 z7 z8 n56 n57 n58 n67 n68 n78 a5 a6 a7 a8
      have HKX : Hid (Kp W0 X) := HK1.out.trans KX
      have c5 := a5.all.1
      have c6 := a6.all.1
      have c7 := a7.all.1
      have c8 := a8.all.1
      have f5 := a5.fr 0
      have f6 := a6.fr 0
      have f7 := a7.fr 0
      have f8 := a8.fr 0
      have m56 := Ne.symm n56
      have m57 := Ne.symm n57
      have m58 := Ne.symm n58
      have m67 := Ne.symm n67
      have m68 := Ne.symm n68
      have m78 := Ne.symm n78
      clear a5 a6 a7 a8 z5 z6 z7 z8 kc KX
      go_upto_region 5 with fail
      rw [← HX.out]
      clear HX c5 c6 c7 c8 f5 f6 f7 f8 m56 m57 m58 m67 m68 m78 n56 n57 n58 n67 n68 n78 HSx
      have H5 : Hid (∀ W, Kp X W → W.cell? ⟨g5, 0, none⟩ = some (.int .i64 (a.pl 0).pol) ∧ W.cell? ⟨g5, 1, none⟩ = some (.int .i64 (a.pl 0).st) ∧ W.cell? ⟨g5, 2, none⟩ = some (.int .i64 (a.pl 0).lf) ∧ W.cell? ⟨g5, 3, none⟩ = some (.int .i64 (a.pl 0).sl) ∧ W.cell? ⟨g5, 4, none⟩ = some (.int .i64 (a.pl 0).lv)) := fun W q => (A5'.kp q).all
      have H6 : Hid (∀ W, Kp X W → W.cell? ⟨g6, 0, none⟩ = some (.int .i64 (a.pl 1).pol) ∧ W.cell? ⟨g6, 1, none⟩ = some (.int .i64 (a.pl 1).st) ∧ W.cell? ⟨g6, 2, none⟩ = some (.int .i64 (a.pl 1).lf) ∧ W.cell? ⟨g6, 3, none⟩ = some (.int .i64 (a.pl 1).sl) ∧ W.cell? ⟨g6, 4, none⟩ = some (.int .i64 (a.pl 1).lv)) := fun W q => (A6'.kp q).all
      have H7 : Hid (∀ W, Kp X W → W.cell? ⟨g7, 0, none⟩ = some (.int .i64 (a.pl 2).pol) ∧ W.cell? ⟨g7, 1, none⟩ = some (.int .i64 (a.pl 2).st) ∧ W.cell? ⟨g7, 2, none⟩ = some (.int .i64 (a.pl 2).lf) ∧ W.cell? ⟨g7, 3, none⟩ = some (.int .i64 (a.pl 2).sl) ∧ W.cell? ⟨g7, 4, none⟩ = some (.int .i64 (a.pl 2).lv)) := fun W q => (A7'.kp q).all
      have H8 : Hid (∀ W, Kp X W → W.cell? ⟨g8, 0, none⟩ = some (.int .i64 (a.pl 3).pol) ∧ W.cell? ⟨g8, 1, none⟩ = some (.int .i64 (a.pl 3).st) ∧ W.cell? ⟨g8, 2, none⟩ = some (.int .i64 (a.pl 3).lf) ∧ W.cell? ⟨g8, 3, none⟩ = some (.int .i64 (a.pl 3).sl) ∧ W.cell? ⟨g8, 4, none⟩ = some (.int .i64 (a.pl 3).lv)) := fun W q => (A8'.kp q).all
      have H9 : Hid (∀ W, Kp X W → W.cell? ⟨w.heap.size, 0, none⟩ = some (.slice m.aL m.lL m.cL) ∧ W.cell? ⟨w.heap.size, 1, none⟩ = some (.slice m.aS m.lS m.cS) ∧ W.cell? ⟨w.heap.size, 2, none⟩ = some (.slice m.aD m.lD m.cD) ∧ W.cell? ⟨w.heap.size, 3, none⟩ = some (.int .i64 m.idle) ∧ W.cell? ⟨w.heap.size, 4, none⟩ = some (.int .i64 m.crit) ∧ W.cell? ⟨w.heap.size, 5, none⟩ = some (.int .i64 m.sw) ∧ W.cell? ⟨w.heap.size, 6, none⟩ = some (.int .i64 m.swe) ∧ W.cell? ⟨w.heap.size, 7, none⟩ = some (.int .i64 m.sems) ∧ W.cell? ⟨w.heap.size, 8, none⟩ = some (.int .i64 m.hor)) := fun W q => (HP.out _ (HKX.out.trans q)).1.all
      have HA : Hid (∀ W, Kp X W → W.cell? ⟨w.heap.size + 1, 1, none⟩ = some (.int .i64 a.st)) := fun W q => (HP.out _ (HKX.out.trans q)).2.all.2.1
      have HC : Hid (∀ (p : Int) W, Kp X W → Calls Try.prog 10 #[m.v, (a.pl p).v] W fun e w' => e = .returned (.int .i64 (caN m (a.pl p) : Nat)) ∧ Kp W w') := fun p W q => lchoose_any m (a.pl p) W (HM.out.kept (HKX.out.trans q)) HB.out HL.out
      have HMx : Hid (∀ w, Calls Try.prog 13 #[.int .i64 a.st, .int .i64 0] w fun e w' => e = .returned (.int .i64 (mx a.st 0)) ∧ w = w') := fun w => rmax_at _ 0 w
      have HC5 : Hid (∀ W, Kp X W → Calls Try.prog 10 #[m.v, (a.pl 0).v] W fun e w' => e = .returned (.int .i64 0) ∧ Kp W w') := fun W q => by
        have y := HC.out 0 W q
        rw [show caN m (a.pl 0) = 0 from ch_full _ _ _ _ _] at y
        exact y
      have HC6 : Hid _ := HC.out 1
      have HC7 : Hid _ := HC.out 2
      have HC8 : Hid (∀ W, Kp X W → Calls Try.prog 10 #[m.v, (a.pl 3).v] W fun e w' => e = .returned (.int .i64 (caN m (a.pl 1) : Nat)) ∧ Kp W w') := fun W q => by
        have y := HC.out 3 W q
        rw [show caN m (a.pl 3) = caN m (a.pl 1) from ch_same _ _ _ _ _] at y
        exact y
      have hs : (caN m (a.pl 1) : Int) ≤ mx a.st 0 := ch_static HB.out.cr.1 _ _ _ _
      have hz : (caN m (a.pl 1) : Int) ≤ (caN m (a.pl 2) : Int) := by
        have := ch_lazy (m := m) HB.out.cr.1 a.st a.lf a.sl a.lv
        unfold caN Ak.pl; dsimp only; omega
      generalize caN m (a.pl 1) = n1 at *
      generalize caN m (a.pl 2) = n2 at *
      generalize mx a.st 0 = st0 at *
      clear HC A5' A6' A7' A8' HM HB HL HP
      unfold Mc.v Ak.v Ak.pl at *
      obtain ⟨p0, p1, p2, p3, p4, p5, p6, p7, p8⟩ := H9.out _ (Kp.refl _)
      obtain ⟨q0, q1, q2, q3, q4⟩ := H6.out _ (Kp.refl _)
      go_wp2_with fail
      refine Calls.mono (HC6.out _ (Kp.refl _)) ?_
      rintro e w2 ⟨rfl, k2⟩
      have HK2 : Hid (Kp X w2) := k2
      clear p0 p1 p2 p3 p4 p5 p6 p7 p8 q0 q1 q2 q3 q4 k2 HC6 H6
      go_wp2_with fail
      refine (ganswers_any _).mono ?_
      rintro e w3 ⟨rfl, k3⟩
      have HK3 : Hid (Kp X w3) := HK2.out.trans k3
      clear k3
      obtain ⟨p0, p1, p2, p3, p4, p5, p6, p7, p8⟩ := H9.out _ HK3.out
      obtain ⟨q0, q1, q2, q3, q4⟩ := H5.out _ HK3.out
      go_wp2_with fail
      refine Calls.mono (HC5.out _ HK3.out) ?_
      rintro e w4 ⟨rfl, k4⟩
      have HK4 : Hid (Kp X w4) := HK3.out.trans k4
      clear p0 p1 p2 p3 p4 p5 p6 p7 p8 q0 q1 q2 q3 q4 k4 HC5 H5
      obtain ⟨p0, p1, p2, p3, p4, p5, p6, p7, p8⟩ := H9.out _ HK4.out
      obtain ⟨q0, q1, q2, q3, q4⟩ := H8.out _ HK4.out
      go_wp2_with fail
      refine Calls.mono (HC8.out _ HK4.out) ?_
      rintro e w5 ⟨rfl, k5⟩
      have HK5 : Hid (Kp X w5) := HK4.out.trans k5
      clear p0 p1 p2 p3 p4 p5 p6 p7 p8 q0 q1 q2 q3 q4 k5 HC8 H8
      have sa := HA.out _ HK5.out
      obtain ⟨p0, p1, p2, p3, p4, p5, p6, p7, p8⟩ := H9.out _ HK5.out
      obtain ⟨q0, q1, q2, q3, q4⟩ := H7.out _ HK5.out
      go_wp2_with fail
      refine Calls.mono (HMx.out _) ?_
      rintro e w6 ⟨rfl, rfl⟩
      go_wp2_with fail
      refine Calls.mono (HC7.out _ HK5.out) ?_
      rintro e w7 ⟨rfl, k7⟩
      go_wp2
      go_ret
      exact ⟨by simp, HE.out _ (HK.out.trans (HKX.out.trans (HK5.out.trans k7)))⟩

theorem governPolicies_walk (aL : Option Addr) (lL cL : Nat) (rL : List (List Int)) (aS : Option Addr) (lS cS : Nat) (rS : List (List Int)) (aD : Option Addr) (lD cD : Nat) (rD : List (List Int)) (idle crit sw swe sems hor : Int) (a : Ak) (w : World)
    (hm : Mach w aL lL rL aS lS rS aD lD rD) (ha : I64 a.sl) :
    Calls Try.prog 7 #[pv aL lL cL aS lS cS aD lD cD idle crit sw swe sems hor, a.v] w fun e w' => e = .returned (.bool true) ∧ Below w.heap.size w w' :=
  governPolicies_go ⟨aL, lL, cL, rL, aS, lS, cS, rS, aD, lD, cD, rD, idle, crit, sw, swe, sems, hor⟩ a w hm ha

end Go.Proofs.Ytlhacdbeadchjaa.GV
