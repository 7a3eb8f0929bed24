/- What comes next, of the latch and of the statement's list: next. -/
import Derived.Test.YthhhakglchcfgaaLatTwin
import Derived.Deep.RegionHeld3
namespace Go.Proofs.Ythhhakglchcfgaa.LT
open Go.ChangeShapes Go.WideShapes Go.ChangeAt Go.RowKit Go.Proofs.Ythhhakglchcfgaa.HP Go.Maps Go.Proofs.Ythhhakglchcfgaa.HM Go.Proofs.Ythhhakglchcfgaa.HW Go.Proofs.Ythhhakglchcfgaa.AR

/-- nothing is due, or one is the first -/
theorem due_first {L : List T3} (now : Int) : (∀ t ∈ L, now < t.2.1) ∨ ∃ t, Least L t ∧ t.2.1 ≤ now := by
  by_cases hz : L = []
  · subst hz; exact .inl (fun t ht => by simp at ht)
  · obtain ⟨t, ht⟩ := HW.exists_least hz
    by_cases c : t.2.1 ≤ now
    · exact .inr ⟨t, ht, c⟩
    · refine .inl (fun u hu => ?_)
      have := ht.2 u hu
      rw [ltB_false] at this
      simp only [pr] at this
      omega

/-- what a Next makes of both -/
def Nxt (W : World) (M : List O4) (now : Int) (v' : Value) (w' : World) : Prop := ∃ M', Tw W w' v' M' (tl M') ∧ M'.length ≤ M.length ∧ ((M' = M ∧ ∀ i, i < M.length → now < (atO M i).2.2.1) ∨ (M'.length + 1 = M.length ∧ ∃ i, i < M.length ∧ (atO M i).2.2.1 ≤ now))

set_option maxRecDepth 100000 in
set_option maxHeartbeats 16000000 in
theorem next_any (W w : World) (v : Value) (M : List O4) (now : Int) (h : Tw W w v M (tl M)) (hl : M.length ≤ 4398046510976) :
    Calls Try.prog 10 #[.pointer (some ⟨W.heap.size, 0, none⟩), v, .int .i64 now] w fun e w' => ∃ v', e = .returned (.tuple #[v', .bool true]) ∧ Nxt W M now v' w' := by
  have hn := h.nodup
  obtain ⟨ao, cap, rfl, ha, hnc, hcm⟩ := h.shape
  obtain ⟨len, hlen⟩ : ∃ len, Hid (M.length = len) := ⟨_, rfl⟩
  rcases due_first (L := tl M) now with hnone | ⟨t, ht, hd⟩
  · rw [hlen.out] at ha hnc hl h
    go_enter Try.func10, Try.ntmps10
    try dsimp only [List.append]
    rw [hlen.out]
    go_wp2_with fail
    refine (next2_none W _ _ _ _ now h hnone).mono ?_
    rintro e w1 ⟨rfl, T1⟩
    obtain ⟨ao1, cap1, e1, ha1, _, _⟩ := T1.shape
    rw [hlen.out] at e1 ha1
    cases e1
    go_wp2_with fail
    refine (first_any ao len cap M now _ ha1 (by omega)).mono ?_
    rintro e w2 ⟨b, rfl, hF, s2⟩
    rcases hF with ⟨rfl, hF⟩ | ⟨j, hj, _, hjd, _⟩
    · have T2 : Hid (Tw W w2 (.slice ao len cap) M (tl M)) := T1.still s2
      have HF : Hid (∀ i, i < M.length → now < (atO M i).2.2.1) := by rw [hlen.out]; exact hF
      clear hnone hF ha1 ha T1 h
      go_wp2
      go_ret2
      exact ⟨_, rfl, M, T2.out, Nat.le_refl _, .inl ⟨rfl, HF.out⟩⟩
    · have := hnone (atO M j).2 (List.mem_map_of_mem (atO_mem (by rw [hlen.out]; exact hj)))
      omega
  · rw [hlen.out] at ha hnc hl h
    go_enter Try.func10, Try.ntmps10
    try dsimp only [List.append]
    rw [hlen.out]
    go_wp2_with fail
    refine (next2_some W _ _ _ _ t now h ht hd).mono ?_
    rintro e w1 ⟨rfl, T1⟩
    obtain ⟨ao1, cap1, e1, ha1, _, _⟩ := T1.shape
    rw [hlen.out] at e1 ha1
    cases e1
    go_wp2_with fail
    refine (first_any ao len cap M now _ ha1 (by omega)).mono ?_
    rintro e w2 ⟨b, rfl, hF, s2⟩
    have hq : ∃ j, j < len ∧ b = (j : Int) ∧ t = (atO M j).2 := by
      rcases hF with ⟨rfl, hF⟩ | ⟨j, hj, hb, hjd, hm⟩
      · have := fi_none (by rw [hlen.out]; exact hF) t ht.1
        omega
      · exact ⟨j, hj, hb, Least.uniq hn ht (fi_least (by rw [hlen.out]; exact hj) hjd (by rw [hlen.out]; exact hm))⟩
    obtain ⟨x, hx, rfl, rfl⟩ := hq
    have HD : Hid (∃ i, i < M.length ∧ (atO M i).2.2.1 ≤ now) := ⟨x, by rw [hlen.out]; exact hx, hd⟩
    clear hF hd ht
    have hxM : x < M.length := by rw [hlen.out]; exact hx
    have HT : Hid (tl (less M x) = dropT (tl M) (atO M x).2.1) := tl_less hxM hn
    have hLL : Hid ((less M x).length = x + (len - (x + 1))) := by show _ = _; rw [less_len hxM, hlen.out]
    have T2 := T1.still s2
    rw [← HT.out] at T2
    have HT2 : Hid (Tw W w2 (.slice ao len cap) M (tl (less M x))) := T2
    have HA : Hid (OAt w2 ao len M) := ha1.kept s2
    obtain ⟨b, off, rfl, hb, hc⟩ := (ha1.kept s2).pos (by omega)
    have cc := hc x hx
    have k0 := cc.k
    have k1 := cc.t
    have k2 := cc.a
    have k3 := cc.c
    obtain ⟨X, HX⟩ : ∃ X, Hid (X = w2.alloc (.cells #[.int .i64 (atO M x).1, .int .i64 (atO M x).2.1, .int .i64 (atO M x).2.2.1, .int .i64 (atO M x).2.2.2] 26)) := ⟨_, rfl⟩
    have KX : Step (fun _ => False) w2 X := by rw [HX.out]; exact (Step.refl _ _).alloc _
    have EX : X.heap[w2.heap.size]? = some (.cells #[.int .i64 (atO M x).1, .int .i64 (atO M x).2.1, .int .i64 (atO M x).2.2.1, .int .i64 (atO M x).2.2.2] 26 (0, 0)) := by rw [HX.out]; exact heap_alloc_new _ _
    have hbx := lt_of_block EX
    have HSx : Hid (∀ V, Step (fun _ => False) X V → V.cell? ⟨w2.heap.size, 1, none⟩ = some (.int .i64 (atO M x).2.1) ∧ V.cell? ⟨w2.heap.size, 2, none⟩ = some (.int .i64 (atO M x).2.2.1) ∧ V.cell? ⟨w2.heap.size, 3, none⟩ = some (.int .i64 (atO M x).2.2.2)) := fun V k => by
      have q := (k.block _ hbx (fun q => q)).trans EX
      simp [World.cell?, q]
    have HAX : Hid (OAt X (some ⟨b, off, none⟩) len M) := HA.out.kept KX
    have HTX : Hid (Tw W X (.slice (some ⟨b, off, none⟩) len cap) M (tl (less M x))) := HT2.out.still KX
    have HNA : Hid (∀ V, Step (fun _ => False) X V → ∀ ad, some (⟨b, off, none⟩ : Addr) = some ad → ∀ q u, (flatO (M.take x))[q]? = some u → V.cell? (ad.add q) = some u) := fun V k ad e q u hq => by
      cases e
      rcases (HAX.out.kept k).row with q0 | ⟨b', off', e', _, hcell⟩
      · omega
      · cases e'
        rw [WideShapes.add_plain]
        exact hcell q u (flatO_take M x q u hq)
    obtain ⟨i0, hi, hz0, hz1, hz2⟩ := info_parts op_info
    have HI : Hid (Try.prog.info? 26 = some i0 ∧ i0.zero = some (.agg #[.int .i64 0, .int .i64 0, .int .i64 0, .int .i64 0]) ∧ i0.size = 4 ∧ i0.bytes = 32) := ⟨hi, hz0, hz1, hz2⟩
    clear hi hz0 hz1 hz2 cc hc ha ha1 hn T1 T2 h HT HT2 HA
    have x0 : (0 : Int) ≤ (x : Int) := by omega
    have xn : (x : Int).toNat = x := by omega
    have x00 : ¬ (x : Int) < 0 := by omega
    have xlt : (x : Int) < (len : Int) := by omega
    go_wp2_with fail
    rw [← HX.out]
    clear HX k0 k1 k2 k3
    have hx1 : x ≤ cap := by omega
    have hx2 : x + 1 ≤ len := by omega
    have hx3 : x + 1 ≤ cap := by omega
    have hq1 : (0 : Int) ≤ (x : Int) + 1 := by omega
    have hq2 : (x : Int) + 1 ≤ (len : Int) := by omega
    have sw1 : IntKind.i64.wrap ((x : Int) + 1) = ((x + 1 : Nat) : Int) := by rw [HW.wrapI ⟨by omega, by omega⟩]; omega
    generalize atO M x = y at *
    obtain ⟨y0, y1, y2, y3⟩ := y
    simp only at HSx EX
    have b1 : (y1 == y1) = true := by simp
    have b2 : (y2 == y2) = true := by simp
    have b3 : (y3 == y3) = true := by simp
    by_cases hce : cap = x + 1
    · subst hce
      have hx1q : (x : Int) ≤ (x : Int) + 1 := by omega
      have HNB : Hid (∀ V, Step (fun _ => False) X V → ∀ ad, some (⟨b, off, none⟩ : Addr) = some ad → ∀ q u, (flatO (M.drop (x + 1)))[q]? = some u → V.cell? (ad.add q) = some u) := fun V k ad e q u hq => by
        have hl0 : (flatO (M.drop (x + 1))).length = 0 := by rw [flatO_len, List.length_drop, hlen.out]; omega
        rw [List.eq_nil_of_length_eq_zero hl0] at hq
        simp at hq
      clear hnc hx3
      refine wp_region_noPanic ?_
      refine wp_region_held_drew (S := fun w' => w'.cell? ⟨w2.heap.size, 1, none⟩ = some (.int .i64 y1) ∧ w'.cell? ⟨w2.heap.size, 2, none⟩ = some (.int .i64 y2) ∧ w'.cell? ⟨w2.heap.size, 3, none⟩ = some (.int .i64 y3)) (by kernel_rfl) ?_ (fun hHeld => ?_)
      · exact HSx.out _ (step_drew _)
      obtain ⟨V0, HV0⟩ : ∃ V0, Hid (V0 = X.drew) := ⟨_, rfl⟩
      have KW0 : Step (fun _ => False) X V0 := by rw [HV0.out]; exact step_drew _
      rw [← HV0.out]
      clear HV0
      have hHeld0 := HSx.out _ KW0
      refine wpAnyH_take (i := 1) (oi := Oper.mk (some 47) _ _ _ _ _) (v := ?v1p) rfl (by kernel_rfl) (by kernel_rfl) (by kernel_rfl) (fun _ _ _ h => h) (Or.inl ⟨by rfl, ?hy1p⟩) (by assumption) ?rest1p
      case hy1p => (intro w0 hSw; (try dsimp only at hSw); go_simp; try with_reducible rfl)
      try simp only [Act.put, List.setIfInBounds_toArray, List.set_cons_zero, List.set_cons_succ]
      refine wpAnyH_take (i := 2) (oi := Oper.mk (some 48) _ _ _ _ _) (v := ?v2p) rfl (by kernel_rfl) (by kernel_rfl) (by kernel_rfl) (fun _ _ _ h => h) (Or.inl ⟨by rfl, ?hy2p⟩) (by assumption) ?rest2p
      case hy2p => (intro w0 hSw; (try dsimp only at hSw); go_simp; try with_reducible rfl)
      try simp only [Act.put, List.setIfInBounds_toArray, List.set_cons_zero, List.set_cons_succ]
      refine wpAnyH_take (i := 3) (oi := Oper.mk (some 49) _ _ _ _ _) (v := ?v3p) rfl (by kernel_rfl) (by kernel_rfl) (by kernel_rfl) (fun _ _ _ h => h) (Or.inl ⟨by rfl, ?hy3p⟩) (by assumption) ?rest3p
      case hy3p => (intro w0 hSw; (try dsimp only at hSw); go_simp; try with_reducible rfl)
      try simp only [Act.put, List.setIfInBounds_toArray, List.set_cons_zero, List.set_cons_succ]
      refine wpAnyH_take (i := 5) (oi := Oper.mk (some 51) _ _ _ _ _) (v := ?v5p) rfl (by kernel_rfl) (by kernel_rfl) (by kernel_rfl) (fun _ _ _ h => h) (Or.inl ⟨by rfl, ?hy5p⟩) (by assumption) ?rest5p
      case hy5p => (intro w0 hSw; (try dsimp only at hSw); go_simp; try with_reducible rfl)
      try simp only [Act.put, List.setIfInBounds_toArray, List.set_cons_zero, List.set_cons_succ]
      refine wpAnyH_take (i := 6) (oi := Oper.mk (some 52) _ _ _ _ _) (v := ?v6p) rfl (by kernel_rfl) (by kernel_rfl) (by kernel_rfl) (fun _ _ _ h => h) (Or.inl ⟨by rfl, ?hy6p⟩) (by assumption) ?rest6p
      case hy6p => (intro w0 hSw; (try dsimp only at hSw); go_simp; try with_reducible rfl)
      try simp only [Act.put, List.setIfInBounds_toArray, List.set_cons_zero, List.set_cons_succ]
      refine wpAnyH_take (i := 7) (oi := Oper.mk (some 53) _ _ _ _ _) (v := ?v7p) rfl (by kernel_rfl) (by kernel_rfl) (by kernel_rfl) (fun _ _ _ h => h) (Or.inl ⟨by rfl, ?hy7p⟩) (by assumption) ?rest7p
      case hy7p => (intro w0 hSw; (try dsimp only at hSw); go_simp; try with_reducible rfl)
      try simp only [Act.put, List.setIfInBounds_toArray, List.set_cons_zero, List.set_cons_succ]
      refine wpAnyH_take (i := 8) (oi := Oper.mk (some 54) _ _ _ _ _) (v := ?v8p) rfl (by kernel_rfl) (by kernel_rfl) (by kernel_rfl) (fun _ _ _ h => h) (Or.inl ⟨by rfl, ?hy8p⟩) (by assumption) ?rest8p
      case hy8p => (intro w0 hSw; (try dsimp only at hSw); go_simp; try with_reducible rfl)
      try simp only [Act.put, List.setIfInBounds_toArray, List.set_cons_zero, List.set_cons_succ]
      refine wpAnyH_take (i := 10) (oi := Oper.mk (some 56) _ _ _ _ _) (v := ?v10p) rfl (by kernel_rfl) (by kernel_rfl) (by kernel_rfl) (fun _ _ _ h => h) (Or.inl ⟨by rfl, ?hy10p⟩) (by assumption) ?rest10p
      case hy10p => (intro w0 hSw; (try dsimp only at hSw); go_simp; try with_reducible rfl)
      try simp only [Act.put, List.setIfInBounds_toArray, List.set_cons_zero, List.set_cons_succ]
      refine wpAnyH_ready (rs := [0]) (by kernel_rfl) (by simp) ?_
      refine AllReadyH.cons (o := Oper.mk (some 46) _ _ _ _ _) rfl (fun K hK => ?_) AllReadyH.nil
      go_simp
      go_wp2_with fail
      obtain ⟨V1, HV1⟩ : ∃ V1, Hid (V1 = V0.alloc (.cells #[] 26)) := ⟨_, rfl⟩
      have KW1 : Step (fun _ => False) X V1 := by rw [HV1.out]; exact KW0.alloc _
      have B1 : V1.heap[V0.heap.size]? = some (.cells #[] 26 (0, 0)) := by rw [HV1.out]; exact heap_alloc_new _ _
      have hz : X.heap.size ≤ V0.heap.size := KW0.size
      have R1 : V1.ownsRow X.heap.size 26 4 (.slice (some ⟨V0.heap.size, 0, none⟩) 0 0) 0 [] := own_nought _ hz B1
      rw [← HV1.out]
      clear HV1
      refine hK.out _ _ ?_ (fun hHeld => ?_)
      · exact HSx.out _ KW1
      clear hK K
      try simp only [Act.put, List.setIfInBounds_toArray, List.set_cons_zero, List.set_cons_succ]
      refine wpAnyH_ready (rs := [4]) (by kernel_rfl) (by simp) ?_
      refine AllReadyH.cons (o := Oper.mk (some 50) _ _ _ _ _) rfl (fun K hK => ?_) AllReadyH.nil
      refine step_append_list V1 rfl _ _ 22 rfl X.heap.size 26 i0 _ 4 32 Try.underlying22 HI.out.1 HI.out.2.1 HI.out.2.2.1 HI.out.2.2.2 (by rfl) (by decide) V0.heap.size 0 0 [] rfl R1 (some ⟨b, off, none⟩) x (x + 1) (flatO (M.take x)) rfl (by rw [flatO_len, List.length_take, hlen.out]; omega) (fun q => by cases q) (HNA.out _ KW1) (flatO_one _) (by unfold maxLen; omega) (by omega) KW1.size ?_
      intro g1 cap1 V2 R2 hg2
      simp only [Nat.zero_add, List.nil_append] at R2 ⊢
      have KW2 : Step (fun _ => False) X V2 := step_grown KW1 hg2 hz
      refine hK.out _ _ ?_ (fun hHeld => ?_)
      · exact HSx.out _ KW2
      clear hK K
      try simp only [Act.put, List.setIfInBounds_toArray, List.set_cons_zero, List.set_cons_succ]
      refine wpAnyH_ready (rs := [9]) (by kernel_rfl) (by simp) ?_
      refine AllReadyH.cons (o := Oper.mk (some 55) _ _ _ _ _) rfl (fun K hK => ?_) AllReadyH.nil
      have hg1 : X.heap.size ≤ g1 := own_base R2
      refine step_append_list V2 rfl _ _ 22 rfl X.heap.size 26 i0 _ 4 32 Try.underlying22 HI.out.1 HI.out.2.1 HI.out.2.2.1 HI.out.2.2.2 (by rfl) (by decide) g1 x cap1 (flatO (M.take x)) rfl R2 (some ⟨b, off, none⟩) (len - (x + 1)) 0 (flatO (M.drop (x + 1))) rfl (by rw [flatO_len, List.length_drop, hlen.out]) (fun q => by cases q) (HNB.out _ KW2) (flatO_one _) (by unfold maxLen; omega) (by omega) KW2.size ?_
      intro g2 cap2 V3 R3 hg3
      rw [← flatO_append] at R3
      have KW3 : Step (fun _ => False) X V3 := step_grown KW2 hg3 hg1
      have HR3 : Hid (LsO V3 X.heap.size (.slice (some ⟨g2, 0, none⟩) (x + (len - (x + 1))) cap2) (less M x)) := ⟨by rw [hLL.out]; exact R3, by rw [hLL.out]; omega⟩
      have T3' : Hid (Tw W V3 (.slice (some ⟨g2, 0, none⟩) (x + (len - (x + 1))) cap2) (less M x) (tl (less M x))) := HTX.out.list HR3.out KW3
      clear R3 hg3 R2 hg2 R1 B1 KW0 KW1 KW2 hz hg1
      refine hK.out _ _ ?_ (fun hHeld => ?_)
      · exact HSx.out _ KW3
      clear hK K
      try simp only [Act.put, List.setIfInBounds_toArray, List.set_cons_zero, List.set_cons_succ]
      refine wpAnyH_take (i := 11) (oi := Oper.mk (some 57) _ _ _ _ _) (v := ?v11p) rfl (by kernel_rfl) (by kernel_rfl) (by kernel_rfl) (fun _ _ _ h => h) (Or.inl ⟨by rfl, ?hy11p⟩) (by assumption) ?rest11p
      case hy11p => (intro w0 hSw; (try dsimp only at hSw); go_simp; try with_reducible rfl)
      try simp only [Act.put, List.setIfInBounds_toArray, List.set_cons_zero, List.set_cons_succ]
      refine wpAnyH_take (i := 12) (oi := Oper.mk (some 58) _ _ _ _ _) (v := ?v12p) rfl (by kernel_rfl) (by kernel_rfl) (by kernel_rfl) (fun _ _ _ h => h) (Or.inl ⟨by rfl, ?hy12p⟩) (by assumption) ?rest12p
      case hy12p => (intro w0 hSw; (try dsimp only at hSw); go_simp; try with_reducible rfl)
      try simp only [Act.put, List.setIfInBounds_toArray, List.set_cons_zero, List.set_cons_succ]
      refine wpAnyH_take (i := 13) (oi := Oper.mk (some 59) _ _ _ _ _) (v := ?v13p) rfl (by kernel_rfl) (by kernel_rfl) (by kernel_rfl) (fun _ _ _ h => h) (Or.inl ⟨by rfl, ?hy13p⟩) (by assumption) ?rest13p
      case hy13p => (intro w0 hSw; (try dsimp only at hSw); go_simp; try with_reducible rfl)
      try simp only [Act.put, List.setIfInBounds_toArray, List.set_cons_zero, List.set_cons_succ]
      refine wpAnyH_take (i := 14) (oi := Oper.mk (some 60) _ _ _ _ _) (v := ?v14p) rfl (by kernel_rfl) (by kernel_rfl) (by kernel_rfl) (fun _ _ _ h => h) (Or.inl ⟨by rfl, ?hy14p⟩) (by assumption) ?rest14p
      case hy14p => (intro w0 hSw; (try dsimp only at hSw); go_simp; try with_reducible rfl)
      try simp only [Act.put, List.setIfInBounds_toArray, List.set_cons_zero, List.set_cons_succ]
      refine wpAnyH_take (i := 15) (oi := Oper.mk (some 61) _ _ _ _ _) (v := ?v15p) rfl (by kernel_rfl) (by kernel_rfl) (by kernel_rfl) (fun _ _ _ h => h) (Or.inl ⟨by rfl, ?hy15p⟩) (by assumption) ?rest15p
      case hy15p => (intro w0 hSw; (try dsimp only at hSw); go_simp; try with_reducible rfl)
      try simp only [Act.put, List.setIfInBounds_toArray, List.set_cons_zero, List.set_cons_succ]
      refine wpAnyH_take (i := 16) (oi := Oper.mk (some 62) _ _ _ _ _) (v := ?v16p) rfl (by kernel_rfl) (by kernel_rfl) (by kernel_rfl) (fun _ _ _ h => h) (Or.inl ⟨by rfl, ?hy16p⟩) (by assumption) ?rest16p
      case hy16p => (intro w0 hSw; (try dsimp only at hSw); go_simp; try with_reducible rfl)
      try simp only [Act.put, List.setIfInBounds_toArray, List.set_cons_zero, List.set_cons_succ]
      refine wpAnyH_take (i := 17) (oi := Oper.mk (some 63) _ _ _ _ _) (v := ?v17p) rfl (by kernel_rfl) (by kernel_rfl) (by kernel_rfl) (fun _ _ _ h => h) (Or.inl ⟨by rfl, ?hy17p⟩) (by assumption) ?rest17p
      case hy17p => (intro w0 hSw; (try dsimp only at hSw); go_simp; try with_reducible rfl)
      try simp only [Act.put, List.setIfInBounds_toArray, List.set_cons_zero, List.set_cons_succ]
      refine wpAnyH_take (i := 18) (oi := Oper.mk (some 64) _ _ _ _ _) (v := ?v18p) rfl (by kernel_rfl) (by kernel_rfl) (by kernel_rfl) (fun _ _ _ h => h) (Or.inl ⟨by rfl, ?hy18p⟩) (by assumption) ?rest18p
      case hy18p => (intro w0 hSw; (try dsimp only at hSw); go_simp; try with_reducible rfl)
      try simp only [Act.put, List.setIfInBounds_toArray, List.set_cons_zero, List.set_cons_succ]
      refine wpAnyH_take (i := 19) (oi := Oper.mk (some 65) _ _ _ _ _) (v := ?v19p) rfl (by kernel_rfl) (by kernel_rfl) (by kernel_rfl) (fun _ _ _ h => h) (Or.inl ⟨by rfl, ?hy19p⟩) (by assumption) ?rest19p
      case hy19p => (intro w0 hSw; (try dsimp only at hSw); go_simp; try with_reducible rfl)
      try simp only [Act.put, List.setIfInBounds_toArray, List.set_cons_zero, List.set_cons_succ]
      refine wpAnyH_take (i := 20) (oi := Oper.mk (some 66) _ _ _ _ _) (v := ?v20p) rfl (by kernel_rfl) (by kernel_rfl) (by kernel_rfl) (fun _ _ _ h => h) (Or.inl ⟨by rfl, ?hy20p⟩) (by assumption) ?rest20p
      case hy20p => (intro w0 hSw; (try dsimp only at hSw); go_simp; try with_reducible rfl)
      try simp only [Act.put, List.setIfInBounds_toArray, List.set_cons_zero, List.set_cons_succ]
      refine wpAnyH_take (i := 21) (oi := Oper.mk (some 67) _ _ _ _ _) (v := ?v21p) rfl (by kernel_rfl) (by kernel_rfl) (by kernel_rfl) (fun _ _ _ h => h) (Or.inl ⟨by rfl, ?hy21p⟩) (by assumption) ?rest21p
      case hy21p => (intro w0 hSw; (try dsimp only at hSw); go_simp; try with_reducible rfl)
      try simp only [Act.put, List.setIfInBounds_toArray, List.set_cons_zero, List.set_cons_succ]
      refine wpAnyH_take (i := 22) (oi := Oper.mk (some 68) _ _ _ _ _) (v := ?v22p) rfl (by kernel_rfl) (by kernel_rfl) (by kernel_rfl) (fun _ _ _ h => h) (Or.inl ⟨by rfl, ?hy22p⟩) (by assumption) ?rest22p
      case hy22p => (intro w0 hSw; (try dsimp only at hSw); go_simp; try with_reducible rfl)
      try simp only [Act.put, List.setIfInBounds_toArray, List.set_cons_zero, List.set_cons_succ]
      refine wpAnyH_take (i := 23) (oi := Oper.mk (some 69) _ _ _ _ _) (v := ?v23p) rfl (by kernel_rfl) (by kernel_rfl) (by kernel_rfl) (fun _ _ _ h => h) (Or.inl ⟨by rfl, ?hy23p⟩) (by assumption) ?rest23p
      case hy23p => (intro w0 hSw; (try dsimp only at hSw); go_simp; try with_reducible rfl)
      try simp only [Act.put, List.setIfInBounds_toArray, List.set_cons_zero, List.set_cons_succ]
      refine wpAnyH_take (i := 24) (oi := Oper.mk (some 70) _ _ _ _ _) (v := ?v24p) rfl (by kernel_rfl) (by kernel_rfl) (by kernel_rfl) (fun _ _ _ h => h) (Or.inl ⟨by rfl, ?hy24p⟩) (by assumption) ?rest24p
      case hy24p => (intro w0 hSw; (try dsimp only at hSw); go_simp; try with_reducible rfl)
      try simp only [Act.put, List.setIfInBounds_toArray, List.set_cons_zero, List.set_cons_succ]
      refine wpAnyH_take (i := 25) (oi := Oper.mk (some 71) _ _ _ _ _) (v := ?v25p) rfl (by kernel_rfl) (by kernel_rfl) (by kernel_rfl) (fun _ _ _ h => h) (Or.inl ⟨by rfl, ?hy25p⟩) (by assumption) ?rest25p
      case hy25p => (intro w0 hSw; (try dsimp only at hSw); go_simp; try with_reducible rfl)
      try simp only [Act.put, List.setIfInBounds_toArray, List.set_cons_zero, List.set_cons_succ]
      refine wpAnyH_take (i := 26) (oi := Oper.mk (some 72) _ _ _ _ _) (v := ?v26p) rfl (by kernel_rfl) (by kernel_rfl) (by kernel_rfl) (fun _ _ _ h => h) (Or.inl ⟨by rfl, ?hy26p⟩) (by assumption) ?rest26p
      case hy26p => (intro w0 hSw; (try dsimp only at hSw); go_simp; try with_reducible rfl)
      try simp only [Act.put, List.setIfInBounds_toArray, List.set_cons_zero, List.set_cons_succ]
      refine wpAnyH_take (i := 27) (oi := Oper.mk (some 73) _ _ _ _ _) (v := ?v27p) rfl (by kernel_rfl) (by kernel_rfl) (by kernel_rfl) (fun _ _ _ h => h) (Or.inl ⟨by rfl, ?hy27p⟩) (by assumption) ?rest27p
      case hy27p => (intro w0 hSw; (try dsimp only at hSw); go_simp; try with_reducible rfl)
      try simp only [Act.put, List.setIfInBounds_toArray, List.set_cons_zero, List.set_cons_succ]
      refine wpAnyH_take (i := 28) (oi := Oper.mk (some 74) _ _ _ _ _) (v := ?v28p) rfl (by kernel_rfl) (by kernel_rfl) (by kernel_rfl) (fun _ _ _ h => h) (Or.inl ⟨by rfl, ?hy28p⟩) (by assumption) ?rest28p
      case hy28p => (intro w0 hSw; (try dsimp only at hSw); go_simp; try with_reducible rfl)
      try simp only [Act.put, List.setIfInBounds_toArray, List.set_cons_zero, List.set_cons_succ]
      refine wpAnyH_take (i := 29) (oi := Oper.mk (some 6) _ _ _ _ _) (v := ?v29p) rfl (by kernel_rfl) (by kernel_rfl) (by kernel_rfl) (fun _ _ _ h => h) (Or.inl ⟨by rfl, ?hy29p⟩) (by assumption) ?rest29p
      case hy29p => (intro w0 hSw; (try dsimp only at hSw); go_simp; try with_reducible rfl)
      try simp only [Act.put, List.setIfInBounds_toArray, List.set_cons_zero, List.set_cons_succ]
      refine wpAnyH_take (i := 30) (oi := Oper.mk (some 7) _ _ _ _ _) (v := ?v30p) rfl (by kernel_rfl) (by kernel_rfl) (by kernel_rfl) (fun _ _ _ h => h) (Or.inl ⟨by rfl, ?hy30p⟩) (by assumption) ?rest30p
      case hy30p => (intro w0 hSw; (try dsimp only at hSw); go_simp; try with_reducible rfl)
      try simp only [Act.put, List.setIfInBounds_toArray, List.set_cons_zero, List.set_cons_succ]
      refine wpAnyH_done (by kernel_rfl) ?_ _
      refine NoPanic.normal ?_
      go_wp2
      go_ret2
      exact ⟨_, rfl, less M x, T3'.out, by rw [hLL.out, hlen.out]; omega, .inr ⟨by rw [hLL.out, hlen.out]; omega, HD.out⟩⟩
    · have HNB : Hid (∀ V, Step (fun _ => False) X V → ∀ ad, some (⟨b, off + (x + 1) * 4, none⟩ : Addr) = some ad → ∀ q u, (flatO (M.drop (x + 1)))[q]? = some u → V.cell? (ad.add q) = some u) := fun V k ad e q u hq => by
        cases e
        rcases (HAX.out.kept k).row with q0 | ⟨b', off', e', _, hcell⟩
        · omega
        · cases e'
          rw [WideShapes.add_plain, Nat.add_assoc]
          exact hcell _ u (flatO_drop M (x + 1) (by rw [hlen.out]; exact hx2) q u hq)
      refine wp_region_noPanic ?_
      refine wp_region_held_drew (S := fun w' => w'.cell? ⟨w2.heap.size, 1, none⟩ = some (.int .i64 y1) ∧ w'.cell? ⟨w2.heap.size, 2, none⟩ = some (.int .i64 y2) ∧ w'.cell? ⟨w2.heap.size, 3, none⟩ = some (.int .i64 y3)) (by kernel_rfl) ?_ (fun hHeld => ?_)
      · exact HSx.out _ (step_drew _)
      obtain ⟨V0, HV0⟩ : ∃ V0, Hid (V0 = X.drew) := ⟨_, rfl⟩
      have KW0 : Step (fun _ => False) X V0 := by rw [HV0.out]; exact step_drew _
      rw [← HV0.out]
      clear HV0
      have hHeld0 := HSx.out _ KW0
      refine wpAnyH_take (i := 1) (oi := Oper.mk (some 47) _ _ _ _ _) (v := ?v1q) rfl (by kernel_rfl) (by kernel_rfl) (by kernel_rfl) (fun _ _ _ h => h) (Or.inl ⟨by rfl, ?hy1q⟩) (by assumption) ?rest1q
      case hy1q => (intro w0 hSw; (try dsimp only at hSw); go_simp; try with_reducible rfl)
      try simp only [Act.put, List.setIfInBounds_toArray, List.set_cons_zero, List.set_cons_succ]
      refine wpAnyH_take (i := 2) (oi := Oper.mk (some 48) _ _ _ _ _) (v := ?v2q) rfl (by kernel_rfl) (by kernel_rfl) (by kernel_rfl) (fun _ _ _ h => h) (Or.inl ⟨by rfl, ?hy2q⟩) (by assumption) ?rest2q
      case hy2q => (intro w0 hSw; (try dsimp only at hSw); go_simp; try with_reducible rfl)
      try simp only [Act.put, List.setIfInBounds_toArray, List.set_cons_zero, List.set_cons_succ]
      refine wpAnyH_take (i := 3) (oi := Oper.mk (some 49) _ _ _ _ _) (v := ?v3q) rfl (by kernel_rfl) (by kernel_rfl) (by kernel_rfl) (fun _ _ _ h => h) (Or.inl ⟨by rfl, ?hy3q⟩) (by assumption) ?rest3q
      case hy3q => (intro w0 hSw; (try dsimp only at hSw); go_simp; try with_reducible rfl)
      try simp only [Act.put, List.setIfInBounds_toArray, List.set_cons_zero, List.set_cons_succ]
      refine wpAnyH_take (i := 5) (oi := Oper.mk (some 51) _ _ _ _ _) (v := ?v5q) rfl (by kernel_rfl) (by kernel_rfl) (by kernel_rfl) (fun _ _ _ h => h) (Or.inl ⟨by rfl, ?hy5q⟩) (by assumption) ?rest5q
      case hy5q => (intro w0 hSw; (try dsimp only at hSw); go_simp; try with_reducible rfl)
      try simp only [Act.put, List.setIfInBounds_toArray, List.set_cons_zero, List.set_cons_succ]
      refine wpAnyH_take (i := 6) (oi := Oper.mk (some 52) _ _ _ _ _) (v := ?v6q) rfl (by kernel_rfl) (by kernel_rfl) (by kernel_rfl) (fun _ _ _ h => h) (Or.inl ⟨by rfl, ?hy6q⟩) (by assumption) ?rest6q
      case hy6q => (intro w0 hSw; (try dsimp only at hSw); go_simp; try with_reducible rfl)
      try simp only [Act.put, List.setIfInBounds_toArray, List.set_cons_zero, List.set_cons_succ]
      refine wpAnyH_take (i := 7) (oi := Oper.mk (some 53) _ _ _ _ _) (v := ?v7q) rfl (by kernel_rfl) (by kernel_rfl) (by kernel_rfl) (fun _ _ _ h => h) (Or.inl ⟨by rfl, ?hy7q⟩) (by assumption) ?rest7q
      case hy7q => (intro w0 hSw; (try dsimp only at hSw); go_simp; try with_reducible rfl)
      try simp only [Act.put, List.setIfInBounds_toArray, List.set_cons_zero, List.set_cons_succ]
      refine wpAnyH_take (i := 8) (oi := Oper.mk (some 54) _ _ _ _ _) (v := ?v8q) rfl (by kernel_rfl) (by kernel_rfl) (by kernel_rfl) (fun _ _ _ h => h) (Or.inl ⟨by rfl, ?hy8q⟩) (by assumption) ?rest8q
      case hy8q => (intro w0 hSw; (try dsimp only at hSw); go_simp; try with_reducible rfl)
      try simp only [Act.put, List.setIfInBounds_toArray, List.set_cons_zero, List.set_cons_succ]
      refine wpAnyH_take (i := 10) (oi := Oper.mk (some 56) _ _ _ _ _) (v := ?v10q) rfl (by kernel_rfl) (by kernel_rfl) (by kernel_rfl) (fun _ _ _ h => h) (Or.inl ⟨by rfl, ?hy10q⟩) (by assumption) ?rest10q
      case hy10q => (intro w0 hSw; (try dsimp only at hSw); go_simp; try with_reducible rfl)
      try simp only [Act.put, List.setIfInBounds_toArray, List.set_cons_zero, List.set_cons_succ]
      refine wpAnyH_ready (rs := [0]) (by kernel_rfl) (by simp) ?_
      refine AllReadyH.cons (o := Oper.mk (some 46) _ _ _ _ _) rfl (fun K hK => ?_) AllReadyH.nil
      go_simp
      go_wp2_with fail
      obtain ⟨V1, HV1⟩ : ∃ V1, Hid (V1 = V0.alloc (.cells #[] 26)) := ⟨_, rfl⟩
      have KW1 : Step (fun _ => False) X V1 := by rw [HV1.out]; exact KW0.alloc _
      have B1 : V1.heap[V0.heap.size]? = some (.cells #[] 26 (0, 0)) := by rw [HV1.out]; exact heap_alloc_new _ _
      have hz : X.heap.size ≤ V0.heap.size := KW0.size
      have R1 : V1.ownsRow X.heap.size 26 4 (.slice (some ⟨V0.heap.size, 0, none⟩) 0 0) 0 [] := own_nought _ hz B1
      rw [← HV1.out]
      clear HV1
      refine hK.out _ _ ?_ (fun hHeld => ?_)
      · exact HSx.out _ KW1
      clear hK K
      try simp only [Act.put, List.setIfInBounds_toArray, List.set_cons_zero, List.set_cons_succ]
      refine wpAnyH_ready (rs := [4]) (by kernel_rfl) (by simp) ?_
      refine AllReadyH.cons (o := Oper.mk (some 50) _ _ _ _ _) rfl (fun K hK => ?_) AllReadyH.nil
      refine step_append_list V1 rfl _ _ 22 rfl X.heap.size 26 i0 _ 4 32 Try.underlying22 HI.out.1 HI.out.2.1 HI.out.2.2.1 HI.out.2.2.2 (by rfl) (by decide) V0.heap.size 0 0 [] rfl R1 (some ⟨b, off, none⟩) x cap (flatO (M.take x)) rfl (by rw [flatO_len, List.length_take, hlen.out]; omega) (fun q => by cases q) (HNA.out _ KW1) (flatO_one _) (by unfold maxLen; omega) (by omega) KW1.size ?_
      intro g1 cap1 V2 R2 hg2
      simp only [Nat.zero_add, List.nil_append] at R2 ⊢
      have KW2 : Step (fun _ => False) X V2 := step_grown KW1 hg2 hz
      refine hK.out _ _ ?_ (fun hHeld => ?_)
      · exact HSx.out _ KW2
      clear hK K
      try simp only [Act.put, List.setIfInBounds_toArray, List.set_cons_zero, List.set_cons_succ]
      refine wpAnyH_ready (rs := [9]) (by kernel_rfl) (by simp) ?_
      refine AllReadyH.cons (o := Oper.mk (some 55) _ _ _ _ _) rfl (fun K hK => ?_) AllReadyH.nil
      have hg1 : X.heap.size ≤ g1 := own_base R2
      refine step_append_list V2 rfl _ _ 22 rfl X.heap.size 26 i0 _ 4 32 Try.underlying22 HI.out.1 HI.out.2.1 HI.out.2.2.1 HI.out.2.2.2 (by rfl) (by decide) g1 x cap1 (flatO (M.take x)) rfl R2 (some ⟨b, off + (x + 1) * 4, none⟩) (len - (x + 1)) (cap - (x + 1)) (flatO (M.drop (x + 1))) rfl (by rw [flatO_len, List.length_drop, hlen.out]) (fun q => by cases q) (HNB.out _ KW2) (flatO_one _) (by unfold maxLen; omega) (by omega) KW2.size ?_
      intro g2 cap2 V3 R3 hg3
      rw [← flatO_append] at R3
      have KW3 : Step (fun _ => False) X V3 := step_grown KW2 hg3 hg1
      have HR3 : Hid (LsO V3 X.heap.size (.slice (some ⟨g2, 0, none⟩) (x + (len - (x + 1))) cap2) (less M x)) := ⟨by rw [hLL.out]; exact R3, by rw [hLL.out]; omega⟩
      have T3' : Hid (Tw W V3 (.slice (some ⟨g2, 0, none⟩) (x + (len - (x + 1))) cap2) (less M x) (tl (less M x))) := HTX.out.list HR3.out KW3
      clear R3 hg3 R2 hg2 R1 B1 KW0 KW1 KW2 hz hg1
      refine hK.out _ _ ?_ (fun hHeld => ?_)
      · exact HSx.out _ KW3
      clear hK K
      try simp only [Act.put, List.setIfInBounds_toArray, List.set_cons_zero, List.set_cons_succ]
      refine wpAnyH_take (i := 11) (oi := Oper.mk (some 57) _ _ _ _ _) (v := ?v11q) rfl (by kernel_rfl) (by kernel_rfl) (by kernel_rfl) (fun _ _ _ h => h) (Or.inl ⟨by rfl, ?hy11q⟩) (by assumption) ?rest11q
      case hy11q => (intro w0 hSw; (try dsimp only at hSw); go_simp; try with_reducible rfl)
      try simp only [Act.put, List.setIfInBounds_toArray, List.set_cons_zero, List.set_cons_succ]
      refine wpAnyH_take (i := 12) (oi := Oper.mk (some 58) _ _ _ _ _) (v := ?v12q) rfl (by kernel_rfl) (by kernel_rfl) (by kernel_rfl) (fun _ _ _ h => h) (Or.inl ⟨by rfl, ?hy12q⟩) (by assumption) ?rest12q
      case hy12q => (intro w0 hSw; (try dsimp only at hSw); go_simp; try with_reducible rfl)
      try simp only [Act.put, List.setIfInBounds_toArray, List.set_cons_zero, List.set_cons_succ]
      refine wpAnyH_take (i := 13) (oi := Oper.mk (some 59) _ _ _ _ _) (v := ?v13q) rfl (by kernel_rfl) (by kernel_rfl) (by kernel_rfl) (fun _ _ _ h => h) (Or.inl ⟨by rfl, ?hy13q⟩) (by assumption) ?rest13q
      case hy13q => (intro w0 hSw; (try dsimp only at hSw); go_simp; try with_reducible rfl)
      try simp only [Act.put, List.setIfInBounds_toArray, List.set_cons_zero, List.set_cons_succ]
      refine wpAnyH_take (i := 14) (oi := Oper.mk (some 60) _ _ _ _ _) (v := ?v14q) rfl (by kernel_rfl) (by kernel_rfl) (by kernel_rfl) (fun _ _ _ h => h) (Or.inl ⟨by rfl, ?hy14q⟩) (by assumption) ?rest14q
      case hy14q => (intro w0 hSw; (try dsimp only at hSw); go_simp; try with_reducible rfl)
      try simp only [Act.put, List.setIfInBounds_toArray, List.set_cons_zero, List.set_cons_succ]
      refine wpAnyH_take (i := 15) (oi := Oper.mk (some 61) _ _ _ _ _) (v := ?v15q) rfl (by kernel_rfl) (by kernel_rfl) (by kernel_rfl) (fun _ _ _ h => h) (Or.inl ⟨by rfl, ?hy15q⟩) (by assumption) ?rest15q
      case hy15q => (intro w0 hSw; (try dsimp only at hSw); go_simp; try with_reducible rfl)
      try simp only [Act.put, List.setIfInBounds_toArray, List.set_cons_zero, List.set_cons_succ]
      refine wpAnyH_take (i := 16) (oi := Oper.mk (some 62) _ _ _ _ _) (v := ?v16q) rfl (by kernel_rfl) (by kernel_rfl) (by kernel_rfl) (fun _ _ _ h => h) (Or.inl ⟨by rfl, ?hy16q⟩) (by assumption) ?rest16q
      case hy16q => (intro w0 hSw; (try dsimp only at hSw); go_simp; try with_reducible rfl)
      try simp only [Act.put, List.setIfInBounds_toArray, List.set_cons_zero, List.set_cons_succ]
      refine wpAnyH_take (i := 17) (oi := Oper.mk (some 63) _ _ _ _ _) (v := ?v17q) rfl (by kernel_rfl) (by kernel_rfl) (by kernel_rfl) (fun _ _ _ h => h) (Or.inl ⟨by rfl, ?hy17q⟩) (by assumption) ?rest17q
      case hy17q => (intro w0 hSw; (try dsimp only at hSw); go_simp; try with_reducible rfl)
      try simp only [Act.put, List.setIfInBounds_toArray, List.set_cons_zero, List.set_cons_succ]
      refine wpAnyH_take (i := 18) (oi := Oper.mk (some 64) _ _ _ _ _) (v := ?v18q) rfl (by kernel_rfl) (by kernel_rfl) (by kernel_rfl) (fun _ _ _ h => h) (Or.inl ⟨by rfl, ?hy18q⟩) (by assumption) ?rest18q
      case hy18q => (intro w0 hSw; (try dsimp only at hSw); go_simp; try with_reducible rfl)
      try simp only [Act.put, List.setIfInBounds_toArray, List.set_cons_zero, List.set_cons_succ]
      refine wpAnyH_take (i := 19) (oi := Oper.mk (some 65) _ _ _ _ _) (v := ?v19q) rfl (by kernel_rfl) (by kernel_rfl) (by kernel_rfl) (fun _ _ _ h => h) (Or.inl ⟨by rfl, ?hy19q⟩) (by assumption) ?rest19q
      case hy19q => (intro w0 hSw; (try dsimp only at hSw); go_simp; try with_reducible rfl)
      try simp only [Act.put, List.setIfInBounds_toArray, List.set_cons_zero, List.set_cons_succ]
      refine wpAnyH_take (i := 20) (oi := Oper.mk (some 66) _ _ _ _ _) (v := ?v20q) rfl (by kernel_rfl) (by kernel_rfl) (by kernel_rfl) (fun _ _ _ h => h) (Or.inl ⟨by rfl, ?hy20q⟩) (by assumption) ?rest20q
      case hy20q => (intro w0 hSw; (try dsimp only at hSw); go_simp; try with_reducible rfl)
      try simp only [Act.put, List.setIfInBounds_toArray, List.set_cons_zero, List.set_cons_succ]
      refine wpAnyH_take (i := 21) (oi := Oper.mk (some 67) _ _ _ _ _) (v := ?v21q) rfl (by kernel_rfl) (by kernel_rfl) (by kernel_rfl) (fun _ _ _ h => h) (Or.inl ⟨by rfl, ?hy21q⟩) (by assumption) ?rest21q
      case hy21q => (intro w0 hSw; (try dsimp only at hSw); go_simp; try with_reducible rfl)
      try simp only [Act.put, List.setIfInBounds_toArray, List.set_cons_zero, List.set_cons_succ]
      refine wpAnyH_take (i := 22) (oi := Oper.mk (some 68) _ _ _ _ _) (v := ?v22q) rfl (by kernel_rfl) (by kernel_rfl) (by kernel_rfl) (fun _ _ _ h => h) (Or.inl ⟨by rfl, ?hy22q⟩) (by assumption) ?rest22q
      case hy22q => (intro w0 hSw; (try dsimp only at hSw); go_simp; try with_reducible rfl)
      try simp only [Act.put, List.setIfInBounds_toArray, List.set_cons_zero, List.set_cons_succ]
      refine wpAnyH_take (i := 23) (oi := Oper.mk (some 69) _ _ _ _ _) (v := ?v23q) rfl (by kernel_rfl) (by kernel_rfl) (by kernel_rfl) (fun _ _ _ h => h) (Or.inl ⟨by rfl, ?hy23q⟩) (by assumption) ?rest23q
      case hy23q => (intro w0 hSw; (try dsimp only at hSw); go_simp; try with_reducible rfl)
      try simp only [Act.put, List.setIfInBounds_toArray, List.set_cons_zero, List.set_cons_succ]
      refine wpAnyH_take (i := 24) (oi := Oper.mk (some 70) _ _ _ _ _) (v := ?v24q) rfl (by kernel_rfl) (by kernel_rfl) (by kernel_rfl) (fun _ _ _ h => h) (Or.inl ⟨by rfl, ?hy24q⟩) (by assumption) ?rest24q
      case hy24q => (intro w0 hSw; (try dsimp only at hSw); go_simp; try with_reducible rfl)
      try simp only [Act.put, List.setIfInBounds_toArray, List.set_cons_zero, List.set_cons_succ]
      refine wpAnyH_take (i := 25) (oi := Oper.mk (some 71) _ _ _ _ _) (v := ?v25q) rfl (by kernel_rfl) (by kernel_rfl) (by kernel_rfl) (fun _ _ _ h => h) (Or.inl ⟨by rfl, ?hy25q⟩) (by assumption) ?rest25q
      case hy25q => (intro w0 hSw; (try dsimp only at hSw); go_simp; try with_reducible rfl)
      try simp only [Act.put, List.setIfInBounds_toArray, List.set_cons_zero, List.set_cons_succ]
      refine wpAnyH_take (i := 26) (oi := Oper.mk (some 72) _ _ _ _ _) (v := ?v26q) rfl (by kernel_rfl) (by kernel_rfl) (by kernel_rfl) (fun _ _ _ h => h) (Or.inl ⟨by rfl, ?hy26q⟩) (by assumption) ?rest26q
      case hy26q => (intro w0 hSw; (try dsimp only at hSw); go_simp; try with_reducible rfl)
      try simp only [Act.put, List.setIfInBounds_toArray, List.set_cons_zero, List.set_cons_succ]
      refine wpAnyH_take (i := 27) (oi := Oper.mk (some 73) _ _ _ _ _) (v := ?v27q) rfl (by kernel_rfl) (by kernel_rfl) (by kernel_rfl) (fun _ _ _ h => h) (Or.inl ⟨by rfl, ?hy27q⟩) (by assumption) ?rest27q
      case hy27q => (intro w0 hSw; (try dsimp only at hSw); go_simp; try with_reducible rfl)
      try simp only [Act.put, List.setIfInBounds_toArray, List.set_cons_zero, List.set_cons_succ]
      refine wpAnyH_take (i := 28) (oi := Oper.mk (some 74) _ _ _ _ _) (v := ?v28q) rfl (by kernel_rfl) (by kernel_rfl) (by kernel_rfl) (fun _ _ _ h => h) (Or.inl ⟨by rfl, ?hy28q⟩) (by assumption) ?rest28q
      case hy28q => (intro w0 hSw; (try dsimp only at hSw); go_simp; try with_reducible rfl)
      try simp only [Act.put, List.setIfInBounds_toArray, List.set_cons_zero, List.set_cons_succ]
      refine wpAnyH_take (i := 29) (oi := Oper.mk (some 6) _ _ _ _ _) (v := ?v29q) rfl (by kernel_rfl) (by kernel_rfl) (by kernel_rfl) (fun _ _ _ h => h) (Or.inl ⟨by rfl, ?hy29q⟩) (by assumption) ?rest29q
      case hy29q => (intro w0 hSw; (try dsimp only at hSw); go_simp; try with_reducible rfl)
      try simp only [Act.put, List.setIfInBounds_toArray, List.set_cons_zero, List.set_cons_succ]
      refine wpAnyH_take (i := 30) (oi := Oper.mk (some 7) _ _ _ _ _) (v := ?v30q) rfl (by kernel_rfl) (by kernel_rfl) (by kernel_rfl) (fun _ _ _ h => h) (Or.inl ⟨by rfl, ?hy30q⟩) (by assumption) ?rest30q
      case hy30q => (intro w0 hSw; (try dsimp only at hSw); go_simp; try with_reducible rfl)
      try simp only [Act.put, List.setIfInBounds_toArray, List.set_cons_zero, List.set_cons_succ]
      refine wpAnyH_done (by kernel_rfl) ?_ _
      refine NoPanic.normal ?_
      go_wp2
      go_ret2
      exact ⟨_, rfl, less M x, T3'.out, by rw [hLL.out, hlen.out]; omega, .inr ⟨by rw [hLL.out, hlen.out]; omega, HD.out⟩⟩

end Go.Proofs.Ythhhakglchcfgaa.LT
