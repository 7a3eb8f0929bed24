/- What the statements ask of every program: that it answers at all. -/
import Derived.Test.YtgecandbbmljbaaAdmSum
namespace Go.Proofs.Ytgecandbbmljbaa.AD
open Go.ChangeShapes Go.WideShapes Go.ChangeAt Go.RowKit Go.Proofs.Ytgecandbbmljbaa.AR Go.Proofs.Ytgecandbbmljbaa.TB Go.Proofs.Ytgecandbbmljbaa.TK Go.Proofs.Ytgecandbbmljbaa.FX

/-- the machine and the task that are asked -/
abbrev aM (h : Nat) : Mc := ⟨some ⟨h, 0, none⟩, 1, 1, [[1, 0]], none, 0, 0, [], none, 0, 0, [], 0, 0, 0, 0, 0, 50⟩
abbrev aT : Tk := ⟨4, 3, none, 0, 0, [], none, 0, 0, []⟩

theorem ans_bd (h : Nat) : Bd (aM h) := by
  refine ⟨by simp, fun i hi => ?_, fun i hi => ?_, by simp, by simp⟩
  · obtain rfl : i = 0 := by simp at hi; omega
    simp [fd]
  · simp at hi
theorem ans_bt : BT aT := ⟨by simp, fun k hk => by simp at hk⟩
theorem ans_gd1 (h : Nat) : Gd (aM h) [aT] := ⟨ans_bd h, fun t ht => by simp only [List.mem_cons, List.not_mem_nil, or_false] at ht; subst ht; exact ans_bt, by simp⟩
theorem ans_gd2 (h : Nat) : Gd (aM h) [aT, aT] := ⟨ans_bd h, fun t ht => by simp only [List.mem_cons, List.not_mem_nil, or_false, or_self] at ht; subst ht; exact ans_bt, by simp⟩
theorem ans_lod (h : Nat) : lod (aM h) [aT] 0 = 4294967296 := by rfl
theorem ans_fit1 (h : Nat) : fitB (aM h) [aT] = true := by rfl
theorem ans_fit2 (h : Nat) : fitB (aM h) [aT, aT] = false := by rfl
theorem ans_blk (h : Nat) : blk (aM h) [aT] 4 = 1 := by rfl

theorem ans_lod2 (h : Nat) (L : List Tk) (e : L = [aT]) : lod (aM h) L 0 = 4294967296 := by subst e; rfl

/-- the three blocks that are made -/
structure An (h : Nat) (W : World) : Prop where
  l : W.heap[h]? = some (.cells #[.int .i64 1, .int .i64 0] 34 (0, 0))
  p : B9 W (h + 1) (aM h)
  t : W.heap[h + 1 + 1]? = some (.cells (flat4 [aT]).toArray 29 (0, 0))
theorem An.kp {h : Nat} {W W' : World} (a : An h W) (k : Kp W W') : An h W' := ⟨kp_block a.l k, a.p.kp k, kp_block a.t k⟩
theorem An.grown {h : Nat} {W W' : World} (a : An h W) {g : Nat} (k : W.grownBy W' (some g)) (hg : h + 1 < g) : B9 W' (h + 1) (aM h) ∧ W'.heap[h]? = some (.cells #[.int .i64 1, .int .i64 0] 34 (0, 0)) :=
  ⟨⟨grown_block k a.p.blk (by omega)⟩, grown_block k a.l (by omega)⟩

theorem no_rec (w : World) (k : Nat) (ao : Option Addr) : RecAt w k ao 0 [] := ⟨rfl, fun r hr => by simp at hr, .inl rfl⟩
theorem no_nat (w : World) (ao : Option Addr) : NAt w ao 0 [] := ⟨⟨rfl, fun z hz => by simp at hz, .inl rfl⟩, by omega⟩

theorem an_at {h : Nat} {W : World} (a : W.heap[h]? = some (.cells #[.int .i64 1, .int .i64 0] 34 (0, 0))) : (aM h).At W := by
  refine ⟨⟨rfl, ?_, .inr ⟨h, 0, rfl, lt_blk a, ?_⟩⟩, no_rec _ _ _, no_rec _ _ _, by simp, by simp, by simp⟩
  · intro r hr
    simp at hr
    subst hr
    refine ⟨rfl, fun y hy => ?_⟩
    simp at hy
    unfold I64
    omega
  · intro i j hi hj
    obtain rfl : i = 0 := by simp at hi; omega
    match j, hj with
    | 0, _ => simp [World.cell?, a]
    | 1, _ => simp [World.cell?, a]

theorem an_row {h base : Nat} {W : World} (a : An h W) (hb : base ≤ h) : W.ownsRow base 29 4 (.slice (some ⟨h + 1 + 1, 0, none⟩) 1 1) 1 (flat4 [aT]) :=
  ⟨rfl, .inr ⟨h + 1 + 1, 1, (flat4 [aT]).toArray, rfl, (Nat.le_trans hb (Nat.le_trans (Nat.le_succ h) (Nat.le_succ _))), a.t, Nat.le_refl _, by unfold maxLen; omega, by simp [flat4], by simp [flat4]⟩⟩

theorem an_tat (W : World) : ∀ t ∈ [aT, aT], TAt W t := fun t ht => by
  simp only [List.mem_cons, List.not_mem_nil, or_false, or_self] at ht
  subst ht
  exact ⟨no_nat _ _, no_nat _ _⟩

theorem an_lat {h : Nat} {W : World} (a : An h W) : LAt W (some ⟨h + 1 + 1, 0, none⟩) 1 [aT] :=
  lat_of_row (an_row a (Nat.le_refl _)) (fun t ht => an_tat W t (by simp at ht; subst ht; simp)) (by omega)

theorem an_new {w W0 : World} (e : W0 = ((w.alloc (.cells #[.int .i64 1, .int .i64 0] 34)).alloc (.cells #[.slice (some ⟨w.heap.size, 0, none⟩) 1 1, .slice none 0 0, .slice none 0 0, .int .i64 0, .int .i64 0, .int .i64 0, .int .i64 0, .int .i64 0, .int .i64 50] 26)).alloc
      (.cells #[.int .i64 4, .int .i64 3, .slice none 0 0, .slice none 0 0] 29)) : An w.heap.size W0 ∧ Kp w W0 := by
  subst e
  refine ⟨⟨kp_block (heap_alloc_at _ _) (((Kp.refl _).alloc _).alloc _), ⟨kp_block (w := (w.alloc (.cells #[.int .i64 1, .int .i64 0] 34)).alloc (.cells #[.slice (some ⟨w.heap.size, 0, none⟩) 1 1, .slice none 0 0, .slice none 0 0, .int .i64 0, .int .i64 0, .int .i64 0, .int .i64 0, .int .i64 0, .int .i64 50] 26)) ?_ ((Kp.refl _).alloc _)⟩, ?_⟩, (((Kp.refl _).alloc _).alloc _).alloc _⟩
  · have := heap_alloc_at (w.alloc (.cells #[.int .i64 1, .int .i64 0] 34)) (.cells #[.slice (some ⟨w.heap.size, 0, none⟩) 1 1, .slice none 0 0, .slice none 0 0, .int .i64 0, .int .i64 0, .int .i64 0, .int .i64 0, .int .i64 0, .int .i64 50] 26)
    rw [World.size_alloc] at this
    exact this
  · have := heap_alloc_at ((w.alloc (.cells #[.int .i64 1, .int .i64 0] 34)).alloc (.cells #[.slice (some ⟨w.heap.size, 0, none⟩) 1 1, .slice none 0 0, .slice none 0 0, .int .i64 0, .int .i64 0, .int .i64 0, .int .i64 0, .int .i64 0, .int .i64 50] 26)) (.cells #[.int .i64 4, .int .i64 3, .slice none 0 0, .slice none 0 0] 29)
    rw [World.size_alloc, World.size_alloc] at this
    exact this

theorem tk_info : (Try.prog.info? 29).map (fun i => (i.zero, i.size, i.bytes)) = some (some (.agg #[.int .i64 0, .int .i64 0, .slice none 0 0, .slice none 0 0]), 4, 64) := by kernel_rfl

theorem row_base {w : World} {base : Nat} {e : TypeId} {size g n cap : Nat} {xs : List Value} (h : w.ownsRow base e size (.slice (some ⟨g, 0, none⟩) n cap) n xs) : base ≤ g := by
  rcases h.2 with ⟨q, _⟩ | ⟨g', cap', cur, e', hb, _⟩
  · cases q
  · cases e'
    exact hb

set_option maxHeartbeats 8000000 in
theorem aanswers_any (w : World) :
    Calls Try.prog 10 #[] w fun e w' => e = .returned (.bool true) ∧ Kp w w' := by
  obtain ⟨W0, HW⟩ : ∃ W0, Hid (W0 = ((w.alloc (.cells #[.int .i64 1, .int .i64 0] 34)).alloc (.cells #[.slice (some ⟨w.heap.size, 0, none⟩) 1 1, .slice none 0 0, .slice none 0 0, .int .i64 0, .int .i64 0, .int .i64 0, .int .i64 0, .int .i64 0, .int .i64 50] 26)).alloc
      (.cells #[.int .i64 4, .int .i64 3, .slice none 0 0, .slice none 0 0] 29)) := ⟨_, rfl⟩
  have HA : Hid (An w.heap.size W0 ∧ Kp w W0) := an_new HW.out
  obtain ⟨i0, hi, hz0, hz1, hz2⟩ := info_parts tk_info
  have HI : Hid (Try.prog.info? 29 = some i0 ∧ i0.zero = some (.agg #[.int .i64 0, .int .i64 0, .slice none 0 0, .slice none 0 0]) ∧ i0.size = 4 ∧ i0.bytes = 64) := ⟨hi, hz0, hz1, hz2⟩
  have H1 : Hid (∀ W, An w.heap.size W → Calls Try.prog 20 #[(aM w.heap.size).v, .slice (some ⟨w.heap.size + 1 + 1, 0, none⟩) 1 1] W fun e w' => e = .returned (.bool true) ∧ Kp W w') := fun W a => by rw [← ans_fit1 w.heap.size]; exact fits_any _ _ _ _ _ W (an_at a.l) (an_lat a) (ans_gd1 _)
  have H2 : Hid (∀ W, An w.heap.size W → Calls Try.prog 18 #[(aM w.heap.size).v, .slice (some ⟨w.heap.size + 1 + 1, 0, none⟩) 1 1, .int .i64 0] W fun e w' => e = .returned (.int .i64 4294967296) ∧ Kp W w') := fun W a => by rw [← ans_lod w.heap.size]; exact load_any _ _ _ _ _ 0 W (an_at a.l) (an_lat a) (ans_gd1 _)
  have H3 : Hid (∀ W, An w.heap.size W → Calls Try.prog 14 #[(aM w.heap.size).v, .slice (some ⟨w.heap.size + 1 + 1, 0, none⟩) 1 1, .int .i64 4] W fun e w' => e = .returned (.int .i64 1) ∧ Kp W w') := fun W a => by rw [← ans_blk w.heap.size]; exact block_any _ _ _ _ _ 4 W (an_at a.l) (an_lat a) (ans_bd _) (ans_gd1 w.heap.size).t
  have H4 : Hid (∀ W g cap, W.heap[w.heap.size]? = some (.cells #[.int .i64 1, .int .i64 0] 34 (0, 0)) → W.ownsRow w.heap.size 29 4 (.slice (some ⟨g, 0, none⟩) 2 cap) 2 (flat4 [aT, aT]) → Calls Try.prog 20 #[(aM w.heap.size).v, .slice (some ⟨g, 0, none⟩) 2 cap] W fun e w' => e = .returned (.bool false) ∧ Kp W w') := fun W g cap a q => by rw [← ans_fit2 w.heap.size]; exact fits_any _ _ _ _ _ W (an_at a) (lat_of_row q (an_tat W) (by omega)) (ans_gd2 _)
  unfold Mc.v at *
  dsimp only at H1 H2 H3 H4
  have HB : Hid (∀ W, An w.heap.size W → _) := fun W a => a.p.all
  dsimp only at HB
  clear hi hz0 hz1 hz2
  go_enter Try.func10, Try.ntmps10
  try dsimp only [List.append]
  go_wp2_with fail
  rw [← HW.out]
  clear HW
  obtain ⟨A0, K0⟩ := HA.out
  obtain ⟨p0, p1, p2, p3, p4, p5, p6, p7, p8⟩ := HB.out _ A0
  have T0 : W0.cell? ⟨w.heap.size + 1 + 1, 0, none⟩ = some (.int .i64 4) ∧ W0.cell? ⟨w.heap.size + 1 + 1, 1, none⟩ = some (.int .i64 3) ∧ W0.cell? ⟨w.heap.size + 1 + 1, 2, none⟩ = some (.slice none 0 0) ∧ W0.cell? ⟨w.heap.size + 1 + 1, 3, none⟩ = some (.slice none 0 0) := by simp [World.cell?, A0.t, flat4, Tk.cell]
  have HT : Hid (∀ W, An w.heap.size W → W.cell? ⟨w.heap.size + 1 + 1, 0, none⟩ = some (.int .i64 4) ∧ W.cell? ⟨w.heap.size + 1 + 1, 1, none⟩ = some (.int .i64 3) ∧ W.cell? ⟨w.heap.size + 1 + 1, 2, none⟩ = some (.slice none 0 0) ∧ W.cell? ⟨w.heap.size + 1 + 1, 3, none⟩ = some (.slice none 0 0)) := fun W a => by simp [World.cell?, a.t, flat4, Tk.cell]
  have HA0 : Hid (An w.heap.size W0) := A0
  have HK0 : Hid (Kp w W0) := K0
  clear A0 K0 HA
  refine wp_region_noPanic ?_
  refine wp_region_held_drew (S := fun w' => w'.cell? ⟨w.heap.size + 1, 0, none⟩ = some (.slice (some ⟨w.heap.size, 0, none⟩) 1 1) ∧ w'.cell? ⟨w.heap.size + 1, 1, none⟩ = some (.slice none 0 0) ∧ w'.cell? ⟨w.heap.size + 1, 2, none⟩ = some (.slice none 0 0) ∧ w'.cell? ⟨w.heap.size + 1, 3, none⟩ = some (.int .i64 0) ∧ w'.cell? ⟨w.heap.size + 1, 4, none⟩ = some (.int .i64 0) ∧ w'.cell? ⟨w.heap.size + 1, 5, none⟩ = some (.int .i64 0) ∧ w'.cell? ⟨w.heap.size + 1, 6, none⟩ = some (.int .i64 0) ∧ w'.cell? ⟨w.heap.size + 1, 7, none⟩ = some (.int .i64 0) ∧ w'.cell? ⟨w.heap.size + 1, 8, none⟩ = some (.int .i64 50)) (by kernel_rfl) ?_ (fun hHeld => ?_)
  · exact HB.out _ (HA0.out.kp (tkp_drew _))
  obtain ⟨V0, HV0⟩ : ∃ V0, Hid (V0 = W0.drew) := ⟨_, rfl⟩
  have k0 : Kp W0 V0 := by rw [HV0.out]; exact tkp_drew _
  rw [← HV0.out]
  clear HV0
  have HB0 : Hid (An w.heap.size V0) := HA0.out.kp k0
  have HL0 : Hid (Kp w V0) := HK0.out.trans k0
  have hHeld0 := HB.out _ HB0.out
  clear k0 p0 p1 p2 p3 p4 p5 p6 p7 p8 T0
  refine wpAnyH_take (i := 0) (oi := Oper.mk (some 8) _ _ _ _ _) (v := ?v0a) rfl (by kernel_rfl) (by kernel_rfl) (by kernel_rfl) (fun _ _ _ h => h) (Or.inl ⟨by rfl, ?hy0a⟩) (by assumption) ?rest0a
  case hy0a => (intro w0 hSw; (try dsimp only at hSw); go_simp; try with_reducible rfl)
  try simp only [Act.put, List.setIfInBounds_toArray, List.set_cons_zero, List.set_cons_succ]
  refine wpAnyH_take (i := 1) (oi := Oper.mk (some 9) _ _ _ _ _) (v := ?v1a) rfl (by kernel_rfl) (by kernel_rfl) (by kernel_rfl) (fun _ _ _ h => h) (Or.inl ⟨by rfl, ?hy1a⟩) (by assumption) ?rest1a
  case hy1a => (intro w0 hSw; (try dsimp only at hSw); go_simp; try with_reducible rfl)
  try simp only [Act.put, List.setIfInBounds_toArray, List.set_cons_zero, List.set_cons_succ]
  refine wpAnyH_ready (rs := [2]) (by kernel_rfl) (by simp) ?_
  refine AllReadyH.cons (o := Oper.mk (some 10) _ _ _ _ _) rfl (fun K hK => ?_) AllReadyH.nil
  go_simp
  refine (H1.out _ HB0.out).mono ?_
  rintro e w1 ⟨rfl, k1⟩
  have HB1 : Hid (An w.heap.size w1) := HB0.out.kp k1
  have HL1 : Hid (Kp w w1) := HL0.out.trans k1
  clear k1
  go_wp2_with fail
  refine hK.out _ _ ?_ (fun hHeld => ?_)
  · exact HB.out _ HB1.out
  clear hK K
  try simp only [Act.put, List.setIfInBounds_toArray, List.set_cons_zero, List.set_cons_succ]
  refine wpAnyH_take (i := 3) (oi := Oper.mk (some 11) _ _ _ _ _) (v := ?v3a) rfl (by kernel_rfl) (by kernel_rfl) (by kernel_rfl) (fun _ _ _ h => h) (Or.inl ⟨by rfl, ?hy3a⟩) (by assumption) ?rest3a
  case hy3a => (intro w0 hSw; (try dsimp only at hSw); go_simp; try with_reducible rfl)
  try simp only [Act.put, List.setIfInBounds_toArray, List.set_cons_zero, List.set_cons_succ]
  refine wpAnyH_take (i := 4) (oi := Oper.mk (some 12) _ _ _ _ _) (v := ?v4a) rfl (by kernel_rfl) (by kernel_rfl) (by kernel_rfl) (fun _ _ _ h => h) (Or.inl ⟨by rfl, ?hy4a⟩) (by assumption) ?rest4a
  case hy4a => (intro w0 hSw; (try dsimp only at hSw); go_simp; try with_reducible rfl)
  try simp only [Act.put, List.setIfInBounds_toArray, List.set_cons_zero, List.set_cons_succ]
  refine wpAnyH_take (i := 5) (oi := Oper.mk (some 13) _ _ _ _ _) (v := ?v5a) rfl (by kernel_rfl) (by kernel_rfl) (by kernel_rfl) (fun _ _ _ h => h) (Or.inl ⟨by rfl, ?hy5a⟩) (by assumption) ?rest5a
  case hy5a => (intro w0 hSw; (try dsimp only at hSw); go_simp; try with_reducible rfl)
  try simp only [Act.put, List.setIfInBounds_toArray, List.set_cons_zero, List.set_cons_succ]
  refine wpAnyH_ready (rs := [6]) (by kernel_rfl) (by simp) ?_
  refine AllReadyH.cons (o := Oper.mk (some 14) _ _ _ _ _) rfl (fun K hK => ?_) AllReadyH.nil
  go_simp
  refine (H2.out _ HB1.out).mono ?_
  rintro e w2 ⟨rfl, k2⟩
  have HB2 : Hid (An w.heap.size w2) := HB1.out.kp k2
  have HL2 : Hid (Kp w w2) := HL1.out.trans k2
  clear k2
  go_wp2_with fail
  refine hK.out _ _ ?_ (fun hHeld => ?_)
  · exact HB.out _ HB2.out
  clear hK K
  try simp only [Act.put, List.setIfInBounds_toArray, List.set_cons_zero, List.set_cons_succ]
  refine wpAnyH_take (i := 7) (oi := Oper.mk (some 15) _ _ _ _ _) (v := ?v7a) rfl (by kernel_rfl) (by kernel_rfl) (by kernel_rfl) (fun _ _ _ h => h) (Or.inl ⟨by rfl, ?hy7a⟩) (by assumption) ?rest7a
  case hy7a => (intro w0 hSw; (try dsimp only at hSw); go_simp; try with_reducible rfl)
  try simp only [Act.put, List.setIfInBounds_toArray, List.set_cons_zero, List.set_cons_succ]
  refine wpAnyH_take (i := 8) (oi := Oper.mk (some 16) _ _ _ _ _) (v := ?v8a) rfl (by kernel_rfl) (by kernel_rfl) (by kernel_rfl) (fun _ _ _ h => h) (Or.inl ⟨by rfl, ?hy8a⟩) (by assumption) ?rest8a
  case hy8a => (intro w0 hSw; (try dsimp only at hSw); go_simp; try with_reducible rfl)
  try simp only [Act.put, List.setIfInBounds_toArray, List.set_cons_zero, List.set_cons_succ]
  refine wpAnyH_take (i := 9) (oi := Oper.mk (some 17) _ _ _ _ _) (v := ?v9a) rfl (by kernel_rfl) (by kernel_rfl) (by kernel_rfl) (fun _ _ _ h => h) (Or.inl ⟨by rfl, ?hy9a⟩) (by assumption) ?rest9a
  case hy9a => (intro w0 hSw; (try dsimp only at hSw); go_simp; try with_reducible rfl)
  try simp only [Act.put, List.setIfInBounds_toArray, List.set_cons_zero, List.set_cons_succ]
  refine wpAnyH_take (i := 10) (oi := Oper.mk (some 18) _ _ _ _ _) (v := ?v10a) rfl (by kernel_rfl) (by kernel_rfl) (by kernel_rfl) (fun _ _ _ h => h) (Or.inl ⟨by rfl, ?hy10a⟩) (by assumption) ?rest10a
  case hy10a => (intro w0 hSw; (try dsimp only at hSw); go_simp; try with_reducible rfl)
  try simp only [Act.put, List.setIfInBounds_toArray, List.set_cons_zero, List.set_cons_succ]
  refine wpAnyH_take (i := 11) (oi := Oper.mk (some 19) _ _ _ _ _) (v := ?v11a) rfl (by kernel_rfl) (by kernel_rfl) (by kernel_rfl) (fun _ _ _ h => h) (Or.inl ⟨by rfl, ?hy11a⟩) (by assumption) ?rest11a
  case hy11a => (intro w0 hSw; (try dsimp only at hSw); go_simp; try with_reducible rfl)
  try simp only [Act.put, List.setIfInBounds_toArray, List.set_cons_zero, List.set_cons_succ]
  refine wpAnyH_ready (rs := [12]) (by kernel_rfl) (by simp) ?_
  refine AllReadyH.cons (o := Oper.mk (some 20) _ _ _ _ _) rfl (fun K hK => ?_) AllReadyH.nil
  go_simp
  refine (H3.out _ HB2.out).mono ?_
  rintro e w3 ⟨rfl, k3⟩
  have HB3 : Hid (An w.heap.size w3) := HB2.out.kp k3
  have HL3 : Hid (Kp w w3) := HL2.out.trans k3
  clear k3
  go_wp2_with fail
  refine hK.out _ _ ?_ (fun hHeld => ?_)
  · exact HB.out _ HB3.out
  clear hK K
  try simp only [Act.put, List.setIfInBounds_toArray, List.set_cons_zero, List.set_cons_succ]
  refine wpAnyH_take (i := 13) (oi := Oper.mk (some 21) _ _ _ _ _) (v := ?v13a) rfl (by kernel_rfl) (by kernel_rfl) (by kernel_rfl) (fun _ _ _ h => h) (Or.inl ⟨by rfl, ?hy13a⟩) (by assumption) ?rest13a
  case hy13a => (intro w0 hSw; (try dsimp only at hSw); go_simp; try with_reducible rfl)
  try simp only [Act.put, List.setIfInBounds_toArray, List.set_cons_zero, List.set_cons_succ]
  refine wpAnyH_take (i := 14) (oi := Oper.mk (some 22) _ _ _ _ _) (v := ?v14a) rfl (by kernel_rfl) (by kernel_rfl) (by kernel_rfl) (fun _ _ _ h => h) (Or.inl ⟨by rfl, ?hy14a⟩) (by assumption) ?rest14a
  case hy14a => (intro w0 hSw; (try dsimp only at hSw); go_simp; try with_reducible rfl)
  try simp only [Act.put, List.setIfInBounds_toArray, List.set_cons_zero, List.set_cons_succ]
  refine wpAnyH_take (i := 15) (oi := Oper.mk (some 23) _ _ _ _ _) (v := ?v15a) rfl (by kernel_rfl) (by kernel_rfl) (by kernel_rfl) (fun _ _ _ h => h) (Or.inl ⟨by rfl, ?hy15a⟩) (by assumption) ?rest15a
  case hy15a => (intro w0 hSw; (try dsimp only at hSw); go_simp; try with_reducible rfl)
  try simp only [Act.put, List.setIfInBounds_toArray, List.set_cons_zero, List.set_cons_succ]
  refine wpAnyH_take (i := 16) (oi := Oper.mk (some 24) _ _ _ _ _) (v := ?v16a) rfl (by kernel_rfl) (by kernel_rfl) (by kernel_rfl) (fun _ _ _ h => h) (Or.inl ⟨by rfl, ?hy16a⟩) (by assumption) ?rest16a
  case hy16a => (intro w0 hSw; (try dsimp only at hSw); go_simp; try with_reducible rfl)
  try simp only [Act.put, List.setIfInBounds_toArray, List.set_cons_zero, List.set_cons_succ]
  refine wpAnyH_take (i := 17) (oi := Oper.mk (some 25) _ _ _ _ _) (v := ?v17a) rfl (by kernel_rfl) (by kernel_rfl) (by kernel_rfl) (fun _ _ _ h => h) (Or.inl ⟨by rfl, ?hy17a⟩) (by assumption) ?rest17a
  case hy17a => (intro w0 hSw; (try dsimp only at hSw); go_simp; try with_reducible rfl)
  try simp only [Act.put, List.setIfInBounds_toArray, List.set_cons_zero, List.set_cons_succ]
  refine wpAnyH_take (i := 18) (oi := Oper.mk (some 26) _ _ _ _ _) (v := ?v18a) rfl (by kernel_rfl) (by kernel_rfl) (by kernel_rfl) (fun _ _ _ h => h) (Or.inl ⟨by rfl, ?hy18a⟩) (by assumption) ?rest18a
  case hy18a => (intro w0 hSw; (try dsimp only at hSw); go_simp; try with_reducible rfl)
  try simp only [Act.put, List.setIfInBounds_toArray, List.set_cons_zero, List.set_cons_succ]
  refine wpAnyH_take (i := 19) (oi := Oper.mk (some 27) _ _ _ _ _) (v := ?v19a) rfl (by kernel_rfl) (by kernel_rfl) (by kernel_rfl) (fun _ _ _ h => h) (Or.inl ⟨by rfl, ?hy19a⟩) (by assumption) ?rest19a
  case hy19a => (intro w0 hSw; (try dsimp only at hSw); go_simp; try with_reducible rfl)
  try simp only [Act.put, List.setIfInBounds_toArray, List.set_cons_zero, List.set_cons_succ]
  have x3 := HT.out _ HB3.out
  refine wpAnyH_ready (rs := [20]) (by kernel_rfl) (by simp) ?_
  refine AllReadyH.cons (o := Oper.mk (some 28) _ _ _ _ _) rfl (fun K hK => ?_) AllReadyH.nil
  go_simp
  go_wp2_with fail
  refine hK.out _ _ ?_ (fun hHeld => ?_)
  · exact HB.out _ HB3.out
  clear hK K
  try simp only [Act.put, List.setIfInBounds_toArray, List.set_cons_zero, List.set_cons_succ]
  clear x3
  refine wpAnyH_ready (rs := [21]) (by kernel_rfl) (by simp) ?_
  refine AllReadyH.cons (o := Oper.mk (some 29) _ _ _ _ _) rfl (fun K hK => ?_) AllReadyH.nil
  go_simp
  go_wp2_with fail
  obtain ⟨V4, HV4⟩ : ∃ V4, Hid (V4 = w3.alloc (.cells #[.int .i64 4, .int .i64 3, .slice none 0 0, .slice none 0 0] 29)) := ⟨_, rfl⟩
  have k4 : Kp w3 V4 := by rw [HV4.out]; exact (Kp.refl _).alloc _
  have B4 : Hid (V4.heap[w3.heap.size]? = some (.cells #[.int .i64 4, .int .i64 3, .slice none 0 0, .slice none 0 0] 29 (0, 0))) := by show _ = _; rw [HV4.out]; exact heap_alloc_at _ _
  have HB4 : Hid (An w.heap.size V4) := HB3.out.kp k4
  have HL4 : Hid (Kp w V4) := HL3.out.trans k4
  rw [← HV4.out]
  clear HV4 k4
  refine hK.out _ _ ?_ (fun hHeld => ?_)
  · exact HB.out _ HB4.out
  clear hK K
  try simp only [Act.put, List.setIfInBounds_toArray, List.set_cons_zero, List.set_cons_succ]
  refine wpAnyH_ready (rs := [22]) (by kernel_rfl) (by simp) ?_
  refine AllReadyH.cons (o := Oper.mk (some 30) _ _ _ _ _) rfl (fun K hK => ?_) AllReadyH.nil
  refine step_append_wanted V4 (by rfl) _ _ 31 rfl w.heap.size 29 i0 _ 4 64 Try.underlying31 HI.out.1 HI.out.2.1 HI.out.2.2.1 HI.out.2.2.2 (by rfl) (by decide) (w.heap.size + 1 + 1) 1 1 (flat4 [aT]) rfl (an_row HB4.out (Nat.le_refl _)) (some ⟨w3.heap.size, 0, none⟩) 1 1 (flat4 [aT]) rfl rfl (fun q => by cases q) (fun ad q j u hj => by cases q; exact World.news_of_block B4.out j u hj) flat4_one (by unfold maxLen; omega) (by omega) HL4.out.size ?_
  intro g cap w5 R5 hg5
  have HQ5 := HB4.out.grown hg5 (by omega)
  have HL5 : Hid (Kp w w5) := kp_grown HL4.out hg5 (by omega)
  have HR5 : Hid (w5.ownsRow w.heap.size 29 4 (.slice (some ⟨g, 0, none⟩) 2 cap) 2 (flat4 [aT, aT])) := R5
  clear R5 hg5
  have hHeld5 := HQ5.1.all
  refine hK.out _ _ ?_ (fun hHeld => ?_)
  · exact HQ5.1.all
  clear hK K
  try simp only [Act.put, List.setIfInBounds_toArray, List.set_cons_zero, List.set_cons_succ]
  refine wpAnyH_ready (rs := [23]) (by kernel_rfl) (by simp) ?_
  refine AllReadyH.cons (o := Oper.mk (some 31) _ _ _ _ _) rfl (fun K hK => ?_) AllReadyH.nil
  go_simp
  refine (H4.out _ _ _ HQ5.2 HR5.out).mono ?_
  rintro e w6 ⟨rfl, k6⟩
  have HQ6 := HQ5.1.kp k6
  have HL6 : Hid (Kp w w6) := HL5.out.trans k6
  clear k6
  go_wp2_with fail
  refine hK.out _ _ ?_ (fun hHeld => ?_)
  · exact HQ6.all
  clear hK K
  try simp only [Act.put, List.setIfInBounds_toArray, List.set_cons_zero, List.set_cons_succ]
  refine wpAnyH_take (i := 24) (oi := Oper.mk (some 32) _ _ _ _ _) (v := ?v24a) rfl (by kernel_rfl) (by kernel_rfl) (by kernel_rfl) (fun _ _ _ h => h) (Or.inl ⟨by rfl, ?hy24a⟩) (by assumption) ?rest24a
  case hy24a => (intro w0 hSw; (try dsimp only at hSw); go_simp; try with_reducible rfl)
  try simp only [Act.put, List.setIfInBounds_toArray, List.set_cons_zero, List.set_cons_succ]
  refine wpAnyH_take (i := 25) (oi := Oper.mk (some 33) _ _ _ _ _) (v := ?v25a) rfl (by kernel_rfl) (by kernel_rfl) (by kernel_rfl) (fun _ _ _ h => h) (Or.inl ⟨by rfl, ?hy25a⟩) (by assumption) ?rest25a
  case hy25a => (intro w0 hSw; (try dsimp only at hSw); go_simp; try with_reducible rfl)
  try simp only [Act.put, List.setIfInBounds_toArray, List.set_cons_zero, List.set_cons_succ]
  refine wpAnyH_take (i := 26) (oi := Oper.mk (some 0) _ _ _ _ _) (v := ?v26a) rfl (by kernel_rfl) (by kernel_rfl) (by kernel_rfl) (fun _ _ _ h => h) (Or.inl ⟨by rfl, ?hy26a⟩) (by assumption) ?rest26a
  case hy26a => (intro w0 hSw; (try dsimp only at hSw); go_simp; try with_reducible rfl)
  try simp only [Act.put, List.setIfInBounds_toArray, List.set_cons_zero]
  refine wpAnyH_done (by kernel_rfl) ?_ _
  refine NoPanic.normal ?_
  go_wp2
  go_ret
  exact ⟨rfl, HL6.out⟩

end Go.Proofs.Ytgecandbbmljbaa.AD
