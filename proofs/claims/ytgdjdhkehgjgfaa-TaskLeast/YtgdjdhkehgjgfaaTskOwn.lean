/- A task in memory of its own. -/
import Derived.Test.YtgdjdhkehgjgfaaTskRow
namespace Go.Proofs.Ytgdjdhkehgjgfaa.TK
open Go.ChangeShapes Go.WideShapes Go.ChangeAt Go.RowKit Go.Proofs.Ytgdjdhkehgjgfaa.AR Go.Proofs.Ytgdjdhkehgjgfaa.TB

/-- two lists in memory apart from each other -/
def Apt (sa : Option Addr) (sl : Nat) (da : Option Addr) (dl : Nat) : Prop := sl = 0 ∨ dl = 0 ∨ ∃ g g', sa = some ⟨g, 0, none⟩ ∧ da = some ⟨g', 0, none⟩ ∧ g ≠ g'

theorem own_apart {w1 w2 : World} {b1 : Nat} {sa da : Option Addr} {sl dl : Nat} {sz dz : List Int} (rS : Row w1 b1 sa sl sz) (rD : Row w2 w1.heap.size da dl dz) : Apt sa sl da dl := by
  rcases rS.lie with h0 | ⟨g, e, _, hg⟩
  · exact .inl h0
  · rcases rD.lie with h0 | ⟨g', e', hb, hg'⟩
    · exact .inr (.inl h0)
    · exact .inr (.inr ⟨g, g', e, e', by have := lt_blk hg; omega⟩)

/-- what Own answers -/
def Owned (w : World) (t : Tk) (e : Ending) (w' : World) : Prop :=
  ∃ sa da, e = .returned (.agg #[.int .i64 t.p, .int .i64 t.c, .slice sa t.sl t.sl, .slice da t.dl t.dl]) ∧ Row w' w.heap.size sa t.sl t.sz ∧ Row w' w.heap.size da t.dl t.dz ∧ Apt sa t.sl da t.dl ∧ Kp w w'

set_option maxHeartbeats 8000000 in
theorem own_any (t : Tk) (w : World) (h : TAt w t) :
    Calls Try.prog 16 #[t.v] w (Owned w t) := by
  have HS : Hid (∀ W, Kp w W → Calls Try.prog 28 #[.slice t.sa t.sl t.sc] W fun e w' => ∃ ao', e = .returned (.slice ao' t.sl t.sl) ∧ Row w' W.heap.size ao' t.sl t.sz ∧ Kp W w') := fun W k => copied_any _ _ _ _ W (h.s.kept k)
  have HD : Hid (∀ W, Kp w W → Calls Try.prog 28 #[.slice t.da t.dl t.dc] W fun e w' => ∃ ao', e = .returned (.slice ao' t.dl t.dl) ∧ Row w' W.heap.size ao' t.dl t.dz ∧ Kp W w') := fun W k => copied_any _ _ _ _ W (h.d.kept k)
  clear h
  obtain ⟨p, c, sa, sl, sc, sz, da, dl, dc, dz⟩ := t
  unfold Tk.v
  dsimp only at *
  obtain ⟨W0, HW⟩ : ∃ W0, Hid (W0 = (w.alloc (.cells #[.int .i64 p, .int .i64 c, .slice sa sl sc, .slice da dl dc] 29)).alloc (.cells #[.int .i64 0, .int .i64 0, .slice none 0 0, .slice none 0 0] 29)) := ⟨_, rfl⟩
  have K0 : Kp w W0 := by rw [HW.out]; exact ((Kp.refl _).alloc _).alloc _
  have X0 : B4 W0 w.heap.size (.int .i64 p) (.int .i64 c) (.slice sa sl sc) (.slice da dl dc) := by rw [HW.out]; exact b4_new ((Kp.refl _).alloc _)
  have Y0 : B4 W0 (w.heap.size + 1) (.int .i64 0) (.int .i64 0) (.slice none 0 0) (.slice none 0 0) := by
    rw [HW.out]
    have := b4_new (w := w.alloc (.cells #[.int .i64 p, .int .i64 c, .slice sa sl sc, .slice da dl dc] 29)) (a := .int .i64 0) (b := .int .i64 0) (c := .slice none 0 0) (d := .slice none 0 0) (Kp.refl _)
    rw [World.size_alloc] at this
    exact this
  have hlt0 := Y0.lt
  obtain ⟨x00, x01, x02, x03⟩ := X0.all
  go_enter Try.func16, Try.ntmps16
  go_wp2
  rw [← HW.out]
  clear HW
  refine wp_region_noPanic ?_
  refine wp_region_held_drew (S := fun _ => True) (by kernel_rfl) ?_ (fun hHeld => ?_)
  · trivial
  refine wpAnyH_take (i := 0) (oi := Oper.mk (some 3) _ _ _ _ _) (v := ?v0A) rfl (by kernel_rfl) (by kernel_rfl) (by kernel_rfl) (fun _ _ _ h => h) (Or.inl ⟨by rfl, ?hy0A⟩) (by assumption) ?rest0A
  case hy0A => (intro w0 hSw; (try dsimp only at hSw); go_simp; try with_reducible rfl)
  try simp only [Act.put, List.setIfInBounds_toArray, List.set_cons_zero, List.set_cons_succ]
  refine wpAnyH_take (i := 3) (oi := Oper.mk (some 6) _ _ _ _ _) (v := ?v3A) rfl (by kernel_rfl) (by kernel_rfl) (by kernel_rfl) (fun _ _ _ h => h) (Or.inl ⟨by rfl, ?hy3A⟩) (by assumption) ?rest3A
  case hy3A => (intro w0 hSw; (try dsimp only at hSw); go_simp; try with_reducible rfl)
  try simp only [Act.put, List.setIfInBounds_toArray, List.set_cons_zero, List.set_cons_succ]
  refine wpAnyH_ready (rs := [1, 4]) (by kernel_rfl) (by simp) ?_
  refine AllReadyH.cons (o := Oper.mk (some 4) _ _ _ _ _) rfl (fun K hK => ?_) (AllReadyH.cons (o := Oper.mk (some 7) _ _ _ _ _) rfl (fun K hK => ?_) AllReadyH.nil)
  · go_simp
    go_wp2_with fail
    refine hK.out _ _ ?_ (fun hHeld => ?_)
    · trivial
    clear hK K
    try simp only [Act.put, List.setIfInBounds_toArray, List.set_cons_zero, List.set_cons_succ]
    refine wpAnyH_ready (rs := [2, 4]) (by kernel_rfl) (by simp) ?_
    refine AllReadyH.cons (o := Oper.mk (some 5) _ _ _ _ _) rfl (fun K hK => ?_) (AllReadyH.cons (o := Oper.mk (some 7) _ _ _ _ _) rfl (fun K hK => ?_) AllReadyH.nil)
    · go_simp
      refine (HS.out _ (K0.trans (tkp_drew _))).mono ?_
      rintro e w1 ⟨sa', rfl, rS, k1⟩
      have X1 := (X0.kp (tkp_drew _)).kp k1
      obtain ⟨x10, x11, x12, x13⟩ := X1.all
      go_wp2_with fail
      refine hK.out _ _ ?_ (fun hHeld => ?_)
      · trivial
      clear hK K
      try simp only [Act.put, List.setIfInBounds_toArray, List.set_cons_zero, List.set_cons_succ]
      refine wpAnyH_ready (rs := [4]) (by kernel_rfl) (by simp) ?_
      refine AllReadyH.cons (o := Oper.mk (some 7) _ _ _ _ _) rfl (fun K hK => ?_) AllReadyH.nil
      go_simp
      go_wp2_with fail
      refine hK.out _ _ ?_ (fun hHeld => ?_)
      · trivial
      clear hK K
      try simp only [Act.put, List.setIfInBounds_toArray, List.set_cons_zero, List.set_cons_succ]
      refine wpAnyH_take (i := 6) (oi := Oper.mk (some 9) _ _ _ _ _) (v := ?v6P) rfl (by kernel_rfl) (by kernel_rfl) (by kernel_rfl) (fun _ _ _ h => h) (Or.inl ⟨by rfl, ?hy6P⟩) (by assumption) ?rest6P
      case hy6P => (intro w0 hSw; (try dsimp only at hSw); go_simp; try with_reducible rfl)
      try simp only [Act.put, List.setIfInBounds_toArray, List.set_cons_zero, List.set_cons_succ]
      refine wpAnyH_ready (rs := [5]) (by kernel_rfl) (by simp) ?_
      refine AllReadyH.cons (o := Oper.mk (some 8) _ _ _ _ _) rfl (fun K hK => ?_) AllReadyH.nil
      go_simp
      refine (HD.out _ ((K0.trans (tkp_drew _)).trans k1)).mono ?_
      rintro e w2 ⟨da', rfl, rD, k2⟩
      have X2 := X1.kp k2
      obtain ⟨x20, x21, x22, x23⟩ := X2.all
      have f2 := X2.fr 2
      have f3 := X2.fr 3
      go_wp2_with fail
      refine hK.out _ _ ?_ (fun hHeld => ?_)
      · trivial
      clear hK K
      try simp only [Act.put, List.setIfInBounds_toArray, List.set_cons_zero, List.set_cons_succ]
      refine wpAnyH_ready (rs := [7]) (by kernel_rfl) (by simp) ?_
      refine AllReadyH.cons (o := Oper.mk none _ _ _ _ _) rfl (fun K hK => ?_) AllReadyH.nil
      go_simp
      go_wp2_with fail
      refine hK.out _ _ ?_ (fun hHeld => ?_)
      · trivial
      clear hK K
      try simp only [Act.put, List.setIfInBounds_toArray, List.set_cons_zero, List.set_cons_succ]
      refine wpAnyH_take (i := 8) (oi := Oper.mk (some 10) _ _ _ _ _) (v := ?v8P) rfl (by kernel_rfl) (by kernel_rfl) (by kernel_rfl) (fun _ _ _ h => h) (Or.inl ⟨by rfl, ?hy8P⟩) (by assumption) ?rest8P
      case hy8P => (intro w0 hSw; (try dsimp only at hSw); go_simp; try with_reducible rfl)
      try simp only [Act.put, List.setIfInBounds_toArray, List.set_cons_zero, List.set_cons_succ]
      refine wpAnyH_ready (rs := [9]) (by kernel_rfl) (by simp) ?_
      refine AllReadyH.cons (o := Oper.mk none _ _ _ _ _) rfl (fun K hK => ?_) AllReadyH.nil
      go_simp
      go_wp2_with fail
      refine hK.out _ _ ?_ (fun hHeld => ?_)
      · trivial
      clear hK K
      try simp only [Act.put, List.setIfInBounds_toArray, List.set_cons_zero, List.set_cons_succ]
      refine wpAnyH_done (by kernel_rfl) ?_ _
      refine NoPanic.normal ?_
      obtain ⟨W3, HW3, K3, X3, Y3, rS3, rD3⟩ := own_stored K0 X0 Y0 ((tkp_drew W0).trans k1) k2 (show w.heap.size + 1 < W0.drew.heap.size from hlt0) (Nat.lt_of_lt_of_le (show w.heap.size + 1 < W0.drew.heap.size from hlt0) k1.size) rS rD (.slice sa' sl sl) (.slice da' dl dl)
      have HA : Hid (Apt sa' sl da' dl) := own_apart rS rD
      rw [← HW3.out]
      clear HW3 x00 x01 x02 x03 x10 x11 x12 x13 x20 x21 x22 x23 f2 f3 k1 k2 rS rD X2 X1 X0 Y0 K0 HS HD
      obtain ⟨x30, x31, x32, x33⟩ := X3.all
      have y0 := Y3.fr 0
      have y1 := Y3.fr 1
      have y2 := Y3.fr 2
      have y3 := Y3.fr 3
      obtain ⟨z0, z1, z2, z3⟩ := Y3.all
      go_wp2
      obtain ⟨W4, HW4, K4, Y4, rS4, rD4⟩ := own_last K3 Y3 rS3 rD3 (.int .i64 p) (.int .i64 c) (.slice sa' sl sl) (.slice da' dl dl)
      rw [← HW4.out]
      exact bodyPost_ret (results_tk _ _ (w.heap.size + 1) p c sa' sl sl da' dl dl rfl Y4) rfl ⟨sa', da', rfl, rS4, rD4, HA.out, K4⟩
    · go_simp
      go_wp2_with fail
      refine hK.out _ _ ?_ (fun hHeld => ?_)
      · trivial
      clear hK K
      try simp only [Act.put, List.setIfInBounds_toArray, List.set_cons_zero, List.set_cons_succ]
      refine wpAnyH_ready (rs := [2]) (by kernel_rfl) (by simp) ?_
      refine AllReadyH.cons (o := Oper.mk (some 5) _ _ _ _ _) rfl (fun K hK => ?_) AllReadyH.nil
      go_simp
      refine (HS.out _ (K0.trans (tkp_drew _))).mono ?_
      rintro e w1 ⟨sa', rfl, rS, k1⟩
      have X1 := (X0.kp (tkp_drew _)).kp k1
      obtain ⟨x10, x11, x12, x13⟩ := X1.all
      go_wp2_with fail
      refine hK.out _ _ ?_ (fun hHeld => ?_)
      · trivial
      clear hK K
      try simp only [Act.put, List.setIfInBounds_toArray, List.set_cons_zero, List.set_cons_succ]
      refine wpAnyH_take (i := 6) (oi := Oper.mk (some 9) _ _ _ _ _) (v := ?v6Q) rfl (by kernel_rfl) (by kernel_rfl) (by kernel_rfl) (fun _ _ _ h => h) (Or.inl ⟨by rfl, ?hy6Q⟩) (by assumption) ?rest6Q
      case hy6Q => (intro w0 hSw; (try dsimp only at hSw); go_simp; try with_reducible rfl)
      try simp only [Act.put, List.setIfInBounds_toArray, List.set_cons_zero, List.set_cons_succ]
      refine wpAnyH_ready (rs := [5]) (by kernel_rfl) (by simp) ?_
      refine AllReadyH.cons (o := Oper.mk (some 8) _ _ _ _ _) rfl (fun K hK => ?_) AllReadyH.nil
      go_simp
      refine (HD.out _ ((K0.trans (tkp_drew _)).trans k1)).mono ?_
      rintro e w2 ⟨da', rfl, rD, k2⟩
      have X2 := X1.kp k2
      obtain ⟨x20, x21, x22, x23⟩ := X2.all
      have f2 := X2.fr 2
      have f3 := X2.fr 3
      go_wp2_with fail
      refine hK.out _ _ ?_ (fun hHeld => ?_)
      · trivial
      clear hK K
      try simp only [Act.put, List.setIfInBounds_toArray, List.set_cons_zero, List.set_cons_succ]
      refine wpAnyH_ready (rs := [7]) (by kernel_rfl) (by simp) ?_
      refine AllReadyH.cons (o := Oper.mk none _ _ _ _ _) rfl (fun K hK => ?_) AllReadyH.nil
      go_simp
      go_wp2_with fail
      refine hK.out _ _ ?_ (fun hHeld => ?_)
      · trivial
      clear hK K
      try simp only [Act.put, List.setIfInBounds_toArray, List.set_cons_zero, List.set_cons_succ]
      refine wpAnyH_take (i := 8) (oi := Oper.mk (some 10) _ _ _ _ _) (v := ?v8Q) rfl (by kernel_rfl) (by kernel_rfl) (by kernel_rfl) (fun _ _ _ h => h) (Or.inl ⟨by rfl, ?hy8Q⟩) (by assumption) ?rest8Q
      case hy8Q => (intro w0 hSw; (try dsimp only at hSw); go_simp; try with_reducible rfl)
      try simp only [Act.put, List.setIfInBounds_toArray, List.set_cons_zero, List.set_cons_succ]
      refine wpAnyH_ready (rs := [9]) (by kernel_rfl) (by simp) ?_
      refine AllReadyH.cons (o := Oper.mk none _ _ _ _ _) rfl (fun K hK => ?_) AllReadyH.nil
      go_simp
      go_wp2_with fail
      refine hK.out _ _ ?_ (fun hHeld => ?_)
      · trivial
      clear hK K
      try simp only [Act.put, List.setIfInBounds_toArray, List.set_cons_zero, List.set_cons_succ]
      refine wpAnyH_done (by kernel_rfl) ?_ _
      refine NoPanic.normal ?_
      obtain ⟨W3, HW3, K3, X3, Y3, rS3, rD3⟩ := own_stored K0 X0 Y0 ((tkp_drew W0).trans k1) k2 (show w.heap.size + 1 < W0.drew.heap.size from hlt0) (Nat.lt_of_lt_of_le (show w.heap.size + 1 < W0.drew.heap.size from hlt0) k1.size) rS rD (.slice sa' sl sl) (.slice da' dl dl)
      have HA : Hid (Apt sa' sl da' dl) := own_apart rS rD
      rw [← HW3.out]
      clear HW3 x00 x01 x02 x03 x10 x11 x12 x13 x20 x21 x22 x23 f2 f3 k1 k2 rS rD X2 X1 X0 Y0 K0 HS HD
      obtain ⟨x30, x31, x32, x33⟩ := X3.all
      have y0 := Y3.fr 0
      have y1 := Y3.fr 1
      have y2 := Y3.fr 2
      have y3 := Y3.fr 3
      obtain ⟨z0, z1, z2, z3⟩ := Y3.all
      go_wp2
      obtain ⟨W4, HW4, K4, Y4, rS4, rD4⟩ := own_last K3 Y3 rS3 rD3 (.int .i64 p) (.int .i64 c) (.slice sa' sl sl) (.slice da' dl dl)
      rw [← HW4.out]
      exact bodyPost_ret (results_tk _ _ (w.heap.size + 1) p c sa' sl sl da' dl dl rfl Y4) rfl ⟨sa', da', rfl, rS4, rD4, HA.out, K4⟩
  · go_simp
    go_wp2_with fail
    refine hK.out _ _ ?_ (fun hHeld => ?_)
    · trivial
    clear hK K
    try simp only [Act.put, List.setIfInBounds_toArray, List.set_cons_zero, List.set_cons_succ]
    refine wpAnyH_ready (rs := [1]) (by kernel_rfl) (by simp) ?_
    refine AllReadyH.cons (o := Oper.mk (some 4) _ _ _ _ _) rfl (fun K hK => ?_) AllReadyH.nil
    go_simp
    go_wp2_with fail
    refine hK.out _ _ ?_ (fun hHeld => ?_)
    · trivial
    clear hK K
    try simp only [Act.put, List.setIfInBounds_toArray, List.set_cons_zero, List.set_cons_succ]
    refine wpAnyH_ready (rs := [2]) (by kernel_rfl) (by simp) ?_
    refine AllReadyH.cons (o := Oper.mk (some 5) _ _ _ _ _) rfl (fun K hK => ?_) AllReadyH.nil
    go_simp
    refine (HS.out _ (K0.trans (tkp_drew _))).mono ?_
    rintro e w1 ⟨sa', rfl, rS, k1⟩
    have X1 := (X0.kp (tkp_drew _)).kp k1
    obtain ⟨x10, x11, x12, x13⟩ := X1.all
    go_wp2_with fail
    refine hK.out _ _ ?_ (fun hHeld => ?_)
    · trivial
    clear hK K
    try simp only [Act.put, List.setIfInBounds_toArray, List.set_cons_zero, List.set_cons_succ]
    refine wpAnyH_take (i := 6) (oi := Oper.mk (some 9) _ _ _ _ _) (v := ?v6R) rfl (by kernel_rfl) (by kernel_rfl) (by kernel_rfl) (fun _ _ _ h => h) (Or.inl ⟨by rfl, ?hy6R⟩) (by assumption) ?rest6R
    case hy6R => (intro w0 hSw; (try dsimp only at hSw); go_simp; try with_reducible rfl)
    try simp only [Act.put, List.setIfInBounds_toArray, List.set_cons_zero, List.set_cons_succ]
    refine wpAnyH_ready (rs := [5]) (by kernel_rfl) (by simp) ?_
    refine AllReadyH.cons (o := Oper.mk (some 8) _ _ _ _ _) rfl (fun K hK => ?_) AllReadyH.nil
    go_simp
    refine (HD.out _ ((K0.trans (tkp_drew _)).trans k1)).mono ?_
    rintro e w2 ⟨da', rfl, rD, k2⟩
    have X2 := X1.kp k2
    obtain ⟨x20, x21, x22, x23⟩ := X2.all
    have f2 := X2.fr 2
    have f3 := X2.fr 3
    go_wp2_with fail
    refine hK.out _ _ ?_ (fun hHeld => ?_)
    · trivial
    clear hK K
    try simp only [Act.put, List.setIfInBounds_toArray, List.set_cons_zero, List.set_cons_succ]
    refine wpAnyH_ready (rs := [7]) (by kernel_rfl) (by simp) ?_
    refine AllReadyH.cons (o := Oper.mk none _ _ _ _ _) rfl (fun K hK => ?_) AllReadyH.nil
    go_simp
    go_wp2_with fail
    refine hK.out _ _ ?_ (fun hHeld => ?_)
    · trivial
    clear hK K
    try simp only [Act.put, List.setIfInBounds_toArray, List.set_cons_zero, List.set_cons_succ]
    refine wpAnyH_take (i := 8) (oi := Oper.mk (some 10) _ _ _ _ _) (v := ?v8R) rfl (by kernel_rfl) (by kernel_rfl) (by kernel_rfl) (fun _ _ _ h => h) (Or.inl ⟨by rfl, ?hy8R⟩) (by assumption) ?rest8R
    case hy8R => (intro w0 hSw; (try dsimp only at hSw); go_simp; try with_reducible rfl)
    try simp only [Act.put, List.setIfInBounds_toArray, List.set_cons_zero, List.set_cons_succ]
    refine wpAnyH_ready (rs := [9]) (by kernel_rfl) (by simp) ?_
    refine AllReadyH.cons (o := Oper.mk none _ _ _ _ _) rfl (fun K hK => ?_) AllReadyH.nil
    go_simp
    go_wp2_with fail
    refine hK.out _ _ ?_ (fun hHeld => ?_)
    · trivial
    clear hK K
    try simp only [Act.put, List.setIfInBounds_toArray, List.set_cons_zero, List.set_cons_succ]
    refine wpAnyH_done (by kernel_rfl) ?_ _
    refine NoPanic.normal ?_
    obtain ⟨W3, HW3, K3, X3, Y3, rS3, rD3⟩ := own_stored K0 X0 Y0 ((tkp_drew W0).trans k1) k2 (show w.heap.size + 1 < W0.drew.heap.size from hlt0) (Nat.lt_of_lt_of_le (show w.heap.size + 1 < W0.drew.heap.size from hlt0) k1.size) rS rD (.slice sa' sl sl) (.slice da' dl dl)
    have HA : Hid (Apt sa' sl da' dl) := own_apart rS rD
    rw [← HW3.out]
    clear HW3 x00 x01 x02 x03 x10 x11 x12 x13 x20 x21 x22 x23 f2 f3 k1 k2 rS rD X2 X1 X0 Y0 K0 HS HD
    obtain ⟨x30, x31, x32, x33⟩ := X3.all
    have y0 := Y3.fr 0
    have y1 := Y3.fr 1
    have y2 := Y3.fr 2
    have y3 := Y3.fr 3
    obtain ⟨z0, z1, z2, z3⟩ := Y3.all
    go_wp2
    obtain ⟨W4, HW4, K4, Y4, rS4, rD4⟩ := own_last K3 Y3 rS3 rD3 (.int .i64 p) (.int .i64 c) (.slice sa' sl sl) (.slice da' dl dl)
    rw [← HW4.out]
    exact bodyPost_ret (results_tk _ _ (w.heap.size + 1) p c sa' sl sl da' dl dl rfl Y4) rfl ⟨sa', da', rfl, rS4, rD4, HA.out, K4⟩

end Go.Proofs.Ytgdjdhkehgjgfaa.TK
