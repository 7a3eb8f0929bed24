/- What the statements ask of every program, and which views they speak of: walked. -/
import Derived.Test.YtnpbdcnogeohdaaRstFun
import Derived.Test.YtnpbdcnogeohdaaSlkThs
namespace Go.Proofs.Ytnpbdcnogeohdaa.RS
open Go.ChangeShapes Go.WideShapes Go.ChangeAt Go.RowKit Go.Proofs.Ytnpbdcnogeohdaa.AR Go.Proofs.Ytnpbdcnogeohdaa.TB Go.Proofs.Ytnpbdcnogeohdaa.TK Go.Proofs.Ytnpbdcnogeohdaa.JB Go.Proofs.Ytnpbdcnogeohdaa.FX Go.Proofs.Ytnpbdcnogeohdaa.AD Go.Proofs.Ytnpbdcnogeohdaa.SK
open Go.Proofs.Ytnpbdcnogeohdaa.LK (Hd atH HsAt C3)

set_option maxRecDepth 100000 in
set_option maxHeartbeats 4000000 in
theorem rgood_any (v : Vw) (a : Int) (w : World) (hv : VL w v) (b : Bare v) :
    Calls Try.prog 6 #[v.rv a] w fun e w' => e = .returned (.bool (goodV v a)) ∧ Kp w w' := by
  obtain ⟨W0, HW, K0, P0⟩ := rview_box w v a
  have HK : Hid (Kp w W0) := K0
  have HG : Hid (Calls Try.prog 12 #[v.rv a] W0 fun e w' => e = .returned (.bool (goodV v a)) ∧ Kp W0 w') := good_any v a W0 (hv.kept K0)
  have j0 : ((v.jl : Int) == 0) = true := by rw [b.jl]; rfl
  have h0 : ((v.hl : Int) == 0) = true := by rw [b.hl]; rfl
  obtain ⟨p0, p1, p2, p3, p4, p5, p6, p7, p8, p9, p10, p11, p12, p13, p14⟩ := P0.all
  generalize goodV v a = gd at *
  unfold Vw.rv at *
  clear K0 P0 hv b
  go_enter Try.func6, Try.ntmps6
  go_wp2_with fail
  rw [← HW.out]
  refine Calls.mono HG.out ?_
  rintro e w1 ⟨rfl, k1⟩
  go_wp2
  go_ret
  exact ⟨rfl, HK.out.trans k1⟩

/-! ### what is asked of every program -/

/-- a machine without a task, at 7 -/
abbrev vC (h : Nat) : Vw := ⟨aM h, none, 0, 0, [], none, 0, 0, [], none, 0, 0, [], none, 0, 0, [], 7⟩

theorem va_away (h t n : Nat) : awI (vA h t n) = 3 := by rfl
theorem vc_away (h : Nat) : awI (vC h) = 1024 := by rfl
theorem va_bare (h t n : Nat) : Bare (vA h t n) := ⟨rfl, rfl, rfl, rfl, rfl, rfl, rfl, rfl⟩
theorem vc_bare (h : Nat) : Bare (vC h) := ⟨rfl, rfl, rfl, rfl, rfl, rfl, rfl, rfl⟩
theorem vc_good (h : Nat) : VG (vC h) := ⟨ans_bd h, by simp, rfl, fun x hx => by simp at hx, by simp, fun k hk => by simp at hk, fun j hj => by simp at hj, fun i k x y hi => by simp at hi, by simp, fun x hx => by simp at hx⟩

/-- the blocks that are made ahead of the first call -/
structure Am (h : Nat) (W : World) : Prop where
  l : W.heap[h]? = some (.cells #[.int .i64 1, .int .i64 0] 42 (0, 0))
  p : B9 W (h + 1) (aM h)
theorem Am.kp {h : Nat} {W W' : World} (a : Am h W) (k : Kp W W') : Am h W' := ⟨kp_block a.l k, a.p.kp k⟩

theorem am_new (w : World) : ∃ W0, Hid (W0 = (w.alloc (.cells #[.int .i64 1, .int .i64 0] 42)).alloc (.cells #[.slice (some ⟨w.heap.size, 0, none⟩) 1 1, .slice none 0 0, .slice none 0 0, .int .i64 0, .int .i64 0, .int .i64 0, .int .i64 0, .int .i64 0, .int .i64 50] 26)) ∧ Am w.heap.size W0 ∧ Kp w W0 :=
  ⟨_, rfl, ⟨kp_block (heap_alloc_at _ _) ((Kp.refl _).alloc _), ⟨SK.alloc2_at _ _ _⟩⟩, ((Kp.refl _).alloc _).alloc _⟩

theorem vc_lies {h : Nat} {W : World} (a : Am h W) : VL W (vC h) := ⟨an_at a.l, no_ts _, RW.no_nums _ _, no_js _, no_hs _, by simp⟩

/-- a task and a number in blocks of their own -/
theorem va_lies2 {h : Nat} {W : World} (a : Am h W) (V : World) (e : V = (W.alloc (.cells #[.int .i64 4, .int .i64 1, .slice none 0 0, .slice none 0 0] 38)).alloc (.cells #[.int .i64 0] 3)) : VL V (vA h W.heap.size (W.heap.size + 1)) ∧ Kp W V := by
  subst e
  have k : Kp W ((W.alloc (.cells #[.int .i64 4, .int .i64 1, .slice none 0 0, .slice none 0 0] 38)).alloc (.cells #[.int .i64 0] 3)) := ((Kp.refl _).alloc _).alloc _
  have kt : ((W.alloc (.cells #[.int .i64 4, .int .i64 1, .slice none 0 0, .slice none 0 0] 38)).alloc (.cells #[.int .i64 0] 3)).heap[W.heap.size]? = some (.cells #[.int .i64 4, .int .i64 1, .slice none 0 0, .slice none 0 0] 38 (0, 0)) := kp_block (heap_alloc_at _ _) ((Kp.refl _).alloc _)
  refine ⟨⟨an_at (a.kp k).l, RW.lat_block kt rfl rfl (fun t ht => ?_) (by simp), RW.nat_block (SK.alloc2_at _ _ _) rfl rfl (fun z hz => ?_) (by simp), no_js _, no_hs _, by simp⟩, k⟩
  · simp only [List.mem_cons, List.not_mem_nil, or_false] at ht
    subst ht
    exact ⟨RW.no_nums _ _, RW.no_nums _ _⟩
  · simp only [List.mem_cons, List.not_mem_nil, or_false] at hz
    subst hz
    unfold I64; omega

set_option maxRecDepth 100000 in
set_option maxHeartbeats 8000000 in
theorem ranswers_any (w : World) :
    Calls Try.prog 7 #[] w fun e w' => e = .returned (.bool true) ∧ Kp w w' := by
  obtain ⟨W0, HW, A0, K0⟩ := am_new w
  have HA : Hid (∀ W, Kp W0 W → Am w.heap.size W) := fun W q => A0.kp q
  have HK : Hid (Kp w W0) := K0
  have H1 : Hid (Calls Try.prog 8 #[.agg #[.slice (some ⟨w.heap.size, 0, none⟩) 1 1, .slice none 0 0, .slice none 0 0, .int .i64 0, .int .i64 0, .int .i64 0, .int .i64 0, .int .i64 0, .int .i64 50], .slice none 0 0, .slice none 0 0, .int .i64 7] W0
      fun e w' => e = .returned (.int .i64 1031) ∧ Kp W0 w') := by
    have y := pready_any (vC w.heap.size) W0 (vc_lies A0) (vc_good _) (vc_bare _)
    rw [vc_away] at y
    exact y
  have H2 : Hid (∀ W V, Kp W0 W → V = (W.alloc (.cells #[.int .i64 4, .int .i64 1, .slice none 0 0, .slice none 0 0] 38)).alloc (.cells #[.int .i64 0] 3) → Calls Try.prog 8 #[.agg #[.slice (some ⟨w.heap.size, 0, none⟩) 1 1, .slice none 0 0, .slice none 0 0, .int .i64 0, .int .i64 0, .int .i64 0, .int .i64 0, .int .i64 0, .int .i64 50], .slice (some ⟨W.heap.size, 0, none⟩) 1 1, .slice (some ⟨W.heap.size + 1, 0, none⟩) 1 1, .int .i64 0] V
      fun e w' => e = .returned (.int .i64 3) ∧ Kp W w') := fun W V q e => by
    obtain ⟨z, k⟩ := va_lies2 (A0.kp q) V e
    have y := pready_any (vA w.heap.size W.heap.size (W.heap.size + 1)) V z (va_good _ _ _) (va_bare _ _ _)
    rw [va_away] at y
    exact y.mono fun e w' ⟨z1, z2⟩ => ⟨z1, k.trans z2⟩
  obtain ⟨p0, p1, p2, p3, p4, p5, p6, p7, p8⟩ := (HA.out _ (Kp.refl _)).p.all
  clear A0 K0
  go_enter Try.func7, Try.ntmps7
  go_wp2_with fail
  rw [← HW.out]
  clear HW
  refine Calls.mono H1.out ?_
  rintro e w1 ⟨rfl, k1⟩
  have HK1 : Hid (Kp W0 w1) := k1
  clear p0 p1 p2 p3 p4 p5 p6 p7 p8 H1 k1
  obtain ⟨p0, p1, p2, p3, p4, p5, p6, p7, p8⟩ := (HA.out _ HK1.out).p.all
  go_wp2_with fail
  refine Calls.mono (H2.out _ _ HK1.out rfl) ?_
  rintro e w2 ⟨rfl, k2⟩
  go_wp2
  go_ret
  exact ⟨rfl, HK.out.trans (HK1.out.trans k2)⟩

end Go.Proofs.Ytnpbdcnogeohdaa.RS
