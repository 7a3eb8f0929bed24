/- What is looked for among jobs, by a function literal; the two literals of slack. -/
import Derived.Test.YtnpbdcnogeohdaaSlkPlain
import Derived.Shelf.Abstract
import Derived.BigQuiet
import Derived.Test.YtnpbdcnogeohdaaRowAt
import Derived.StillTailTactics
import Derived.Deep.RegionHeld3
import Derived.OwnWalk
import Derived.BigRegion
namespace Go.Proofs.Ytnpbdcnogeohdaa.SK
open Go.ChangeShapes Go.WideShapes Go.ChangeAt Go.RowKit Go.Proofs.Ytnpbdcnogeohdaa.AR Go.Proofs.Ytnpbdcnogeohdaa.TB Go.Proofs.Ytnpbdcnogeohdaa.TK Go.Proofs.Ytnpbdcnogeohdaa.JB Go.Proofs.Ytnpbdcnogeohdaa.FX Go.Proofs.Ytnpbdcnogeohdaa.AD
open Go.Proofs.Ytnpbdcnogeohdaa.LK (Hd atH HsAt C3)

/-- the first place of one that is so, or -1 -/
def FstJ (f : Jb → Bool) (J : List Jb) (x : Int) : Prop := (x = -1 ∧ ∀ j ∈ J, f j = false) ∨ ∃ (k : Nat) (j : Jb), x = k ∧ J[k]? = some j ∧ f j = true
theorem FstJ.any {f : Jb → Bool} {J : List Jb} {x : Int} (h : FstJ f J x) : decide (0 ≤ x) = J.any f := by
  rcases h with ⟨rfl, h⟩ | ⟨k, j, rfl, hj, hf⟩
  · have : J.any f = false := by rw [List.any_eq_false]; intro j hj; simp [h j hj]
    rw [this]; rfl
  · have : J.any f = true := List.any_eq_true.2 ⟨j, List.mem_of_getElem? hj, hf⟩
    rw [this]; simp

/-- a function literal over jobs that answers f, wherever it is called from w on -/
def LitJ (w : World) (n : Nat) (cap : Array Value) (f : Jb → Bool) : Prop :=
  ∀ w' j, Kp w w' → Calls Try.prog n (#[.agg #[.int .i64 j.t, .int .i64 j.r, .int .i64 j.d, .int .i64 j.l, .int .i64 j.x, .bool j.s]] ++ cap) w' fun e w'' => e = .returned (.bool (f j)) ∧ Kp w' w''

theorem anyJ_none {f : Jb → Bool} {J : List Jb} {len : Nat} (hl : J.length = len) (h : ∀ i j, i < len → J[i]? = some j → f j = false) : ∀ j ∈ J, f j = false := by
  intro j hj
  obtain ⟨i, hi, e⟩ := List.mem_iff_getElem.1 hj
  exact h i j (by omega) (by rw [List.getElem?_eq_getElem hi, e])

set_option maxHeartbeats 4000000 in
theorem indexJ_any (n : Nat) (ca cb : Value) (f : Jb → Bool) (ao : Option Addr) (len cap : Nat) (J : List Jb) (w : World) (h : JsAt w ao len J) (hn : ∀ (args : Array Value) (w : World), (callFunc n args).run Try.prog w = .ok (.enter n args) w) (hf : LitJ w n #[ca, cb] f) :
    Calls Try.prog 58 #[.slice ao len cap, .func (.func n) #[] #[ca, cb]] w
      fun e w' => (∃ x : Int, e = .returned (.int .i64 x) ∧ FstJ f J x) ∧ Kp w w' := by
  have HF : Hid (∀ w' j, Kp w w' → Calls Try.prog n #[.agg #[.int .i64 j.t, .int .i64 j.r, .int .i64 j.d, .int .i64 j.l, .int .i64 j.x, .bool j.s], ca, cb] w' fun e w'' => e = .returned (.bool (f j)) ∧ Kp w' w'') := fun w' j k => hf w' j k
  have hby := h.by'
  have HJ : Hid (JsAt w ao len J) := h
  clear hf h
  go_enter Try.func58, Try.ntmps58
  go_wp2
  go_loopw [8] (fun i wr => ∃ k : Nat, k ≤ len ∧ i = .int .i64 k ∧ Hid (∀ i j, i < k → J[i]? = some j → f j = false) ∧ Kp w wr) (fun i _ => len - (intOf i).toNat)
  case atStart => exact ⟨0, Nat.zero_le _, rfl, fun i j hi => by omega, Kp.refl _⟩
  case round =>
    obtain ⟨k, hk, rfl, HL, hkp⟩ := hrel
    by_cases hlt : k < len
    · have hlt' : (k : Int) < (len : Int) := by omega
      obtain ⟨b, off, j, rfl, hb, hg, hi, c0, c1, c2, c3, c4, c5⟩ := (HJ.out.kept hkp).one hlt
      have HC := HF.out wr j hkp
      cases hq : f j with
      | true =>
        rw [hq] at HC
        have HN : Hid (FstJ f J (k : Int)) := .inr ⟨k, j, rfl, hg, hq⟩
        clear hq HL hg hi
        go_wp2_with fail
        refine HC.mono ?_
        rintro e w1 ⟨rfl, k1⟩
        go_wp2
        go_ret
        exact ⟨⟨k, rfl, HN.out⟩, hkp.trans k1⟩
      | false =>
        rw [hq] at HC
        have HN : Hid (∀ i j, i < k + 1 → J[i]? = some j → f j = false) := fun i y hi hy => by
          by_cases hik : i < k
          · exact HL.out i y hik hy
          · obtain rfl : i = k := by omega
            rw [hg] at hy; cases hy; exact hq
        clear hq HL hg hi
        go_wp2_with fail
        refine HC.mono ?_
        rintro e w1 ⟨rfl, k1⟩
        go_wp2
        go_roundw
        case rel => exact ⟨k + 1, by omega, by go_num, HN, hkp.trans k1⟩
        case measure => simp [intOf]; omega
    · have hlt' : ¬ (k : Int) < (len : Int) := by omega
      have HN : Hid (FstJ f J (-1)) := .inl ⟨rfl, anyJ_none HJ.out.ln (fun i j hi hj => HL.out i j (by omega) hj)⟩
      go_wp2
      go_ret
      exact ⟨⟨-1, rfl, HN.out⟩, hkp⟩

theorem containsJ_any (n : Nat) (ca cb : Value) (f : Jb → Bool) (ao : Option Addr) (len cap : Nat) (J : List Jb) (w : World) (h : JsAt w ao len J) (hn : ∀ (args : Array Value) (w : World), (callFunc n args).run Try.prog w = .ok (.enter n args) w) (hf : LitJ w n #[ca, cb] f) :
    Calls Try.prog 52 #[.slice ao len cap, .func (.func n) #[] #[ca, cb]] w
      fun e w' => e = .returned (.bool (J.any f)) ∧ Kp w w' := by
  have HI := indexJ_any n ca cb f ao len cap J w h hn hf
  go_enter Try.func52, Try.ntmps52
  go_wp2_with fail
  refine HI.mono ?_
  rintro e w1 ⟨⟨x, rfl, hx⟩, k1⟩
  have HX : Hid (decide (0 ≤ x) = J.any f) := hx.any
  clear hx
  by_cases hz : 0 ≤ x
  · have HY : Hid (J.any f = true) := by rw [← HX.out]; exact decide_eq_true hz
    go_wp2
    go_ret
    exact ⟨by rw [HY.out]; simp_all, k1⟩
  · have HY : Hid (J.any f = false) := by rw [← HX.out]; exact decide_eq_false hz
    go_wp2
    go_ret
    exact ⟨by rw [HY.out]; simp_all, k1⟩

set_option maxHeartbeats 4000000 in
/-- a job of the holder's, with its Deadline behind -/
theorem late_lit (t a : Int) (B C : Nat) (w : World) (hB : B < w.heap.size) (hC : C < w.heap.size) (cB : w.cell? ⟨B, 0, none⟩ = some (.int .i64 t)) (cC : w.cell? ⟨C, 0, none⟩ = some (.int .i64 a)) :
    LitJ w 51 #[.pointer (some ⟨B, 0, none⟩), .pointer (some ⟨C, 0, none⟩)] (fun j => (j.t == t) && decide (a < j.d)) := by
  intro w' j hk
  show Calls Try.prog 51 #[.agg #[.int .i64 j.t, .int .i64 j.r, .int .i64 j.d, .int .i64 j.l, .int .i64 j.x, .bool j.s], .pointer (some ⟨B, 0, none⟩), .pointer (some ⟨C, 0, none⟩)] w' _
  have e1 : w'.cell? ⟨B, 0, none⟩ = some (.int .i64 t) := (hk.cell (p := ⟨B, 0, none⟩) hB).trans cB
  have e2 : w'.cell? ⟨C, 0, none⟩ = some (.int .i64 a) := (hk.cell (p := ⟨C, 0, none⟩) hC).trans cC
  have hB' : B < w'.heap.size := Nat.lt_of_lt_of_le hB hk.size
  have hC' : C < w'.heap.size := Nat.lt_of_lt_of_le hC hk.size
  clear hk cB cC hB hC
  obtain ⟨res, hres⟩ : ∃ res, ((j.t == t) && decide (a < j.d)) = res := ⟨_, rfl⟩
  simp only [hres]
  by_cases h1 : j.t = t
  · have q1 : (j.t == t) = true := by simpa using h1
    rw [q1, Bool.true_and] at hres
    have HR : Hid (decide (a < j.d) = res) := hres
    clear hres h1
    go_enter Try.func51, Try.ntmps51
    go_wp2
    go_ret
    exact ⟨congrArg (fun b => Ending.returned (Value.bool b)) HR.out, (Kp.refl _).alloc _⟩
  · have q1 : (j.t == t) = false := by simpa using h1
    rw [q1, Bool.false_and] at hres
    have HR : Hid (false = res) := hres
    clear hres h1
    go_enter Try.func51, Try.ntmps51
    go_wp2
    go_ret
    exact ⟨congrArg (fun b => Ending.returned (Value.bool b)) HR.out, (Kp.refl _).alloc _⟩

set_option maxHeartbeats 4000000 in
/-- a job of that task's, with its Deadline up to a -/
theorem due_lit (t a : Int) (B C : Nat) (w : World) (hB : B < w.heap.size) (hC : C < w.heap.size) (cB : w.cell? ⟨B, 0, none⟩ = some (.int .i64 t)) (cC : w.cell? ⟨C, 0, none⟩ = some (.int .i64 a)) :
    LitJ w 62 #[.pointer (some ⟨B, 0, none⟩), .pointer (some ⟨C, 0, none⟩)] (fun j => (j.t == t) && decide (j.d ≤ a)) := by
  intro w' j hk
  show Calls Try.prog 62 #[.agg #[.int .i64 j.t, .int .i64 j.r, .int .i64 j.d, .int .i64 j.l, .int .i64 j.x, .bool j.s], .pointer (some ⟨B, 0, none⟩), .pointer (some ⟨C, 0, none⟩)] w' _
  have e1 : w'.cell? ⟨B, 0, none⟩ = some (.int .i64 t) := (hk.cell (p := ⟨B, 0, none⟩) hB).trans cB
  have e2 : w'.cell? ⟨C, 0, none⟩ = some (.int .i64 a) := (hk.cell (p := ⟨C, 0, none⟩) hC).trans cC
  have hB' : B < w'.heap.size := Nat.lt_of_lt_of_le hB hk.size
  have hC' : C < w'.heap.size := Nat.lt_of_lt_of_le hC hk.size
  clear hk cB cC hB hC
  obtain ⟨res, hres⟩ : ∃ res, ((j.t == t) && decide (j.d ≤ a)) = res := ⟨_, rfl⟩
  simp only [hres]
  by_cases h1 : j.t = t
  · have q1 : (j.t == t) = true := by simpa using h1
    rw [q1, Bool.true_and] at hres
    have HR : Hid (decide (j.d ≤ a) = res) := hres
    clear hres h1
    go_enter Try.func62, Try.ntmps62
    go_wp2
    go_ret
    exact ⟨congrArg (fun b => Ending.returned (Value.bool b)) HR.out, (Kp.refl _).alloc _⟩
  · have q1 : (j.t == t) = false := by simpa using h1
    rw [q1, Bool.false_and] at hres
    have HR : Hid (false = res) := hres
    clear hres h1
    go_enter Try.func62, Try.ntmps62
    go_wp2
    go_ret
    exact ⟨congrArg (fun b => Ending.returned (Value.bool b)) HR.out, (Kp.refl _).alloc _⟩

set_option maxHeartbeats 4000000 in
theorem period_any (v : Vw) (k : Nat) (w : World) (h : VL w v) (hk : k < v.tl) :
    Calls Try.prog 48 #[v.v, .int .i64 k] w fun e w' => e = .returned (.int .i64 (pk v.T k)) ∧ Kp w w' := by
  obtain ⟨b, off, t, e, hb, hg, ht, c0, c1, c2, c3⟩ := h.t.one hk
  rw [pk_at hg]
  clear h hg ht
  have h1 : ¬ (k : Int) < 0 := by omega
  have h2 : (k : Int) < (v.tl : Int) := by omega
  have h3 : ¬ (v.tl : Int) ≤ (k : Int) := by omega
  unfold Vw.v
  rw [e]
  go_enter Try.func48, Try.ntmps48
  go_wp2
  go_ret
  exact ⟨rfl, (Kp.refl _).alloc _⟩

set_option maxHeartbeats 4000000 in
theorem comes_any (v : Vw) (k : Nat) (w : World) (h : VL w v) (hk : k < v.nl) :
    Calls Try.prog 46 #[v.v, .int .i64 k] w fun e w' => e = .returned (.int .i64 (coI v k)) ∧ Kp w w' := by
  obtain ⟨b, off, e, hb, c0⟩ := h.n.one hk
  have HC : Hid (coI v k = mx (v.N.getD k 0) v.now) := rfl
  have MX : ∀ ts t w, (Builtin.max_ ts t #[.int .i64 (v.N.getD k 0), .int .i64 v.now]).run Try.prog w = .ok (.int .i64 (mx (v.N.getD k 0) v.now)) w := fun ts t w => run_max2 ts t (v.N.getD k 0) v.now w
  obtain ⟨W0, HW, K0, P0⟩ := view_box w v
  have e0 : W0.cell? ⟨b, off + k, none⟩ = some (.int .i64 (v.N.getD k 0)) := (K0.cell (by exact hb)).trans c0
  have HK : Hid (Kp w W0) := K0
  obtain ⟨p0, p1, p2, p3, p4, p5, p6, p7, p8, p9, p10, p11, p12, p13⟩ := P0.all
  generalize mx (v.N.getD k 0) v.now = r at *
  generalize v.N.getD k 0 = x at *
  clear h K0 P0 c0
  have h1 : ¬ (k : Int) < 0 := by omega
  have h2 : (k : Int) < (v.nl : Int) := by omega
  have h3 : ¬ (v.nl : Int) ≤ (k : Int) := by omega
  have h4 : 0 ≤ (k : Int) := by omega
  have h5 : (k : Int).toNat = k := by omega
  unfold Vw.v
  rw [e] at *
  go_enter Try.func46, Try.ntmps46
  go_wp2_with fail
  rw [← HW.out]
  clear HW
  go_region
  all_goals
    go_wp2
    go_ret
    exact ⟨congrArg (fun x => Ending.returned (Value.int .i64 x)) HC.out.symm, by first | exact HK.out | exact HK.out.trans (TB.kp_drew _)⟩

theorem istask_any (t : Tk) (w : World) :
    Calls Try.prog 34 #[t.v] w fun e w' => e = .returned (.bool (decide (t.p ≠ 0))) ∧ Kp w w' := by
  unfold Tk.v
  by_cases h : t.p = 0
  · rw [decide_eq_false (by simpa using h)]
    have h' : (t.p == 0) = true := by simpa using h
    go_enter Try.func34, Try.ntmps34
    go_wp2
    go_ret
    exact ⟨by simp_all, (Kp.refl _).alloc _⟩
  · rw [decide_eq_true h]
    have h' : (t.p == 0) = false := by simpa using h
    go_enter Try.func34, Try.ntmps34
    go_wp2
    go_ret
    exact ⟨by simp_all, (Kp.refl _).alloc _⟩

set_option maxHeartbeats 4000000 in
theorem slow_any (m : Mc) (w : World) (h : m.At w) (hb : Bd m) :
    Calls Try.prog 42 #[m.v] w fun e w' => e = .returned (.int .i64 (slw m)) ∧ Kp w w' := by
  have c := hb.cr
  obtain ⟨k, hk⟩ : ∃ k : Nat, m.crit = (k : Int) := ⟨m.crit.toNat, by omega⟩
  have hkl : k < m.lL := by omega
  obtain ⟨b, off, e, hlt, hc⟩ := lev_at h hkl (Kp.refl _)
  have e1 : slw m = fd m.rL k 0 := by unfold slw; rw [hk]; rfl
  rw [e1]
  generalize fd m.rL k 0 = x at *
  clear h hb c
  have h1 : ¬ (k : Int) < 0 := by omega
  have h2 : (k : Int) < (m.lL : Int) := by omega
  have h3 : ¬ (m.lL : Int) ≤ (k : Int) := by omega
  unfold Mc.v
  rw [e, hk]
  clear e hk e1
  go_enter Try.func42, Try.ntmps42
  go_wp2
  go_ret
  exact ⟨rfl, (Kp.refl _).alloc _⟩

set_option maxHeartbeats 4000000 in
theorem next_any (v : Vw) (k : Nat) (w : World) (h : VL w v) (g : VG v) (hk : k < v.tl) :
    Calls Try.prog 35 #[v.v, .int .i64 k] w fun e w' => e = .returned (.int .i64 (ndI v k)) ∧ Kp w w' := by
  obtain ⟨W0, HW, K0, P0⟩ := view_box w v
  have HP : Hid (∀ W, Kp W0 W → B14 W w.heap.size v) := fun W k => P0.kp k
  have HK : Hid (Kp w W0) := K0
  have HC : Hid (∀ W, Kp W0 W → Calls Try.prog 46 #[v.v, .int .i64 k] W fun e w' => e = .returned (.int .i64 (coI v k)) ∧ Kp W w') := fun W q => comes_any v k W (h.kept (K0.trans q)) (by rw [g.nl]; exact hk)
  have HD : Hid (∀ W, Kp W0 W → Calls Try.prog 48 #[v.v, .int .i64 k] W fun e w' => e = .returned (.int .i64 (pk v.T k)) ∧ Kp W w') := fun W q => period_any v k W (h.kept (K0.trans q)) hk
  have HR : Hid (ndI v k = coI v k + pk v.T k) := rfl
  have b1 := coI_bd g hk
  have b2 := pk_bd g k
  generalize ndI v k = res at *
  generalize coI v k = x at *
  generalize pk v.T k = y at *
  have s1 : IntKind.i64.wrap (x + y) = x + y := wrapI (by omega)
  obtain ⟨p0, p1, p2, p3, p4, p5, p6, p7, p8, p9, p10, p11, p12, p13⟩ := P0.all
  unfold Vw.v at *
  clear K0 P0 h g b1 b2
  go_enter Try.func35, Try.ntmps35
  go_wp2_with fail
  rw [← HW.out]
  clear HW
  go_region_held3 (fun w' => w'.cell? ⟨w.heap.size, 0, none⟩ = some (.slice v.m.aL v.m.lL v.m.cL) ∧ w'.cell? ⟨w.heap.size, 1, none⟩ = some (.slice v.m.aS v.m.lS v.m.cS) ∧ w'.cell? ⟨w.heap.size, 2, none⟩ = some (.slice v.m.aD v.m.lD v.m.cD) ∧ w'.cell? ⟨w.heap.size, 3, none⟩ = some (.int .i64 v.m.idle) ∧ w'.cell? ⟨w.heap.size, 4, none⟩ = some (.int .i64 v.m.crit) ∧ w'.cell? ⟨w.heap.size, 5, none⟩ = some (.int .i64 v.m.sw) ∧ w'.cell? ⟨w.heap.size, 6, none⟩ = some (.int .i64 v.m.swe) ∧ w'.cell? ⟨w.heap.size, 7, none⟩ = some (.int .i64 v.m.sems) ∧ w'.cell? ⟨w.heap.size, 8, none⟩ = some (.int .i64 v.m.hor) ∧ w'.cell? ⟨w.heap.size, 9, none⟩ = some (.slice v.ta v.tl v.tc) ∧ w'.cell? ⟨w.heap.size, 10, none⟩ = some (.slice v.na v.nl v.nc) ∧ w'.cell? ⟨w.heap.size, 11, none⟩ = some (.slice v.ja v.jl v.jc) ∧ w'.cell? ⟨w.heap.size, 12, none⟩ = some (.slice v.ha v.hl v.hc) ∧ w'.cell? ⟨w.heap.size, 13, none⟩ = some (.int .i64 v.now)) (go_keep) (first
    | (go_at_call 46; refine (HC.out _ ?_).mono ?_; first | exact Kp.refl _ | exact TB.kp_drew _; rintro e w3 ⟨rfl, k3⟩; have K3 : Kp W0 w3 := (by first | exact (TB.kp_drew _).trans k3 | exact k3); clear k3; obtain ⟨z0, z1, z2, z3, z4, z5, z6, z7, z8, z9, z10, z11, z12, z13⟩ := (HP.out _ K3).all)
    | (go_at_call 48; refine (HD.out _ K3).mono ?_; rintro e w4 ⟨rfl, k4⟩; have K4 := K3.trans k4; clear k4; obtain ⟨z0, z1, z2, z3, z4, z5, z6, z7, z8, z9, z10, z11, z12, z13⟩ := (HP.out _ K4).all)
    | fail)
  all_goals
    go_wp2
    go_ret
    exact ⟨congrArg (fun x => Ending.returned (Value.int .i64 x)) HR.out.symm, HK.out.trans K4⟩

theorem one_cell {w : World} {b : Nat} {x : Value} {t : TypeId} {q : Nat × Nat} (h : w.heap[b]? = some (.cells #[x] t q)) : w.cell? ⟨b, 0, none⟩ = some x := by simp [World.cell?, h]

theorem three_ints (w : World) (v : Vw) (a b : Int) : ∃ W0, Hid (W0 = ((w.alloc (.cells #[.slice v.m.aL v.m.lL v.m.cL, .slice v.m.aS v.m.lS v.m.cS, .slice v.m.aD v.m.lD v.m.cD, .int .i64 v.m.idle, .int .i64 v.m.crit, .int .i64 v.m.sw, .int .i64 v.m.swe, .int .i64 v.m.sems, .int .i64 v.m.hor, .slice v.ta v.tl v.tc, .slice v.na v.nl v.nc, .slice v.ja v.jl v.jc, .slice v.ha v.hl v.hc, .int .i64 v.now] 47)).alloc (.cells #[.int .i64 a] 3)).alloc (.cells #[.int .i64 b] 3)) ∧ Kp w W0 ∧ B14 W0 w.heap.size v ∧ W0.cell? ⟨w.heap.size + 1, 0, none⟩ = some (.int .i64 a) ∧ W0.cell? ⟨w.heap.size + 2, 0, none⟩ = some (.int .i64 b) ∧ w.heap.size + 2 < W0.heap.size := by
  refine ⟨_, rfl, (((Kp.refl _).alloc _).alloc _).alloc _, (b14_new w v).kp (((Kp.refl _).alloc _).alloc _), ?_, ?_, ?_⟩
  · have hh := heap_alloc_at (w.alloc (.cells #[.slice v.m.aL v.m.lL v.m.cL, .slice v.m.aS v.m.lS v.m.cS, .slice v.m.aD v.m.lD v.m.cD, .int .i64 v.m.idle, .int .i64 v.m.crit, .int .i64 v.m.sw, .int .i64 v.m.swe, .int .i64 v.m.sems, .int .i64 v.m.hor, .slice v.ta v.tl v.tc, .slice v.na v.nl v.nc, .slice v.ja v.jl v.jc, .slice v.ha v.hl v.hc, .int .i64 v.now] 47)) (.cells #[.int .i64 a] 3)
    rw [World.size_alloc] at hh
    have hh2 := kp_block hh ((Kp.refl _).alloc (.cells #[.int .i64 b] 3))
    exact one_cell hh2
  · have hh := heap_alloc_at ((w.alloc (.cells #[.slice v.m.aL v.m.lL v.m.cL, .slice v.m.aS v.m.lS v.m.cS, .slice v.m.aD v.m.lD v.m.cD, .int .i64 v.m.idle, .int .i64 v.m.crit, .int .i64 v.m.sw, .int .i64 v.m.swe, .int .i64 v.m.sems, .int .i64 v.m.hor, .slice v.ta v.tl v.tc, .slice v.na v.nl v.nc, .slice v.ja v.jl v.jc, .slice v.ha v.hl v.hc, .int .i64 v.now] 47)).alloc (.cells #[.int .i64 a] 3)) (.cells #[.int .i64 b] 3)
    rw [World.size_alloc, World.size_alloc] at hh
    exact one_cell hh
  · simp only [World.size_alloc]; omega

set_option maxHeartbeats 8000000 in
theorem asks_any (v : Vw) (k : Nat) (a : Int) (w : World) (h : VL w v) (g : VG v) (hk : k < v.tl) :
    Calls Try.prog 54 #[v.v, .int .i64 k, .int .i64 a] w fun e w' => e = .returned (.bool (asksB v k a)) ∧ Kp w w' := by
  have hmf : ∀ (fn : Fn) (first cap : Array Value) (w : World), (Instr.makeFunc fn first cap).run Try.prog w = .ok (.func fn first cap) w := fun _ _ _ _ => rfl
  obtain ⟨W0, HW, K0, P0, cB, cC, hsz⟩ := three_ints w v k a
  have HP : Hid (∀ W, Kp W0 W → B14 W w.heap.size v ∧ W.cell? ⟨w.heap.size + 1, 0, none⟩ = some (.int .i64 k) ∧ W.cell? ⟨w.heap.size + 2, 0, none⟩ = some (.int .i64 a)) := fun W q => ⟨P0.kp q, (q.cell (p := ⟨w.heap.size + 1, 0, none⟩) (by show w.heap.size + 1 < _; omega)).trans cB, (q.cell (p := ⟨w.heap.size + 2, 0, none⟩) (by show w.heap.size + 2 < _; omega)).trans cC⟩
  have HK : Hid (Kp w W0) := K0
  have HD : Hid (∀ W, Kp W0 W → Calls Try.prog 35 #[v.v, .int .i64 k] W fun e w' => e = .returned (.int .i64 (ndI v k)) ∧ Kp W w') := fun W q => next_any v k W (h.kept (K0.trans q)) g hk
  have HL : Hid (∀ W, Kp W0 W → Calls Try.prog 52 #[.slice v.ja v.jl v.jc, .func (.func 62) #[] #[.pointer (some ⟨w.heap.size + 1, 0, none⟩), .pointer (some ⟨w.heap.size + 2, 0, none⟩)]] W
      fun e w' => e = .returned (.bool (dueB v k a)) ∧ Kp W w') := fun W q => containsJ_any _ _ _ _ _ _ _ _ W (h.j.kept (K0.trans q)) (enters_of Try.func62 (by kernel_rfl) rfl)
        (due_lit k a (w.heap.size + 1) (w.heap.size + 2) W (by have := q.size; omega) (by have := q.size; omega) ((q.cell (p := ⟨w.heap.size + 1, 0, none⟩) (by show w.heap.size + 1 < _; omega)).trans cB) ((q.cell (p := ⟨w.heap.size + 2, 0, none⟩) (by show w.heap.size + 2 < _; omega)).trans cC))
  have HR : Hid (asksB v k a = (decide (ndI v k ≤ a) || dueB v k a)) := rfl
  have b1 := ndI_bd g hk
  generalize asksB v k a = res at *
  generalize ndI v k = x at *
  generalize dueB v k a = y at *
  obtain ⟨p0, p1, p2, p3, p4, p5, p6, p7, p8, p9, p10, p11, p12, p13⟩ := P0.all
  unfold Vw.v at *
  clear K0 P0 h g b1 hsz
  by_cases hx : x ≤ a
  · have hd : decide (x ≤ a) = true := decide_eq_true hx
    have HN : Hid (true = res) := by have := HR.out; rw [hd, Bool.true_or] at this; exact this.symm
    clear HR HL
    go_enter Try.func54, Try.ntmps54
    go_wp2_with fail
    rw [← HW.out]
    clear HW
    refine wp_region_noPanic ?_
    refine wp_region_held_drew (S := fun w' => w'.cell? ⟨w.heap.size, 0, none⟩ = some (.slice v.m.aL v.m.lL v.m.cL) ∧ w'.cell? ⟨w.heap.size, 1, none⟩ = some (.slice v.m.aS v.m.lS v.m.cS) ∧ w'.cell? ⟨w.heap.size, 2, none⟩ = some (.slice v.m.aD v.m.lD v.m.cD) ∧ w'.cell? ⟨w.heap.size, 3, none⟩ = some (.int .i64 v.m.idle) ∧ w'.cell? ⟨w.heap.size, 4, none⟩ = some (.int .i64 v.m.crit) ∧ w'.cell? ⟨w.heap.size, 5, none⟩ = some (.int .i64 v.m.sw) ∧ w'.cell? ⟨w.heap.size, 6, none⟩ = some (.int .i64 v.m.swe) ∧ w'.cell? ⟨w.heap.size, 7, none⟩ = some (.int .i64 v.m.sems) ∧ w'.cell? ⟨w.heap.size, 8, none⟩ = some (.int .i64 v.m.hor) ∧ w'.cell? ⟨w.heap.size, 9, none⟩ = some (.slice v.ta v.tl v.tc) ∧ w'.cell? ⟨w.heap.size, 10, none⟩ = some (.slice v.na v.nl v.nc) ∧ w'.cell? ⟨w.heap.size, 11, none⟩ = some (.slice v.ja v.jl v.jc) ∧ w'.cell? ⟨w.heap.size, 12, none⟩ = some (.slice v.ha v.hl v.hc) ∧ w'.cell? ⟨w.heap.size, 13, none⟩ = some (.int .i64 v.now) ∧ w'.cell? ⟨w.heap.size + 1, 0, none⟩ = some (.int .i64 k) ∧ w'.cell? ⟨w.heap.size + 2, 0, none⟩ = some (.int .i64 a)) (by kernel_rfl) ?_ (fun hHeld => ?_)
    · (try dsimp only); go_keep
    refine wpAnyH_take (i := 0) (oi := Oper.mk (some 9) _ _ _ _ _) (v := ?v0a) rfl (by kernel_rfl) (by kernel_rfl) (by kernel_rfl) (fun _ _ _ h => h) (Or.inl ⟨by rfl, ?hy0a⟩) (by assumption) ?rest0a
    case hy0a => (intro w0 hSw; (try dsimp only at hSw); go_simp; try with_reducible rfl)
    try simp only [Act.put, List.setIfInBounds_toArray, List.set_cons_zero, List.set_cons_succ]
    refine wpAnyH_take (i := 1) (oi := Oper.mk (some 10) _ _ _ _ _) (v := ?v1a) rfl (by kernel_rfl) (by kernel_rfl) (by kernel_rfl) (fun _ _ _ h => h) (Or.inl ⟨by rfl, ?hy1a⟩) (by assumption) ?rest1a
    case hy1a => (intro w0 hSw; (try dsimp only at hSw); go_simp; try with_reducible rfl)
    try simp only [Act.put, List.setIfInBounds_toArray, List.set_cons_zero, List.set_cons_succ]
    refine wpAnyH_take (i := 3) (oi := Oper.mk (some 12) _ _ _ _ _) (v := ?v3a) rfl (by kernel_rfl) (by kernel_rfl) (by kernel_rfl) (fun _ _ _ h => h) (Or.inl ⟨by rfl, ?hy3a⟩) (by assumption) ?rest3a
    case hy3a => (intro w0 hSw; (try dsimp only at hSw); go_simp; try with_reducible rfl)
    try simp only [Act.put, List.setIfInBounds_toArray, List.set_cons_zero, List.set_cons_succ]
    refine wpAnyH_ready (rs := [2]) (by kernel_rfl) (by simp) ?_
    refine AllReadyH.cons (o := Oper.mk (some 11) _ _ _ _ _) rfl (fun K hK => ?_) AllReadyH.nil
    go_simp
    refine (HD.out _ ?_).mono ?_
    first | exact Kp.refl _ | exact TB.kp_drew _
    rintro e w3 ⟨rfl, k3⟩
    have K3 : Kp W0 w3 := (by first | exact (TB.kp_drew _).trans k3 | exact k3)
    clear k3
    obtain ⟨q1, y14, y15⟩ := HP.out _ K3
    obtain ⟨z0, z1, z2, z3, z4, z5, z6, z7, z8, z9, z10, z11, z12, z13⟩ := q1.all
    clear q1
    go_wp2_with fail
    refine hK.out _ _ ?_ (fun hHeld => ?_)
    · (try dsimp only); go_keep
    clear hK K
    try simp only [Act.put, List.setIfInBounds_toArray, List.set_cons_zero, List.set_cons_succ]
    refine wpAnyH_take (i := 4) (oi := Oper.mk (some 13) _ _ _ _ _) (v := ?v4a) rfl (by kernel_rfl) (by kernel_rfl) (by kernel_rfl) (fun _ _ _ h => h) (Or.inl ⟨by rfl, ?hy4a⟩) (by assumption) ?rest4a
    case hy4a => (intro w0 hSw; (try dsimp only at hSw); go_simp; try with_reducible rfl)
    try simp only [Act.put, List.setIfInBounds_toArray, List.set_cons_zero, List.set_cons_succ]
    refine wpAnyH_take (i := 5) (oi := Oper.mk (some 14) _ _ _ _ _) (v := ?v5a) rfl (by kernel_rfl) (by kernel_rfl) (by kernel_rfl) (fun _ _ _ h => h) (Or.inl ⟨by rfl, ?hy5a⟩) (by assumption) ?rest5a
    case hy5a => (intro w0 hSw; (try dsimp only at hSw); go_simp; try with_reducible rfl)
    try simp only [Act.put, List.setIfInBounds_toArray, List.set_cons_zero, List.set_cons_succ]
    refine wpAnyH_take (i := 6) (oi := Oper.mk (some 15) _ _ _ _ _) (v := undef) rfl (by kernel_rfl) (by kernel_rfl) (by kernel_rfl) (fun _ _ _ h => h) (Or.inr ⟨by rfl, rfl⟩) (by assumption) ?_
    try simp only [Act.put, List.setIfInBounds_toArray, List.set_cons_zero, List.set_cons_succ]
    refine wpAnyH_take (i := 7) (oi := Oper.mk (some 16) _ _ _ _ _) (v := undef) rfl (by kernel_rfl) (by kernel_rfl) (by kernel_rfl) (fun _ _ _ h => h) (Or.inr ⟨by rfl, rfl⟩) (by assumption) ?_
    try simp only [Act.put, List.setIfInBounds_toArray, List.set_cons_zero, List.set_cons_succ]
    refine wpAnyH_take (i := 8) (oi := Oper.mk (some 17) _ _ _ _ _) (v := undef) rfl (by kernel_rfl) (by kernel_rfl) (by kernel_rfl) (fun _ _ _ h => h) (Or.inr ⟨by rfl, rfl⟩) (by assumption) ?_
    try simp only [Act.put, List.setIfInBounds_toArray, List.set_cons_zero, List.set_cons_succ]
    refine wpAnyH_take (i := 9) (oi := Oper.mk (some 18) _ _ _ _ _) (v := undef) rfl (by kernel_rfl) (by kernel_rfl) (by kernel_rfl) (fun _ _ _ h => h) (Or.inr ⟨by rfl, rfl⟩) (by assumption) ?_
    try simp only [Act.put, List.setIfInBounds_toArray, List.set_cons_zero, List.set_cons_succ]
    refine wpAnyH_take (i := 10) (oi := Oper.mk (some 19) _ _ _ _ _) (v := ?v10a) rfl (by kernel_rfl) (by kernel_rfl) (by kernel_rfl) (fun _ _ _ h => h) (Or.inl ⟨by rfl, ?hy10a⟩) (by assumption) ?rest10a
    case hy10a => (intro w0 hSw; (try dsimp only at hSw); go_simp; try with_reducible rfl)
    try simp only [Act.put, List.setIfInBounds_toArray, List.set_cons_zero, List.set_cons_succ]
    refine wpAnyH_take (i := 11) (oi := Oper.mk (some 6) _ _ _ _ _) (v := ?v11a) rfl (by kernel_rfl) (by kernel_rfl) (by kernel_rfl) (fun _ _ _ h => h) (Or.inl ⟨by rfl, ?hy11a⟩) (by assumption) ?rest11a
    case hy11a => (intro w0 hSw; (try dsimp only at hSw); go_simp; try with_reducible rfl)
    try simp only [Act.put, List.setIfInBounds_toArray, List.set_cons_zero, List.set_cons_succ]
    refine wpAnyH_done (by kernel_rfl) ?_ _
    refine NoPanic.normal ?_
    all_goals
      go_wp2
      go_ret
      exact ⟨congrArg (fun b => Ending.returned (Value.bool b)) HN.out, HK.out.trans K3⟩
  · have hd : decide (x ≤ a) = false := decide_eq_false hx
    have HN : Hid (y = res) := by have := HR.out; rw [hd, Bool.false_or] at this; exact this.symm
    clear HR
    go_enter Try.func54, Try.ntmps54
    go_wp2_with fail
    rw [← HW.out]
    clear HW
    go_region_held3 (fun w' => w'.cell? ⟨w.heap.size, 0, none⟩ = some (.slice v.m.aL v.m.lL v.m.cL) ∧ w'.cell? ⟨w.heap.size, 1, none⟩ = some (.slice v.m.aS v.m.lS v.m.cS) ∧ w'.cell? ⟨w.heap.size, 2, none⟩ = some (.slice v.m.aD v.m.lD v.m.cD) ∧ w'.cell? ⟨w.heap.size, 3, none⟩ = some (.int .i64 v.m.idle) ∧ w'.cell? ⟨w.heap.size, 4, none⟩ = some (.int .i64 v.m.crit) ∧ w'.cell? ⟨w.heap.size, 5, none⟩ = some (.int .i64 v.m.sw) ∧ w'.cell? ⟨w.heap.size, 6, none⟩ = some (.int .i64 v.m.swe) ∧ w'.cell? ⟨w.heap.size, 7, none⟩ = some (.int .i64 v.m.sems) ∧ w'.cell? ⟨w.heap.size, 8, none⟩ = some (.int .i64 v.m.hor) ∧ w'.cell? ⟨w.heap.size, 9, none⟩ = some (.slice v.ta v.tl v.tc) ∧ w'.cell? ⟨w.heap.size, 10, none⟩ = some (.slice v.na v.nl v.nc) ∧ w'.cell? ⟨w.heap.size, 11, none⟩ = some (.slice v.ja v.jl v.jc) ∧ w'.cell? ⟨w.heap.size, 12, none⟩ = some (.slice v.ha v.hl v.hc) ∧ w'.cell? ⟨w.heap.size, 13, none⟩ = some (.int .i64 v.now) ∧ w'.cell? ⟨w.heap.size + 1, 0, none⟩ = some (.int .i64 k) ∧ w'.cell? ⟨w.heap.size + 2, 0, none⟩ = some (.int .i64 a)) (go_keep) (first
      | (go_at_call 35; refine (HD.out _ ?_).mono ?_; first | exact Kp.refl _ | exact TB.kp_drew _; rintro e w3 ⟨rfl, k3⟩; have K3 : Kp W0 w3 := (by first | exact (TB.kp_drew _).trans k3 | exact k3); clear k3; obtain ⟨q1, y14, y15⟩ := HP.out _ K3; obtain ⟨z0, z1, z2, z3, z4, z5, z6, z7, z8, z9, z10, z11, z12, z13⟩ := q1.all; clear q1)
      | (go_at_call 52; refine (HL.out _ K3).mono ?_; rintro e w4 ⟨rfl, k4⟩; have K4 := K3.trans k4; clear k4; obtain ⟨q1, y14, y15⟩ := HP.out _ K4; obtain ⟨z0, z1, z2, z3, z4, z5, z6, z7, z8, z9, z10, z11, z12, z13⟩ := q1.all; clear q1)
      | fail)
    all_goals
      go_wp2
      go_ret
      exact ⟨congrArg (fun b => Ending.returned (Value.bool b)) HN.out, HK.out.trans K4⟩

end Go.Proofs.Ytnpbdcnogeohdaa.SK
