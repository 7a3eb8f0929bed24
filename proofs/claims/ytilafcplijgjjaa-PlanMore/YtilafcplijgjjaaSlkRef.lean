/- The document's own: a task's job, a moment, from when on its next job may come. -/
import Derived.Test.YtilafcplijgjjaaSlkTop
namespace Go.Proofs.Ytilafcplijgjjaa.SK
open Go.ChangeShapes Go.WideShapes Go.ChangeAt Go.RowKit Go.Proofs.Ytilafcplijgjjaa.AR Go.Proofs.Ytilafcplijgjjaa.TB Go.Proofs.Ytilafcplijgjjaa.TK Go.Proofs.Ytilafcplijgjjaa.JB Go.Proofs.Ytilafcplijgjjaa.FX Go.Proofs.Ytilafcplijgjjaa.AD
open Go.Proofs.Ytilafcplijgjjaa.LK (Hd atH HsAt C3)

def zJ : Jb := ⟨0, 0, 0, 0, 0, false⟩
/-- a task's first job -/
def jof (J : List Jb) (x : Int) : Option Jb := J.find? fun j => j.t == x

theorem jof_hit {J : List Jb} {x : Int} {k : Nat} {j : Jb} (h : ∀ i y, i < k → J[i]? = some y → y.t ≠ x) (hk : J[k]? = some j) (e : j.t = x) : jof J x = some j := by
  unfold jof
  rw [List.find?_eq_some_iff_getElem]
  obtain ⟨hl, hj⟩ := List.getElem?_eq_some_iff.1 hk
  refine ⟨by simp [e], k, hl, hj, fun i hi => ?_⟩
  have := h i J[i] hi (List.getElem?_eq_getElem (by omega))
  simpa using this
theorem jof_none {J : List Jb} {x : Int} (h : ∀ i y, i < J.length → J[i]? = some y → y.t ≠ x) : jof J x = none := by
  unfold jof
  rw [List.find?_eq_none]
  intro j hj
  obtain ⟨i, hi, e⟩ := List.mem_iff_getElem.1 hj
  have := h i j hi (by rw [List.getElem?_eq_getElem hi, e])
  simpa using this
theorem jof_mem {J : List Jb} {x : Int} {j : Jb} (h : jof J x = some j) : j ∈ J ∧ j.t = x := by
  unfold jof at h
  exact ⟨List.mem_of_find?_eq_some h, by simpa using List.find?_some h⟩
theorem jof_not {J : List Jb} {x : Int} (h : jof J x = none) : ∀ j ∈ J, j.t ≠ x := by
  unfold jof at h
  rw [List.find?_eq_none] at h
  intro j hj
  simpa using h j hj

theorem results_of (tmps : Array Value) (w : World) (b : Nat) (j : Jb) (hp : tmps[4]?.getD undef = .pointer (some ⟨b, 0, none⟩)) (hb : BJ w b j) :
    (results Try.f11 tmps).run Try.prog w = .ok (.tuple #[.agg #[.int .i64 j.t, .int .i64 j.r, .int .i64 j.d, .int .i64 j.l, .int .i64 j.x, .bool j.s], tmps[5]?.getD undef]) w := by
  obtain ⟨z0, z1, z2, z3, z4, z5⟩ := hb.all
  simp [results, Try.results11, go_sem, hp, z0, z1, z2, z3, z4, z5]

/-- JobOf under way -/
def Look (w wr : World) (J : List Jb) (x : Int) (k : Nat) : Prop := (∀ i y, i < k → J[i]? = some y → y.t ≠ x) ∧ BJ wr w.heap.size zJ ∧ Kp w wr

set_option maxHeartbeats 4000000 in
theorem rof_any (ao : Option Addr) (len cap : Nat) (J : List Jb) (x : Int) (w : World) (h : JsAt w ao len J) (j : Jb) (s : Bool) (hj : (jof J x).getD zJ = j) (hs : (jof J x).isSome = s) :
    Calls Try.prog 11 #[.slice ao len cap, .int .i64 x] w fun e w' => e = .returned (.tuple #[.agg #[.int .i64 j.t, .int .i64 j.r, .int .i64 j.d, .int .i64 j.l, .int .i64 j.x, .bool j.s], .bool s]) ∧ Kp w w' := by
  have HJ0 : Hid (JsAt w ao len J) := h
  have hby := h.by'
  have HJ : Hid ((jof J x).getD zJ = j) := hj
  have HS : Hid ((jof J x).isSome = s) := hs
  have HLn : Hid (J.length = len) := h.ln
  clear hj hs h
  have hb0 : Hid (BJ (w.alloc (.cells #[.int .i64 zJ.t, .int .i64 zJ.r, .int .i64 zJ.d, .int .i64 zJ.l, .int .i64 zJ.x, .bool zJ.s] 41)) w.heap.size zJ) := bj_new w zJ
  have hk0 : Hid (Kp w (w.alloc (.cells #[.int .i64 zJ.t, .int .i64 zJ.r, .int .i64 zJ.d, .int .i64 zJ.l, .int .i64 zJ.x, .bool zJ.s] 41))) := (Kp.refl w).alloc _
  go_enter Try.func11, Try.ntmps11
  go_wp2
  go_loopw [6] (fun i wr => ∃ k : Nat, k ≤ len ∧ i = .int .i64 k ∧ Hid (Look w wr J x k)) (fun i _ => len - (intOf i).toNat)
  case atStart => exact ⟨0, Nat.zero_le _, rfl, fun i y hi => by omega, hb0.out, hk0.out⟩
  case round =>
    obtain ⟨k, hk, rfl, G⟩ := hrel
    have b1 := G.out.2.1
    have q20 := b1.fr 0
    have q21 := b1.fr 1
    have q22 := b1.fr 2
    have q23 := b1.fr 3
    have q24 := b1.fr 4
    have q25 := b1.fr 5
    obtain ⟨y0, y1, y2, y3, y4, y5⟩ := b1.all
    have hlw := b1.lt
    by_cases hlt : k < len
    · have hlt' : (k : Int) < (len : Int) := by omega
      have i1 : (0 : Int) ≤ (k : Int) := by omega
      have i3 : ((k : Int)).toNat = k := by omega
      obtain ⟨b, off, y, rfl, hb, hg, hi, c0, c1, c2, c3, c4, c5⟩ := (HJ0.out.kept G.out.2.2).one hlt
      by_cases e : y.t = x
      · have ej : jof J x = some y := jof_hit G.out.1 hg e
        have e1 : y = j := by have := HJ.out; rw [ej] at this; exact this
        have e2 : s = true := by have := HS.out; rw [ej] at this; exact this.symm
        subst e1
        subst e2
        have e' : (y.t == x) = true := by simp [e]
        clear e ej hg hi HJ HS
        go_wp2
        have b2 := b1.setAll y
        exact bodyPost_ret (results_of _ _ w.heap.size y rfl b2) rfl ⟨rfl, kp_setJ G.out.2.2 (Nat.le_refl _) y⟩
      · have e' : (y.t == x) = false := by simp [e]
        have G2 : Hid (Look w wr J x (k + 1)) := by
          refine ⟨fun i z hi hz => ?_, G.out.2⟩
          by_cases hik : i < k
          · exact G.out.1 i z hik hz
          · obtain rfl : i = k := by omega
            rw [hg] at hz; cases hz; exact e
        clear e hg hi b1 q20 q21 q22 q23 q24 q25 y0 y1 y2 y3 y4 y5
        go_wp2
        go_roundw
        case rel => exact ⟨k + 1, by omega, by go_num, G2⟩
        case measure => simp [intOf]; omega
    · have hlt' : ¬ (k : Int) < (len : Int) := by omega
      obtain rfl : k = len := by omega
      have ej : jof J x = none := jof_none (fun i y hi => G.out.1 i y (by have := HLn.out; omega))
      have e1 : j = zJ := by have := HJ.out; rw [ej] at this; exact this.symm
      have e2 : s = false := by have := HS.out; rw [ej] at this; exact this.symm
      subst e1
      subst e2
      clear ej HJ HS
      go_wp2
      have b2 := b1.setAll zJ
      have k2 := kp_setJ G.out.2.2 (Nat.le_refl _) zJ
      simp only [zJ] at b2 k2
      exact bodyPost_ret (results_of _ _ w.heap.size ⟨0, 0, 0, 0, 0, false⟩ rfl b2) rfl ⟨rfl, k2⟩

/-- is it a moment? -/
def moB (n : Int) : Bool := decide (0 ≤ n) && decide (n ≤ 2097152)
theorem moB_t {n : Int} : moB n = true ↔ 0 ≤ n ∧ n ≤ 2097152 := by simp [moB]

theorem moment_any (n : Int) (w : World) :
    Calls Try.prog 14 #[.int .i64 n] w fun e w' => e = .returned (.bool (moB n)) ∧ w = w' := by
  unfold moB
  by_cases h1 : 0 ≤ n
  · have d1 : decide (0 ≤ n) = true := decide_eq_true h1
    rw [d1, Bool.true_and]
    go_enter Try.func14, Try.ntmps14
    go_wp2
    go_ret
    exact ⟨rfl, rfl⟩
  · have d1 : decide (0 ≤ n) = false := decide_eq_false h1
    rw [d1, Bool.false_and]
    go_enter Try.func14, Try.ntmps14
    go_wp2
    go_ret
    exact ⟨rfl, rfl⟩

theorem from_any (v : Vw) (k : Nat) (w : World) (h : NAt w v.na v.nl v.N) (hk : k < v.nl) :
    Calls Try.prog 21 #[.slice v.na v.nl v.nc, .int .i64 k, .int .i64 v.now] w fun e w' => e = .returned (.int .i64 (coI v k)) ∧ w = w' := by
  obtain ⟨b, off, e, hb, c0⟩ := h.one hk
  have HM : Hid (∀ W, Calls Try.prog 12 #[.int .i64 (v.N.getD k 0), .int .i64 v.now] W fun e w' => e = .returned (.int .i64 (coI v k)) ∧ W = w') := fun W => rmax_at _ _ W
  generalize coI v k = r at *
  generalize v.N.getD k 0 = x at *
  have hlt : (k : Int) < (v.nl : Int) := by omega
  clear h
  rw [e] at *
  go_enter Try.func21, Try.ntmps21
  go_wp2_with fail
  refine (HM.out _).mono ?_
  rintro e w1 ⟨rfl, rfl⟩
  go_wp2
  go_ret
  exact ⟨rfl, rfl⟩

theorem rmin_at (a b : Int) (w : World) :
    Calls Try.prog 20 #[.int .i64 a, .int .i64 b] w fun e w' => e = .returned (.int .i64 (mn a b)) ∧ w = w' := by
  by_cases hp : a < b
  · have e : mn a b = a := mn_ge (by omega)
    rw [e]; clear e
    go_enter Try.func20, Try.ntmps20
    go_wp2
    go_ret
    exact ⟨rfl, rfl⟩
  · have e : mn a b = b := by
      by_cases q : b < a
      · exact mn_lt q
      · rw [mn_ge q]; omega
    rw [e]; clear e
    go_enter Try.func20, Try.ntmps20
    go_wp2
    go_ret
    exact ⟨rfl, rfl⟩

end Go.Proofs.Ytilafcplijgjjaa.SK
