/- How long nobody is missed: in plain words. -/
import Derived.Test.YtnpbdcnogeohdaaSlkTop
import Derived.Test.YtnpbdcnogeohdaaSlkFacts
import Derived.Test.YtnpbdcnogeohdaaSlkRAt
namespace Go.Proofs.Ytnpbdcnogeohdaa.RS
open Go.ChangeShapes Go.WideShapes Go.ChangeAt Go.RowKit Go.Proofs.Ytnpbdcnogeohdaa.AR Go.Proofs.Ytnpbdcnogeohdaa.TB Go.Proofs.Ytnpbdcnogeohdaa.TK Go.Proofs.Ytnpbdcnogeohdaa.JB Go.Proofs.Ytnpbdcnogeohdaa.FX Go.Proofs.Ytnpbdcnogeohdaa.AD Go.Proofs.Ytnpbdcnogeohdaa.SK
open Go.Proofs.Ytnpbdcnogeohdaa.LK (Hd atH HsAt C3)

/-- a view without jobs, and with nothing held -/
structure Bare (v : Vw) : Prop where
  ja : v.ja = none
  jl : v.jl = 0
  jc : v.jc = 0
  J : v.J = []
  ha : v.ha = none
  hl : v.hl = 0
  hc : v.hc = 0
  H : v.H = []
theorem bare_of (v : Vw) : Bare ((v.setH none 0 0 []).setJ none 0 0 []) := ⟨rfl, rfl, rfl, rfl, rfl, rfl, rfl, rfl⟩

/-- how long the CPU may be away; when it has to be there again -/
def awI (v : Vw) : Int := cl (fl (lsI v v.now)) 0 1024
def rdI (v : Vw) : Int := v.now + awI v

theorem awI_bd (v : Vw) : 0 ≤ awI v ∧ awI v ≤ 1024 := cl_bd _ _ _ (by omega)

/-! ### the least one -/

theorem fold_le {v : Vw} {f : Int} : ∀ (D : List Int) (x : Int), D.foldl (fun x d => if f ≤ d then mn x (atI v d) else x) x ≤ x ∧ ∀ d ∈ D, f ≤ d → D.foldl (fun x d => if f ≤ d then mn x (atI v d) else x) x ≤ atI v d
  | [], x => ⟨Int.le_refl _, fun d hd => by simp at hd⟩
  | e :: D, x => by
    have ih := fold_le (v := v) (f := f) D (if f ≤ e then mn x (atI v e) else x)
    rw [List.foldl_cons]
    have hx : (if f ≤ e then mn x (atI v e) else x) ≤ x ∧ (f ≤ e → (if f ≤ e then mn x (atI v e) else x) ≤ atI v e) := by
      by_cases h : f ≤ e
      · rw [if_pos h]; unfold mn; split <;> constructor <;> intros <;> omega
      · rw [if_neg h]; exact ⟨Int.le_refl _, fun q => absurd q h⟩
    refine ⟨Int.le_trans ih.1 hx.1, fun d hd hf => ?_⟩
    rcases List.mem_cons.1 hd with rfl | hd
    · exact Int.le_trans ih.1 (hx.2 hf)
    · exact ih.2 d hd hf

theorem le_fold {v : Vw} {f y : Int} : ∀ (D : List Int) (x : Int), y ≤ x → (∀ d ∈ D, f ≤ d → y ≤ atI v d) → y ≤ D.foldl (fun x d => if f ≤ d then mn x (atI v d) else x) x
  | [], x, h, _ => h
  | e :: D, x, h, hd => by
    rw [List.foldl_cons]
    refine le_fold D _ ?_ (fun d q => hd d (List.mem_cons_of_mem _ q))
    by_cases hf : f ≤ e
    · have := hd e List.mem_cons_self hf
      rw [if_pos hf]; unfold mn; split <;> omega
    · rw [if_neg hf]; exact h

theorem lsI_le {v : Vw} {f d : Int} (h : d ∈ dls v) (hf : f ≤ d) : lsI v f ≤ atI v d := (fold_le (v := v) (dls v) _).2 d h hf
theorem lsI_top (v : Vw) (f : Int) : lsI v f ≤ 4611686018427387904 := (fold_le (v := v) (dls v) _).1
theorem le_lsI {v : Vw} {f y : Int} (h : y ≤ 4611686018427387904) (hd : ∀ d ∈ dls v, f ≤ d → y ≤ atI v d) : y ≤ lsI v f := le_fold (v := v) (dls v) _ h hd
theorem lsI_bd {v : Vw} (g : VG v) (f : Int) : -9223372036854775808 ≤ lsI v f ∧ lsI v f ≤ 4611686018427387904 :=
  ⟨le_lsI (by omega) (fun d hd _ => (atI_bd g (dls_mem g hd).2).1), lsI_top v f⟩

theorem mem_dts {v : Vw} {i : Nat} (hp : pk v.T i ≠ 0) : ∀ {k : Nat}, i < k → ndI v i ∈ dts v k
  | k + 1, hk => by
    by_cases e : i = k
    · subst e; rw [dts_more hp]; simp
    · have ih := mem_dts hp (k := k) (by omega)
      by_cases q : pk v.T k = 0
      · rw [dts_not q]; exact ih
      · rw [dts_more q]; exact List.mem_append_left _ ih
theorem dts_from {v : Vw} {d : Int} : ∀ {k : Nat}, d ∈ dts v k → ∃ i, i < k ∧ pk v.T i ≠ 0 ∧ d = ndI v i
  | 0, h => by simp [dts] at h
  | k + 1, h => by
    by_cases q : pk v.T k = 0
    · rw [dts_not q] at h
      obtain ⟨i, h1, h2, h3⟩ := dts_from h
      exact ⟨i, by omega, h2, h3⟩
    · rw [dts_more q, List.mem_append, List.mem_singleton] at h
      rcases h with h | rfl
      · obtain ⟨i, h1, h2, h3⟩ := dts_from h
        exact ⟨i, by omega, h2, h3⟩
      · exact ⟨k, by omega, q, rfl⟩

/-- the way back, as both reckon it -/
theorem away_one (q : Int) : mx 0 (mn q 1024) = cl q 0 1024 := by
  unfold mx mn cl; repeat' split
  all_goals omega
theorem away_two (q : Int) : mn (mx q 0) 1024 = cl q 0 1024 := by
  unfold mx mn cl; repeat' split
  all_goals omega

/-- (RestTime) as long as the CPU is not there, there is time -/
theorem away_time {v : Vw} {i : Nat} (hi : i < v.tl) (hp : pk v.T i ≠ 0) (hn : v.now ≤ ndI v i) (h : 0 < awI v) : awI v * 4294967296 ≤ atI v (ndI v i) := by
  have h1 : lsI v v.now ≤ atI v (ndI v i) := lsI_le (by unfold dls; exact List.mem_append_right _ (mem_dts hp hi)) hn
  have h2 : awI v ≤ fl (lsI v v.now) := by
    revert h
    unfold awI cl
    repeat' split
    all_goals intros
    all_goals omega
  have h3 : fl (lsI v v.now) * 4294967296 ≤ lsI v v.now := by unfold fl; omega
  omega

/-! ### a task less -/

abbrev noT : Tk := ⟨0, 0, none, 0, 0, [], none, 0, 0, []⟩
/-- the same view, its tasks other ones -/
def setT (v : Vw) (a : Option Addr) (c : Nat) (T : List Tk) : Vw := { v with ta := a, tc := c, T := T }

section
variable {v : Vw} {ao : Option Addr} {c i : Nat}

theorem setT_bare (b : Bare v) (T : List Tk) : Bare (setT v ao c T) := ⟨b.ja, b.jl, b.jc, b.J, b.ha, b.hl, b.hc, b.H⟩
theorem setT_vl {w : World} {T : List Tk} (h : VL w v) (q : LAt w ao v.tl T) : VL w (setT v ao c T) := ⟨h.m, q, h.n, h.j, h.h, h.hy⟩

theorem pk_less {k : Nat} (h : k ≠ i) : pk (v.T.set i noT) k = pk v.T k := by
  unfold pk; rw [List.getElem?_set_ne (by omega)]
theorem pk_gone : pk (v.T.set i noT) i = 0 := by
  unfold pk
  by_cases h : i < v.T.length
  · rw [List.getElem?_set_self h]
  · rw [List.getElem?_eq_none (by rw [List.length_set]; omega)]

theorem less_vg (g : VG v) (b : Bare v) : VG (setT v ao c (v.T.set i noT)) := by
  refine ⟨g.b, g.n, g.nl, fun t ht => ?_, g.now, g.nx, fun j hj => ?_, fun x k a d hx => ?_, g.jn, fun h hh => ?_⟩
  · rcases List.mem_or_eq_of_mem_set ht with q | rfl
    · exact g.tk t q
    · exact ⟨⟨by simp, fun k hk => by simp at hk⟩, by simp, by simp, by simp⟩
  · have e : (setT v ao c (v.T.set i noT)).J = [] := b.J
    rw [e] at hj; simp at hj
  · have e : (setT v ao c (v.T.set i noT)).J = [] := b.J
    rw [e] at hx; simp at hx
  · have e : (setT v ao c (v.T.set i noT)).H = [] := b.H
    rw [e] at hh; simp at hh

theorem toc_less (g : VG v) {a : Int} (ha : a ≤ 4194304) : ∀ {k : Nat}, k ≤ v.tl → toc (setT v ao c (v.T.set i noT)) a k ≤ toc v a k
  | 0, _ => by simp [toc]
  | k + 1, hk => by
    have ih := toc_less g ha (k := k) (by omega)
    have hc := coI_bd g (k := k) (by omega)
    have hb := tm_bd (u := ptI v k) (n := a - coI v k) (by omega)
    by_cases e : k = i
    · subst e
      have h0 : pk (setT v ao c (v.T.set k noT)).T k = 0 := pk_gone
      rw [toc_not h0]
      by_cases hp : pk v.T k = 0
      · rw [toc_not hp]; exact ih
      · rw [toc_more hp]; omega
    · have h0 : pk (setT v ao c (v.T.set i noT)).T k = pk v.T k := pk_less e
      by_cases hp : pk v.T k = 0
      · rw [toc_not hp, toc_not (h0.trans hp)]; exact ih
      · rw [toc_more hp, toc_more (by rw [h0]; exact hp)]
        have e1 : ptI (setT v ao c (v.T.set i noT)) k = ptI v k := by
          have : (setT v ao c (v.T.set i noT)).T[k]? = v.T[k]? := List.getElem?_set_ne (by omega)
          unfold ptI
          rw [this]
          rfl
        have e2 : coI (setT v ao c (v.T.set i noT)) k = coI v k := rfl
        rw [e1, e2]; omega

theorem at_less (g : VG v) (b : Bare v) {a : Int} (ha : a ≤ 4194304) : atI v a ≤ atI (setT v ao c (v.T.set i noT)) a := by
  have h1 := toc_less (ao := ao) (c := c) (i := i) g ha (Nat.le_refl v.tl)
  have e : qnI (setT v ao c (v.T.set i noT)) a = qnI v a := by
    unfold qnI
    rw [hnI_none (show (setT v ao c (v.T.set i noT)).hl = 0 from b.hl), hnI_none b.hl, show (setT v ao c (v.T.set i noT)).jl = 0 from b.jl, b.jl]
    rfl
  have e2 : (setT v ao c (v.T.set i noT)).tl = v.tl := rfl
  unfold atI
  rw [e, e2]
  omega

theorem djs_bare (b : Bare v) : djs v v.jl = [] := by unfold djs; rw [b.jl]; rfl

theorem ls_less (g : VG v) (b : Bare v) (f : Int) : lsI v f ≤ lsI (setT v ao c (v.T.set i noT)) f := by
  refine le_lsI (lsI_top v f) (fun d hd hf => ?_)
  unfold dls at hd
  rw [djs_bare (setT_bare b _), List.nil_append] at hd
  obtain ⟨k, hk, hp, rfl⟩ := dts_from hd
  have e : k ≠ i := fun q => hp (by subst q; exact pk_gone)
  have h0 : pk (setT v ao c (v.T.set i noT)).T k = pk v.T k := pk_less e
  have e1 : ndI (setT v ao c (v.T.set i noT)) k = ndI v k := by
    unfold ndI
    rw [h0]
    rfl
  rw [e1] at hf ⊢
  have hb := ndI_bd g (k := k) hk
  exact Int.le_trans (lsI_le (by unfold dls; exact List.mem_append_right _ (mem_dts (by rw [← h0]; exact hp) hk)) hf) (at_less g b (by omega))

/-- (RestFewer) with a task less the CPU may stay away as long, or longer -/
theorem rd_less (g : VG v) (b : Bare v) : rdI v ≤ rdI (setT v ao c (v.T.set i noT)) := by
  have h1 := ls_less (ao := ao) (c := c) (i := i) g b v.now
  have h2 : fl (lsI v v.now) ≤ fl (lsI (setT v ao c (v.T.set i noT)) v.now) := by unfold fl; omega
  have h3 := cl_mono (lo := 0) (hi := 1024) (by omega) h2
  have e : (setT v ao c (v.T.set i noT)).now = v.now := rfl
  unfold rdI awI
  rw [e]
  omega
end

theorem fl_bd {x : Int} (h1 : -9223372036854775808 ≤ x) (h2 : x ≤ 4611686018427387904) : -2147483648 ≤ fl x ∧ fl x ≤ 1073741824 := by unfold fl; omega

set_option maxRecDepth 100000 in
set_option maxHeartbeats 4000000 in
theorem pready_any (v : Vw) (w : World) (hv : VL w v) (g : VG v) (b : Bare v) :
    Calls Try.prog 8 #[v.m.v, .slice v.ta v.tl v.tc, .slice v.na v.nl v.nc, .int .i64 v.now] w fun e w' => e = .returned (.int .i64 (v.now + awI v)) ∧ Kp w w' := by
  obtain ⟨W0, HW, K0, P0⟩ := one_box w v.m
  have HK : Hid (Kp w W0) := K0
  have HC : Hid (Calls Try.prog 14 #[v.m.v, .slice v.ta v.tl v.tc, .slice v.na v.nl v.nc, .slice none 0 0, .slice none 0 0, .int .i64 v.now, .int .i64 v.now] W0 fun e w' => e = .returned (.int .i64 (lsI v v.now)) ∧ Kp W0 w') := by
    have y := pleast_any v v.now W0 (hv.kept K0) g
    rw [b.ja, b.jl, b.jc, b.ha, b.hl, b.hc] at y
    exact y
  have hb := lsI_bd g v.now
  have HF : Hid (∀ W, Calls Try.prog 13 #[.int .i64 (lsI v v.now)] W fun e w' => e = .returned (.int .i64 (fl (lsI v v.now))) ∧ w' = W) := fun W => floor_any _ W (by omega) (by omega)
  have hq := awI_bd v
  have hn := g.now
  have hr : mx 0 (mn (fl (lsI v v.now)) 1024) = awI v := away_one _
  have MN : ∀ ts t w, (Builtin.min_ ts t #[.int .i64 (fl (lsI v v.now)), .int .i64 1024]).run Try.prog w = .ok (.int .i64 (mn (fl (lsI v v.now)) 1024)) w := fun ts t w => SK.run_min2 ts t _ _ w
  have MX : ∀ ts t w, (Builtin.max_ ts t #[.int .i64 0, .int .i64 (mn (fl (lsI v v.now)) 1024)]).run Try.prog w = .ok (.int .i64 (awI v)) w := fun ts t w => by rw [← hr]; exact AD.run_max2 ts t _ _ w
  have s1 : IntKind.i64.wrap (v.now + awI v) = v.now + awI v := wrapI (by omega)
  have s2 : wrap64 (v.now + awI v) = v.now + awI v := IntWalk.wrap64_in _ (by omega)
  obtain ⟨p0, p1, p2, p3, p4, p5, p6, p7, p8⟩ := P0.all
  generalize awI v = r at *
  generalize mn (fl (lsI v v.now)) 1024 = m1 at *
  generalize fl (lsI v v.now) = q at *
  generalize lsI v v.now = x at *
  unfold Mc.v at *
  clear K0 P0 hv g b hr hb
  go_enter Try.func8, Try.ntmps8
  go_wp2_with fail
  rw [← HW.out]
  clear HW
  refine Calls.mono HC.out ?_
  rintro e w1 ⟨rfl, k1⟩
  go_wp2_with fail
  refine Calls.mono (HF.out _) ?_
  rintro e w2 ⟨rfl, rfl⟩
  go_wp2
  go_ret
  exact ⟨rfl, HK.out.trans k1⟩

set_option maxRecDepth 100000 in
set_option maxHeartbeats 4000000 in
theorem rready_any (v : Vw) (w : World) (hv : VL w v) (g : VG v) (b : Bare v) :
    Calls Try.prog 9 #[v.m.v, .slice v.ta v.tl v.tc, .slice v.na v.nl v.nc, .int .i64 v.now] w fun e w' => e = .returned (.int .i64 (v.now + awI v)) ∧ Kp w w' := by
  obtain ⟨W0, HW, K0, P0⟩ := one_box w v.m
  have HK : Hid (Kp w W0) := K0
  have HC : Hid (Calls Try.prog 16 #[v.m.v, .slice v.ta v.tl v.tc, .slice v.na v.nl v.nc, .slice none 0 0, .slice none 0 0, .int .i64 v.now, .int .i64 v.now] W0 fun e w' => e = .returned (.int .i64 (lsI v v.now)) ∧ Kp W0 w') := by
    have y := rleast_any v v.now W0 (hv.kept K0) g
    rw [b.ja, b.jl, b.jc, b.ha, b.hl, b.hc] at y
    exact y
  have hb := lsI_bd g v.now
  have HF : Hid (∀ W, Calls Try.prog 15 #[.int .i64 (lsI v v.now)] W fun e w' => e = .returned (.int .i64 (fl (lsI v v.now))) ∧ w' = W) := fun W => ref_floor_any _ W (by omega) (by omega)
  have hq := awI_bd v
  have hn := g.now
  have hr : mn (mx (fl (lsI v v.now)) 0) 1024 = awI v := away_two _
  have HX : Hid (∀ W, Calls Try.prog 10 #[.int .i64 (fl (lsI v v.now)), .int .i64 0] W fun e w' => e = .returned (.int .i64 (mx (fl (lsI v v.now)) 0)) ∧ W = w') := fun W => AD.rmax_at _ _ W
  have HN : Hid (∀ W, Calls Try.prog 17 #[.int .i64 (mx (fl (lsI v v.now)) 0), .int .i64 1024] W fun e w' => e = .returned (.int .i64 (awI v)) ∧ W = w') := fun W => by rw [← hr]; exact SK.rmin_at _ _ W
  have s1 : IntKind.i64.wrap (v.now + awI v) = v.now + awI v := wrapI (by omega)
  have s2 : wrap64 (v.now + awI v) = v.now + awI v := IntWalk.wrap64_in _ (by omega)
  obtain ⟨p0, p1, p2, p3, p4, p5, p6, p7, p8⟩ := P0.all
  generalize awI v = r at *
  generalize mx (fl (lsI v v.now)) 0 = m1 at *
  generalize fl (lsI v v.now) = q at *
  generalize lsI v v.now = x at *
  unfold Mc.v at *
  clear K0 P0 hv g b hr hb
  go_enter Try.func9, Try.ntmps9
  go_wp2_with fail
  rw [← HW.out]
  clear HW
  refine Calls.mono HC.out ?_
  rintro e w1 ⟨rfl, k1⟩
  go_wp2_with fail
  refine Calls.mono (HF.out _) ?_
  rintro e w2 ⟨rfl, rfl⟩
  go_wp2_with fail
  refine Calls.mono (HX.out _) ?_
  rintro e w3 ⟨rfl, rfl⟩
  go_wp2_with fail
  refine Calls.mono (HN.out _) ?_
  rintro e w4 ⟨rfl, rfl⟩
  go_wp2
  go_ret
  exact ⟨rfl, HK.out.trans k1⟩

end Go.Proofs.Ytnpbdcnogeohdaa.RS
