/- Neither time nor jobs lessen what is left over: in plain words. -/
import Derived.Test.YtnpbdcnogeohdaaSlkPlain
import Derived.Test.YtnpbdcnogeohdaaAdmFacts
namespace Go.Proofs.Ytnpbdcnogeohdaa.SK
open Go.ChangeShapes Go.WideShapes Go.ChangeAt Go.RowKit Go.Proofs.Ytnpbdcnogeohdaa.AR Go.Proofs.Ytnpbdcnogeohdaa.TB Go.Proofs.Ytnpbdcnogeohdaa.TK Go.Proofs.Ytnpbdcnogeohdaa.JB Go.Proofs.Ytnpbdcnogeohdaa.FX Go.Proofs.Ytnpbdcnogeohdaa.AD
open Go.Proofs.Ytnpbdcnogeohdaa.LK (Hd atH HsAt C3)

/-- those of the first k that are tasks -/
def ths (T : List Tk) : Nat → List Tk
  | 0 => []
  | k + 1 => match T[k]? with
    | some t => if 0 < t.p then ths T k ++ [t] else ths T k
    | none => ths T k
theorem ths_more {T : List Tk} {k : Nat} {t : Tk} (h : T[k]? = some t) (hp : 0 < t.p) : ths T (k + 1) = ths T k ++ [t] := by simp [ths, h, hp]
theorem ths_not {T : List Tk} {k : Nat} {t : Tk} (h : T[k]? = some t) (hp : ¬ 0 < t.p) : ths T (k + 1) = ths T k := by simp [ths, h, hp]
theorem ths_len {T : List Tk} : ∀ k, (ths T k).length ≤ k
  | 0 => by simp [ths]
  | k + 1 => by
    have ih := ths_len (T := T) k
    cases h : T[k]? with
    | none => simp only [ths, h]; omega
    | some t =>
      by_cases hp : 0 < t.p
      · rw [ths_more h hp]; simp; omega
      · rw [ths_not h hp]; omega
theorem ths_mem {T : List Tk} {x : Tk} : ∀ {k : Nat}, x ∈ ths T k → x ∈ T ∧ 0 < x.p
  | 0, h => by simp [ths] at h
  | k + 1, h => by
    cases q : T[k]? with
    | none => simp only [ths, q] at h; exact ths_mem h
    | some t =>
      by_cases hp : 0 < t.p
      · rw [ths_more q hp, List.mem_append, List.mem_singleton] at h
        rcases h with h | rfl
        · exact ths_mem h
        · exact ⟨List.mem_of_getElem? q, hp⟩
      · rw [ths_not q hp] at h; exact ths_mem h
theorem mem_ths {T : List Tk} {x : Tk} {i : Nat} (hi : T[i]? = some x) (hp : 0 < x.p) : ∀ {k : Nat}, i < k → x ∈ ths T k
  | k + 1, hk => by
    by_cases e : i = k
    · subst e; rw [ths_more hi hp]; simp
    · have ih := mem_ths hi hp (k := k) (by omega)
      cases q : T[k]? with
      | none => simp only [ths, q]; exact ih
      | some t =>
        by_cases hq : 0 < t.p
        · rw [ths_more q hq]; exact List.mem_append_left _ ih
        · rw [ths_not q hq]; exact ih

theorem ths_gd {v : Vw} (g : VG v) : Gd v.m (ths v.T v.tl) := ⟨g.b, fun t ht => (g.tk t (ths_mem ht).1).1, Nat.le_trans (ths_len _) g.n⟩

/-- the parts of the first k -/
def ps (v : Vw) : Nat → Int
  | 0 => 0
  | k + 1 => if pk v.T k = 0 then ps v k else ps v k + ptI v k
theorem ptI_nonneg {v : Vw} (k : Nat) : 0 ≤ ptI v k := by
  unfold ptI
  cases v.T[k]? with
  | none => simp
  | some t => exact (ut_bd _ _).1
theorem ps_tot {v : Vw} (g : VG v) : ∀ {k : Nat}, ps v k = tot ((ths v.T k).map (pt v.m 0))
  | 0 => rfl
  | k + 1 => by
    have ih := ps_tot g (k := k)
    cases h : v.T[k]? with
    | none => simp [ps, pk, ths, h, ih]
    | some t =>
      have hp := (g.tk t (List.mem_of_getElem? h)).2.1
      by_cases e : t.p = 0
      · rw [ths_not h (by omega)]; simp [ps, pk, h, e, ih]
      · rw [ths_more h (by omega), List.map_append, tot_append, ← ih]
        simp [ps, pk, h, e, ptI, tot, pt]

theorem cl_step {x y lo hi d : Int} (h : lo ≤ hi) (h1 : y ≤ x) (h2 : x - y ≤ d) : 0 ≤ cl x lo hi - cl y lo hi ∧ cl x lo hi - cl y lo hi ≤ d := by
  unfold cl
  split <;> split <;> (try split) <;> (try split) <;> omega

theorem tm_step {u x y d : Int} (hu : 0 ≤ u) (h1 : y ≤ x) (h2 : x - y ≤ d) : tm u x - tm u y ≤ d * u := by
  have hc := cl_bd u 0 17179869184 (by omega)
  have hu2 : cl u 0 17179869184 ≤ u := by unfold cl; split <;> (try split) <;> omega
  have hs := cl_step (lo := 0) (hi := 134217728) (by omega) h1 h2
  have e : tm u x - tm u y = cl u 0 17179869184 * (cl x 0 134217728 - cl y 0 134217728) := by unfold tm; rw [Int.mul_sub]
  rw [e]
  have q1 : cl u 0 17179869184 * (cl x 0 134217728 - cl y 0 134217728) ≤ u * (cl x 0 134217728 - cl y 0 134217728) := Int.mul_le_mul_of_nonneg_right hu2 hs.1
  have q2 : u * (cl x 0 134217728 - cl y 0 134217728) ≤ u * d := Int.mul_le_mul_of_nonneg_left hs.2 hu
  rw [Int.mul_comm d u]
  exact Int.le_trans q1 q2

/-- what is to come rises no faster than the parts -/
theorem toc_rise {v : Vw} {a m : Int} (h : a ≤ m) : ∀ {k : Nat}, toc v m k - toc v a k ≤ (m - a) * ps v k
  | 0 => by simp [toc, ps]
  | k + 1 => by
    have ih := toc_rise (v := v) h (k := k)
    by_cases hp : pk v.T k = 0
    · rw [toc_not hp, toc_not hp]; simp only [ps, hp, if_true]; exact ih
    · rw [toc_more hp, toc_more hp]
      simp only [ps, hp, if_false]
      have := tm_step (u := ptI v k) (x := m - coI v k) (y := a - coI v k) (d := m - a) (ptI_nonneg k) (by omega) (by omega)
      rw [Int.mul_add]
      omega
/-- from now on, at most the parts -/
theorem toc_top {v : Vw} {m : Int} (h : v.now ≤ m) : ∀ {k : Nat}, toc v m k ≤ (m - v.now) * ps v k
  | 0 => by simp [toc, ps]
  | k + 1 => by
    have ih := toc_top (v := v) h (k := k)
    by_cases hp : pk v.T k = 0
    · rw [toc_not hp]; simp only [ps, hp, if_true]; exact ih
    · rw [toc_more hp]
      simp only [ps, hp, if_false]
      have hc : v.now ≤ coI v k := by unfold coI; exact mx_r _ _
      have z : tm (ptI v k) 0 = 0 := by simp [tm, cl]
      have hn : tm (ptI v k) (m - coI v k) ≤ (m - v.now) * ptI v k := by
        by_cases q : 0 ≤ m - coI v k
        · have := tm_step (u := ptI v k) (x := m - coI v k) (y := 0) (d := m - v.now) (ptI_nonneg k) q (by omega)
          omega
        · have e : tm (ptI v k) (m - coI v k) = 0 := by
            unfold tm
            rw [cl_lo (x := m - coI v k) (by omega), Int.mul_zero]
          rw [e]
          exact Int.mul_nonneg (by omega) (ptI_nonneg k)
      rw [Int.mul_add]
      omega

theorem wh_in {n : Int} (h1 : -1073741824 ≤ n) (h2 : n ≤ 1073741824) : wh n = n * 4294967296 := by unfold wh; rw [cl_in (by omega) (by omega)]

theorem qs_same {v : Vw} {a m : Int} (h : a ≤ m) (hn : ∀ j ∈ v.J, ¬ (a < j.d ∧ j.d ≤ m)) : ∀ {k : Nat}, qs v m k = qs v a k
  | 0 => rfl
  | k + 1 => by
    have ih := qs_same h hn (k := k)
    cases q : v.J[k]? with
    | none => simp only [qs, q, ih]
    | some j =>
      have := hn j (List.mem_of_getElem? q)
      by_cases hd : j.d ≤ a
      · rw [qs_in q hd, qs_in q (by omega), ih]
      · rw [qs_not q hd, qs_not q (by omega), ih]

theorem hnI_none {v : Vw} (h : v.hl = 0) (a : Int) : hnI v a = 0 := by unfold hnI; rw [h]; simp [lng]

/-- tasks that fit: their parts and the reserve are one at most -/
theorem fit_parts {v : Vw} (g : VG v) (hf : lod v.m (ths v.T v.tl) 0 ≤ 4294967296) : rsv v.m (ths v.T v.tl) (ths v.T v.tl).length + ps v v.tl ≤ 4294967296 := by
  rw [ps_tot g]
  rw [lod_tot] at hf
  exact hf

/-- (SlackRises) up to a later moment there is no less -/
theorem at_rises {v : Vw} (g : VG v) (hH : v.H.length = v.hl) (hz : v.hl = 0) {a m : Int} (h0 : 0 ≤ a) (h : a ≤ m) (hm : m ≤ 2097152) (hn : ∀ j ∈ v.J, ¬ (a < j.d ∧ j.d ≤ m)) (hf : lod v.m (ths v.T v.tl) 0 ≤ 4294967296) : atI v a ≤ atI v m := by
  have b1 := qnI_bd g hH h0 (by omega : a ≤ 4194304)
  have b2 := qnI_bd g hH (by omega : 0 ≤ m) (by omega : m ≤ 4194304)
  have e : qnI v m = qnI v a + (m - a) := by
    unfold qnI
    rw [hnI_none hz, hnI_none hz, qs_same h hn]
    omega
  have hr := toc_rise (v := v) h (k := v.tl)
  have hp := fit_parts g hf
  have h1 : 0 ≤ rsv v.m (ths v.T v.tl) (ths v.T v.tl).length := rsv_ge.1
  have h2 : (m - a) * ps v v.tl ≤ (m - a) * 4294967296 := Int.mul_le_mul_of_nonneg_left (by omega) (by omega)
  unfold atI
  rw [wh_in b1.1 (by omega), wh_in b2.1 (by omega), e, Int.add_mul]
  omega

/-- (SlackIdle) without a job there is time for the longest hold-up -/
theorem at_idle {v : Vw} (g : VG v) (hH : v.H.length = v.hl) (hz : v.hl = 0) (hj : v.jl = 0) {i : Nat} {t : Tk} (hi : v.T[i]? = some t) (hil : i < v.tl) (hp : 0 < t.p) (hm : coI v i + t.p ≤ 2097152) (hf : lod v.m (ths v.T v.tl) 0 ≤ 4294967296) : blk v.m (ths v.T v.tl) t.p * 4294967296 ≤ atI v (coI v i + t.p) := by
  have hc : v.now ≤ coI v i := by unfold coI; exact mx_r _ _
  have hn0 := g.now
  have htp := (g.tk t (List.mem_of_getElem? hi)).2.2.1
  generalize hM : coI v i + t.p = M at *
  have hMn : v.now ≤ M := by omega
  have hD : t.p ≤ M - v.now := by omega
  have b1 := qnI_bd g hH (by omega : 0 ≤ M) (by omega : M ≤ 4194304)
  have e : qnI v M = M - v.now := by
    unfold qnI
    rw [hnI_none hz, hj]
    simp [qs]
  have ht := toc_top (v := v) hMn (k := v.tl)
  have hq := fit_parts g hf
  have hmem : t ∈ ths v.T v.tl := mem_ths hi hp hil
  have hr := rsv_mem (m := v.m) hmem
  have hb := blk_bd g.b (L := ths v.T v.tl) (fun x hx => (g.tk x (ths_mem hx).1).1) (per := t.p)
  have hu := (ut_enough hb.1 (by omega) (show 1 ≤ t.p by omega) (by omega)).1
  have hu0 := (ut_bd (blk v.m (ths v.T v.tl) t.p) t.p).1
  unfold atI
  rw [e] at b1 ⊢
  rw [wh_in (by omega) (by omega)]
  generalize blk v.m (ths v.T v.tl) t.p = B at *
  generalize ut B t.p = U at *
  generalize rsv v.m (ths v.T v.tl) (ths v.T v.tl).length = R at *
  generalize ps v v.tl = P at *
  generalize M - v.now = D at *
  have q1 : D * P + D * R ≤ D * 4294967296 := by rw [← Int.mul_add]; exact Int.mul_le_mul_of_nonneg_left (by omega) (by omega)
  have q2 : t.p * U ≤ D * U := Int.mul_le_mul_of_nonneg_right hD hu0
  have q3 : D * U ≤ D * R := Int.mul_le_mul_of_nonneg_left hr (by omega)
  rw [Int.mul_comm t.p U] at q2
  omega

/-! ### a job that comes -/

/-- a job more; the next one later -/
def Vw.came (v : Vw) (jo : Option Addr) (jc : Nat) (no : Option Addr) (nc : Nat) (i : Nat) (j : Jb) (z : Int) : Vw := (v.setJ jo (v.jl + 1) jc (v.J ++ [j])).setN no v.nl nc (v.N.set i z)

section
variable {v : Vw} {jo no : Option Addr} {jc nc i : Nat} {j : Jb} {z : Int}
theorem qs_came {a : Int} : ∀ {k : Nat}, k ≤ v.J.length → qs (v.came jo jc no nc i j z) a k = qs v a k
  | 0, _ => rfl
  | k + 1, hk => by
    have ih := qs_came (a := a) (k := k) (by omega)
    have e1 : (v.came jo jc no nc i j z).J = v.J ++ [j] := rfl
    have e2 : (v.came jo jc no nc i j z).m = v.m := rfl
    have e3 : (v.J ++ [j])[k]? = v.J[k]? := List.getElem?_append_left (by omega)
    simp only [qs, e1, e2, e3, ih]
theorem qs_last {a : Int} (hl : v.J.length = v.jl) : qs (v.came jo jc no nc i j z) a (v.jl + 1) = if j.d ≤ a then qs v a v.jl + jqI v.m j else qs v a v.jl := by
  have e1 : (v.came jo jc no nc i j z).J = v.J ++ [j] := rfl
  have e2 : (v.came jo jc no nc i j z).m = v.m := rfl
  have e3 : (v.J ++ [j])[v.jl]? = some j := by rw [← hl]; simp
  have e4 : qs (v.came jo jc no nc i j z) a v.jl = qs v a v.jl := qs_came (by omega)
  simp only [qs, e1, e2, e3, e4]
theorem toc_came {a : Int} (hi : i < v.N.length) (hpi : pk v.T i ≠ 0) (hc : coI v i = v.now) (hz : v.now ≤ z) : ∀ {k : Nat}, toc (v.came jo jc no nc i j z) a k = if i < k then toc v a k + (tm (ptI v i) (a - z) - tm (ptI v i) (a - v.now)) else toc v a k
  | 0 => by simp [toc]
  | k + 1 => by
    have ih := toc_came (a := a) hi hpi hc hz (k := k)
    have e1 : (v.came jo jc no nc i j z).T = v.T := rfl
    have e2 : ptI (v.came jo jc no nc i j z) k = ptI v k := rfl
    have e4 : ∀ q, coI (v.came jo jc no nc i j z) q = mx ((v.N.set i z).getD q 0) v.now := fun q => rfl
    by_cases hp : pk v.T k = 0
    · have hik : i ≠ k := fun e => hpi (e ▸ hp)
      rw [toc_not (by rw [e1]; exact hp), toc_not hp, ih]
      by_cases q : i < k
      · rw [if_pos q, if_pos (by omega)]
      · rw [if_neg q, if_neg (by omega)]
    · rw [toc_more (by rw [e1]; exact hp), toc_more hp, ih, e2, e4]
      by_cases e : i = k
      · subst e
        have e5 : (v.N.set i z).getD i 0 = z := by simp [List.getD_eq_getElem?_getD, hi]
        rw [e5, if_neg (by omega), if_pos (by omega), hc]
        by_cases h1 : z < v.now
        · omega
        · rw [mx_ge h1]; omega
      · have e5 : (v.N.set i z).getD k 0 = v.N.getD k 0 := by simp [List.getD_eq_getElem?_getD, e]
        rw [e5]
        have e6 : mx (v.N.getD k 0) v.now = coI v k := rfl
        rw [e6]
        by_cases q : i < k
        · rw [if_pos q, if_pos (by omega)]; omega
        · rw [if_neg q, if_neg (by omega)]

/-- (SlackReleased) when a job comes there is no less -/
theorem at_came (g : VG v) (g2 : VG (v.came jo jc no nc i j z)) (hH : v.H.length = v.hl) (hz0 : v.hl = 0) (hJ : v.J.length = v.jl) (hN : v.N.length = v.nl) {t : Tk} (ht : v.T[i]? = some t) (hil : i < v.tl) (hp : t.p ≠ 0) (hc : v.N.getD i 0 ≤ v.now) (hpt : ut (qn v.m t.c 0) t.p ≤ 4294967296)
    (hz : z = v.now + t.p) (hj : j.d = z ∧ j.l = t.c ∧ j.s = false) {a : Int} (h0 : 0 ≤ a) (ha : a ≤ 2097152) : atI v a ≤ atI (v.came jo jc no nc i j z) a := by
  have hnl := g.nl
  have hnow := g.now
  have tk := g.tk t (List.mem_of_getElem? ht)
  have hco : coI v i = v.now := by unfold coI; by_cases q : v.N.getD i 0 < v.now
                                   · exact mx_lt q
                                   · rw [mx_ge q]; omega
  have e1 : (v.came jo jc no nc i j z).tl = v.tl := rfl
  have e2 : (v.came jo jc no nc i j z).jl = v.jl + 1 := rfl
  have e3 : (v.came jo jc no nc i j z).now = v.now := rfl
  have e4 : (v.came jo jc no nc i j z).hl = v.hl := rfl
  have b1 := qnI_bd g hH h0 (by omega : a ≤ 4194304)
  have b2 := qnI_bd g2 hH h0 (by omega : a ≤ 4194304)
  have q2 : qnI (v.came jo jc no nc i j z) a = a - v.now - (if j.d ≤ a then qs v a v.jl + jqI v.m j else qs v a v.jl) := by
    unfold qnI
    rw [hnI_none (e4.trans hz0), e2, e3, qs_last hJ]
    omega
  have q1 : qnI v a = a - v.now - qs v a v.jl := by
    unfold qnI
    rw [hnI_none hz0]; omega
  have hu0 := (ut_bd (qn v.m t.c 0) t.p).1
  have hpi : ptI v i = ut (qn v.m t.c 0) t.p := by simp [ptI, ht]
  have htc := toc_came (v := v) (jo := jo) (jc := jc) (no := no) (nc := nc) (i := i) (j := j) (z := z) (a := a) (by omega) (by rw [pk_at ht]; exact hp) hco (by omega) (k := v.tl)
  rw [if_pos hil, hpi] at htc
  unfold atI
  rw [e1, htc, wh_in b1.1 (by omega), wh_in b2.1 (by omega), q1, q2]
  have qb := qn_bd g.b (c := t.c) (lev := 0) tk.1.c
  have en := (ut_enough qb.1 (by omega) (show 1 ≤ t.p by omega) (by omega)).1
  have hjq : jqI v.m j = qn v.m t.c 0 := by
    have h1 := g.b.cr
    have e : mx 0 t.c = t.c := by
      by_cases q : 0 < t.c
      · exact mx_lt q
      · rw [mx_ge q]; have := tk.1.c; omega
    rw [qn_in (by omega)]
    simp only [jqI, swI, hj.2.1, hj.2.2, e]
    simp
  rw [hjq, hj.1]
  generalize ut (qn v.m t.c 0) t.p = u at *
  generalize qn v.m t.c 0 = c at *
  have eu : cl u 0 17179869184 = u := cl_in (by omega) (by omega)
  by_cases h1 : z ≤ a
  · rw [if_pos h1]
    have t1 : tm u (a - z) = u * (a - z) := by unfold tm; rw [eu, cl_in (by omega) (by omega)]
    have t2 : tm u (a - v.now) = u * (a - v.now) := by unfold tm; rw [eu, cl_in (by omega) (by omega)]
    rw [t1, t2]
    have e5 : u * (a - z) - u * (a - v.now) = - (u * t.p) := by rw [← Int.mul_sub, show a - z - (a - v.now) = -t.p from by omega, Int.mul_neg]
    rw [Int.sub_mul, Int.sub_mul, Int.sub_mul, Int.sub_mul, Int.add_mul]
    omega
  · rw [if_neg h1]
    have t1 : tm u (a - z) = 0 := by unfold tm; rw [cl_lo (x := a - z) (by omega), Int.mul_zero]
    have t2 : 0 ≤ tm u (a - v.now) := (tm_bd (u := u) (n := a - v.now) (by have := g.now; omega)).1
    rw [t1]
    omega
end

end Go.Proofs.Ytnpbdcnogeohdaa.SK
