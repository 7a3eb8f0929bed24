/- Plain facts on hold-ups, reserves and loads: what they are, in whatever order the tasks stand; fewer tasks, slower levels, lengths of time. -/
import Derived.Test.YtnpbdcnogeohdaaAdmPlain
namespace Go.Proofs.Ytnpbdcnogeohdaa.AD
open Go.ChangeShapes Go.WideShapes Go.ChangeAt Go.RowKit Go.Proofs.Ytnpbdcnogeohdaa.AR Go.Proofs.Ytnpbdcnogeohdaa.TB Go.Proofs.Ytnpbdcnogeohdaa.TK Go.Proofs.Ytnpbdcnogeohdaa.FX

/-! ### what a ceiling is, by membership -/

/-- one of them uses s, with a period of at most p; or p is beyond all -/
def Low (L : List Tk) (s p : Int) : Prop := 1099511627776 ≤ p ∨ ∃ t ∈ L, usB t s = true ∧ t.p ≤ p

theorem low_cel {L : List Tk} {s p : Int} : cel L s L.length ≤ p ↔ Low L s p := by
  constructor
  · intro h
    rcases cel_is (L := L) (s := s) (n := L.length) with e | ⟨i, t, _, ht, hu, e⟩
    · exact .inl (by omega)
    · exact .inr ⟨t, List.mem_of_getElem? ht, hu, by omega⟩
  · rintro (h | ⟨t, ht, hu, h⟩)
    · have : ∀ n, cel L s n ≤ 1099511627776 := fun n => by
        induction n with
        | zero => exact Int.le_refl _
        | succ k ih => exact Int.le_trans (cel_fall k) ih
      exact Int.le_trans (this _) h
    · obtain ⟨i, hi, e⟩ := List.mem_iff_getElem.1 ht
      exact Int.le_trans (cel_le (t := t) (by rw [List.getElem?_eq_getElem hi, e]) hu hi) h

theorem Low.mono {L M : List Tk} {s p : Int} (h : Low M s p) (hs : ∀ t ∈ M, t ∈ L) : Low L s p := by
  rcases h with h | ⟨t, ht, hu, hp⟩
  · exact .inl h
  · exact .inr ⟨t, hs t ht, hu, hp⟩

/-! ### the longest hold-up, by membership -/

/-- x cycles may hold up jobs of that period -/
def Cand (L : List Tk) (per x : Int) : Prop := ∃ t ∈ L, per < t.p ∧ ∃ k, k < t.sl ∧ Low L k per ∧ t.sz.getD k 0 = x

theorem Cand.mono {L M : List Tk} {per x : Int} (h : Cand M per x) (hs : ∀ t ∈ M, t ∈ L) : Cand L per x := by
  obtain ⟨t, ht, hp, k, hk, hl, hx⟩ := h
  exact ⟨t, hs t ht, hp, k, hk, hl.mono hs, hx⟩

theorem hin_ge {L : List Tk} {per : Int} {zs : List Int} {st : Int} : ∀ {k : Nat}, st ≤ hin L per zs st k ∧ ∀ j, j < k → Low L j per → zs.getD j 0 ≤ hin L per zs st k
  | 0 => ⟨Int.le_refl _, fun j hj => by omega⟩
  | k + 1 => by
    have ih := hin_ge (L := L) (per := per) (zs := zs) (st := st) (k := k)
    by_cases g : hin L per zs st k < zs.getD k 0 ∧ cel L k L.length ≤ per
    · rw [hin_turn g.1 g.2]
      refine ⟨by omega, fun j hj hl => ?_⟩
      by_cases e : j = k
      · subst e; exact Int.le_refl _
      · have := ih.2 j (by omega) hl; omega
    · rw [hin_stay g]
      refine ⟨ih.1, fun j hj hl => ?_⟩
      by_cases e : j = k
      · subst e
        have hc := low_cel.2 hl
        by_cases q : hin L per zs st j < zs.getD j 0
        · exact absurd ⟨q, hc⟩ g
        · omega
      · exact ih.2 j (by omega) hl

theorem hin_is {L : List Tk} {per : Int} {zs : List Int} {st : Int} : ∀ {k : Nat}, hin L per zs st k = st ∨ ∃ j, j < k ∧ Low L j per ∧ zs.getD j 0 = hin L per zs st k
  | 0 => .inl rfl
  | k + 1 => by
    by_cases g : hin L per zs st k < zs.getD k 0 ∧ cel L k L.length ≤ per
    · rw [hin_turn g.1 g.2]
      exact .inr ⟨k, by omega, low_cel.1 g.2, rfl⟩
    · rw [hin_stay g]
      rcases hin_is (L := L) (per := per) (zs := zs) (st := st) (k := k) with q | ⟨j, hj, hl, e⟩
      · exact .inl q
      · exact .inr ⟨j, by omega, hl, e⟩

theorem hout_ge {L : List Tk} {per : Int} : ∀ {n : Nat}, 0 ≤ hout L per n ∧ ∀ i t, i < n → L[i]? = some t → per < t.p → ∀ k, k < t.sl → Low L k per → t.sz.getD k 0 ≤ hout L per n
  | 0 => ⟨Int.le_refl _, fun i t hi => by omega⟩
  | n + 1 => by
    have ih := hout_ge (L := L) (per := per) (n := n)
    cases hl : L[n]? with
    | none =>
      have e : hout L per (n + 1) = hout L per n := by simp only [hout, hl]
      rw [e]
      refine ⟨ih.1, fun i t hi ht => ?_⟩
      by_cases q : i = n
      · subst q; rw [hl] at ht; cases ht
      · exact ih.2 i t (by omega) ht
    | some u =>
      by_cases g : per < u.p
      · rw [hout_in hl g]
        have hg := hin_ge (L := L) (per := per) (zs := u.sz) (st := hout L per n) (k := u.sl)
        refine ⟨by omega, fun i t hi ht hp k hk hlo => ?_⟩
        by_cases q : i = n
        · subst q
          rw [hl] at ht
          cases ht
          exact hg.2 k hk hlo
        · have := ih.2 i t (by omega) ht hp k hk hlo; omega
      · rw [hout_not hl g]
        refine ⟨ih.1, fun i t hi ht hp => ?_⟩
        by_cases q : i = n
        · subst q
          rw [hl] at ht
          cases ht
          exact absurd hp g
        · exact ih.2 i t (by omega) ht hp

theorem hout_is {L : List Tk} {per : Int} : ∀ {n : Nat}, hout L per n = 0 ∨ Cand L per (hout L per n)
  | 0 => .inl rfl
  | n + 1 => by
    have ih := hout_is (L := L) (per := per) (n := n)
    cases hl : L[n]? with
    | none =>
      have e : hout L per (n + 1) = hout L per n := by simp only [hout, hl]
      rw [e]; exact ih
    | some u =>
      by_cases g : per < u.p
      · rw [hout_in hl g]
        rcases hin_is (L := L) (per := per) (zs := u.sz) (st := hout L per n) (k := u.sl) with q | ⟨j, hj, hlo, e⟩
        · rw [q]; exact ih
        · exact .inr ⟨u, List.mem_of_getElem? hl, g, j, hj, hlo, e⟩
      · rw [hout_not hl g]; exact ih

theorem hout_cand {L : List Tk} {per x : Int} (h : Cand L per x) : x ≤ hout L per L.length := by
  obtain ⟨t, ht, hp, k, hk, hl, rfl⟩ := h
  obtain ⟨i, hi, e⟩ := List.mem_iff_getElem.1 ht
  exact hout_ge.2 i t hi (by rw [List.getElem?_eq_getElem hi, e]) hp k hk hl

/-- with fewer tasks nobody is held up for longer -/
theorem hout_sub {L M : List Tk} {per : Int} (hs : ∀ t ∈ M, t ∈ L) : hout M per M.length ≤ hout L per L.length := by
  rcases hout_is (L := M) (per := per) (n := M.length) with e | c
  · rw [e]; exact hout_ge.1
  · exact hout_cand (c.mono hs)

theorem blk_sub {m : Mc} (hb : Bd m) {L M : List Tk} {per : Int} (hs : ∀ t ∈ M, t ∈ L) : blk m M per ≤ blk m L per := by
  have h1 := slw_bd hb
  have := Int.mul_le_mul_of_nonneg_right (hout_sub (per := per) hs) (show 0 ≤ slw m by omega)
  unfold blk; omega

/-! ### the reserve, by membership -/

theorem mx_l (a b : Int) : a ≤ mx a b := by unfold mx; split <;> omega
theorem mx_r (a b : Int) : b ≤ mx a b := by unfold mx; split <;> omega
theorem mx_is (a b : Int) : mx a b = a ∨ mx a b = b := by unfold mx; split <;> simp

theorem rsv_ge {m : Mc} {L : List Tk} : ∀ {n : Nat}, 0 ≤ rsv m L n ∧ ∀ i t, i < n → L[i]? = some t → ut (blk m L t.p) t.p ≤ rsv m L n
  | 0 => ⟨Int.le_refl _, fun i t hi => by omega⟩
  | n + 1 => by
    have ih := rsv_ge (m := m) (L := L) (n := n)
    cases hl : L[n]? with
    | none =>
      have e : rsv m L (n + 1) = rsv m L n := by simp only [rsv, hl]
      rw [e]
      refine ⟨ih.1, fun i t hi ht => ?_⟩
      by_cases q : i = n
      · subst q; rw [hl] at ht; cases ht
      · exact ih.2 i t (by omega) ht
    | some u =>
      rw [rsv_one hl]
      have a := mx_l (rsv m L n) (ut (blk m L u.p) u.p)
      have b := mx_r (rsv m L n) (ut (blk m L u.p) u.p)
      refine ⟨by omega, fun i t hi ht => ?_⟩
      by_cases q : i = n
      · subst q
        rw [hl] at ht
        cases ht
        exact b
      · have := ih.2 i t (by omega) ht; omega

theorem rsv_is {m : Mc} {L : List Tk} : ∀ {n : Nat}, rsv m L n = 0 ∨ ∃ t ∈ L, rsv m L n = ut (blk m L t.p) t.p
  | 0 => .inl rfl
  | n + 1 => by
    have ih := rsv_is (m := m) (L := L) (n := n)
    cases hl : L[n]? with
    | none =>
      have e : rsv m L (n + 1) = rsv m L n := by simp only [rsv, hl]
      rw [e]; exact ih
    | some u =>
      rw [rsv_one hl]
      rcases mx_is (rsv m L n) (ut (blk m L u.p) u.p) with e | e
      · rw [e]; exact ih
      · rw [e]; exact .inr ⟨u, List.mem_of_getElem? hl, rfl⟩

theorem rsv_mem {m : Mc} {L : List Tk} {t : Tk} (ht : t ∈ L) : ut (blk m L t.p) t.p ≤ rsv m L L.length := by
  obtain ⟨i, hi, e⟩ := List.mem_iff_getElem.1 ht
  exact rsv_ge.2 i t hi (by rw [List.getElem?_eq_getElem hi, e])

/-- with fewer tasks less is kept in reserve -/
theorem rsv_sub {m : Mc} (hb : Bd m) {L M : List Tk} (hs : ∀ t ∈ M, t ∈ L) : rsv m M M.length ≤ rsv m L L.length := by
  rcases rsv_is (m := m) (L := M) (n := M.length) with e | ⟨t, ht, e⟩
  · rw [e]; exact rsv_ge.1
  · rw [e]
    exact Int.le_trans (ut_mono _ (blk_sub hb hs)) (rsv_mem (hs t ht))

/-! ### the parts of all, as a sum -/

/-- a task's part -/
def pt (m : Mc) (lev : Int) (t : Tk) : Int := ut (qn m t.c lev) t.p
def tot : List Int → Int
  | [] => 0
  | x :: l => x + tot l
theorem tot_append : ∀ l r : List Int, tot (l ++ r) = tot l + tot r
  | [], r => by simp [tot]
  | x :: l, r => by simp only [List.cons_append, tot, tot_append l r]; omega

theorem take_succ {α : Type} {L : List α} {k : Nat} {t : α} (h : L[k]? = some t) : L.take (k + 1) = L.take k ++ [t] := by
  rw [List.take_add_one, h]; rfl

theorem sm_tot {m : Mc} {L : List Tk} {lev : Int} : ∀ {k : Nat}, k ≤ L.length → sm m L (cyc L) lev k = tot ((L.take k).map (pt m lev))
  | 0, _ => by simp [sm, tot]
  | k + 1, h => by
    have hg : L[k]? = some L[k] := List.getElem?_eq_getElem (by omega)
    rw [sm_one hg, cyc_at hg, sm_tot (k := k) (by omega), take_succ hg, List.map_append, tot_append]
    simp [tot, pt]

theorem lod_tot {m : Mc} {L : List Tk} {lev : Int} : lod m L lev = rsv m L L.length + tot (L.map (pt m lev)) := by
  unfold lod
  rw [sm_tot (Nat.le_refl _), List.take_length]

theorem pt_nonneg {m : Mc} {lev : Int} (t : Tk) : 0 ≤ pt m lev t := (ut_bd _ _).1

end Go.Proofs.Ytnpbdcnogeohdaa.AD
