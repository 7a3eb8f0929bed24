/- An interval more is in one place of the meter alone. -/
import Derived.Test.YtoinbdjjimfdgaaMetAns
namespace Go.Proofs.Ytoinbdjjimfdgaa.MT
open Go.ChangeShapes Go.WideShapes Go.ChangeAt Go.RowKit Go.Proofs.Ytoinbdjjimfdgaa.AR Go.Proofs.Ytoinbdjjimfdgaa.TB

/-- a machine's box, a meter's and an interval's, beside what was there -/
structure PMI (w W : World) (c0 c1 c2 : Value) (idle crit sw swe sems hor a b c d kind frm len arg task cyc : Int) : Prop where
  kp : Kp w W
  sz : w.heap.size + 2 < W.heap.size
  p0 : W.cell? ⟨w.heap.size, 0, none⟩ = some c0
  p1 : W.cell? ⟨w.heap.size, 1, none⟩ = some c1
  p2 : W.cell? ⟨w.heap.size, 2, none⟩ = some c2
  p3 : W.cell? ⟨w.heap.size, 3, none⟩ = some (.int .i64 idle)
  p4 : W.cell? ⟨w.heap.size, 4, none⟩ = some (.int .i64 crit)
  p5 : W.cell? ⟨w.heap.size, 5, none⟩ = some (.int .i64 sw)
  p6 : W.cell? ⟨w.heap.size, 6, none⟩ = some (.int .i64 swe)
  p7 : W.cell? ⟨w.heap.size, 7, none⟩ = some (.int .i64 sems)
  p8 : W.cell? ⟨w.heap.size, 8, none⟩ = some (.int .i64 hor)
  m0 : W.cell? ⟨w.heap.size + 1, 0, none⟩ = some (.int .i64 a)
  m1 : W.cell? ⟨w.heap.size + 1, 1, none⟩ = some (.int .i64 b)
  m2 : W.cell? ⟨w.heap.size + 1, 2, none⟩ = some (.int .i64 c)
  m3 : W.cell? ⟨w.heap.size + 1, 3, none⟩ = some (.int .i64 d)
  i0 : W.cell? ⟨w.heap.size + 2, 0, none⟩ = some (.int .i64 kind)
  i1 : W.cell? ⟨w.heap.size + 2, 1, none⟩ = some (.int .i64 frm)
  i2 : W.cell? ⟨w.heap.size + 2, 2, none⟩ = some (.int .i64 len)
  i3 : W.cell? ⟨w.heap.size + 2, 3, none⟩ = some (.int .i64 arg)
  i4 : W.cell? ⟨w.heap.size + 2, 4, none⟩ = some (.int .i64 task)
  i5 : W.cell? ⟨w.heap.size + 2, 5, none⟩ = some (.int .i64 cyc)

theorem PMI.still {w W W' : World} {c0 c1 c2 : Value} {idle crit sw swe sems hor a b c d kind frm len arg task cyc : Int} (h : PMI w W c0 c1 c2 idle crit sw swe sems hor a b c d kind frm len arg task cyc) (k : Kp W W') : PMI w W' c0 c1 c2 idle crit sw swe sems hor a b c d kind frm len arg task cyc := by
  have q : ∀ b i, b ≤ w.heap.size + 2 → W'.cell? ⟨b, i, none⟩ = W.cell? ⟨b, i, none⟩ := fun b i hb => k.cell (Nat.lt_of_le_of_lt hb h.sz)
  exact ⟨h.kp.trans k, Nat.lt_of_lt_of_le h.sz k.size, (q _ _ (by omega)).trans h.p0, (q _ _ (by omega)).trans h.p1, (q _ _ (by omega)).trans h.p2, (q _ _ (by omega)).trans h.p3, (q _ _ (by omega)).trans h.p4, (q _ _ (by omega)).trans h.p5, (q _ _ (by omega)).trans h.p6, (q _ _ (by omega)).trans h.p7, (q _ _ (by omega)).trans h.p8,
    (q _ _ (by omega)).trans h.m0, (q _ _ (by omega)).trans h.m1, (q _ _ (by omega)).trans h.m2, (q _ _ (by omega)).trans h.m3,
    (q _ _ (by omega)).trans h.i0, (q _ _ (by omega)).trans h.i1, (q _ _ (by omega)).trans h.i2, (q _ _ (by omega)).trans h.i3, (q _ _ (by omega)).trans h.i4, (q _ _ (by omega)).trans h.i5⟩

theorem pmi_new {w W : World} {c0 c1 c2 : Value} {idle crit sw swe sems hor a b c d kind frm len arg task cyc : Int}
    (e : W = ((w.alloc (.cells #[c0, c1, c2, .int .i64 idle, .int .i64 crit, .int .i64 sw, .int .i64 swe, .int .i64 sems, .int .i64 hor] 26)).alloc (.cells #[.int .i64 a, .int .i64 b, .int .i64 c, .int .i64 d] 36)).alloc (.cells #[.int .i64 kind, .int .i64 frm, .int .i64 len, .int .i64 arg, .int .i64 task, .int .i64 cyc] 28)) :
    PMI w W c0 c1 c2 idle crit sw swe sems hor a b c d kind frm len arg task cyc := by
  have hP : ∀ (X : World) (o1 o2 : Obj), ∀ i, i < 9 → ((( X.alloc (.cells #[c0, c1, c2, .int .i64 idle, .int .i64 crit, .int .i64 sw, .int .i64 swe, .int .i64 sems, .int .i64 hor] 26)).alloc o1).alloc o2).cell? ⟨X.heap.size, i, none⟩ = (#[c0, c1, c2, .int .i64 idle, .int .i64 crit, .int .i64 sw, .int .i64 swe, .int .i64 sems, .int .i64 hor])[i]? := by
    intro X o1 o2 i hi
    rw [(((Kp.refl _).alloc o1).alloc o2).cell (by simp)]
    match i, hi with
    | 0, _ => simp
    | 1, _ => simp
    | 2, _ => simp
    | 3, _ => simp
    | 4, _ => simp
    | 5, _ => simp
    | 6, _ => simp
    | 7, _ => simp
    | 8, _ => simp
  have hM : ∀ (X : World) (o2 : Obj), ∀ i, i < 4 → ((X.alloc (.cells #[.int .i64 a, .int .i64 b, .int .i64 c, .int .i64 d] 36)).alloc o2).cell? ⟨X.heap.size, i, none⟩ = (#[Value.int .i64 a, .int .i64 b, .int .i64 c, .int .i64 d])[i]? := by
    intro X o2 i hi
    rw [((Kp.refl _).alloc o2).cell (by simp)]
    match i, hi with
    | 0, _ => simp
    | 1, _ => simp
    | 2, _ => simp
    | 3, _ => simp
  have hI : ∀ (X : World), ∀ i, i < 6 → (X.alloc (.cells #[.int .i64 kind, .int .i64 frm, .int .i64 len, .int .i64 arg, .int .i64 task, .int .i64 cyc] 28)).cell? ⟨X.heap.size, i, none⟩ = (#[Value.int .i64 kind, .int .i64 frm, .int .i64 len, .int .i64 arg, .int .i64 task, .int .i64 cyc])[i]? := by
    intro X i hi
    match i, hi with
    | 0, _ => simp
    | 1, _ => simp
    | 2, _ => simp
    | 3, _ => simp
    | 4, _ => simp
    | 5, _ => simp
  have hP' := hP w (.cells #[.int .i64 a, .int .i64 b, .int .i64 c, .int .i64 d] 36) (.cells #[.int .i64 kind, .int .i64 frm, .int .i64 len, .int .i64 arg, .int .i64 task, .int .i64 cyc] 28)
  have hM' := hM (w.alloc (.cells #[c0, c1, c2, .int .i64 idle, .int .i64 crit, .int .i64 sw, .int .i64 swe, .int .i64 sems, .int .i64 hor] 26)) (.cells #[.int .i64 kind, .int .i64 frm, .int .i64 len, .int .i64 arg, .int .i64 task, .int .i64 cyc] 28)
  have hI' := hI ((w.alloc (.cells #[c0, c1, c2, .int .i64 idle, .int .i64 crit, .int .i64 sw, .int .i64 swe, .int .i64 sems, .int .i64 hor] 26)).alloc (.cells #[.int .i64 a, .int .i64 b, .int .i64 c, .int .i64 d] 36))
  rw [← e] at hP' hM' hI'
  simp only [World.size_alloc] at hM' hI'
  refine ⟨by rw [e]; exact (((Kp.refl w).alloc _).alloc _).alloc _, by rw [e]; simp only [World.size_alloc]; omega, hP' 0 (by omega), hP' 1 (by omega), hP' 2 (by omega), hP' 3 (by omega), hP' 4 (by omega), hP' 5 (by omega), hP' 6 (by omega), hP' 7 (by omega), hP' 8 (by omega), hM' 0 (by omega), hM' 1 (by omega), hM' 2 (by omega), hM' 3 (by omega), hI' 0 (by omega), hI' 1 (by omega), hI' 2 (by omega), hI' 3 (by omega), hI' 4 (by omega), hI' 5 (by omega)⟩

/-- the k-th of four -/
def nth (a b c d : Int) : Nat → Int
  | 0 => a
  | 1 => b
  | 2 => c
  | _ => d

theorem B4.at {W : World} {g : Nat} {t : TypeId} {a b c d : Int} (h : B4 W g t a b c d) {k : Nat} (hk : k < 4) : W.cell? ⟨g, k, none⟩ = some (.int .i64 (nth a b c d k)) := by
  match k, hk with
  | 0, _ => exact h.c0
  | 1, _ => exact h.c1
  | 2, _ => exact h.c2
  | 3, _ => exact h.c3

/-- what an interval costs on a machine that may be -/
theorem cost_bound {lL : Nat} {rL : List (List Int)} {lS : Nat} {rS : List (List Int)} {lD : Nat} {rD : List (List Int)} {idle crit sw swe sems hor kind len arg cyc : Int} (hm : mayB lL rL lS rS lD rD idle crit sw swe sems hor = true) (hs : Small len cyc) :
    0 ≤ cost lL rL lS rS idle swe kind len arg cyc ∧ cost lL rL lS rS idle swe kind len arg cyc ≤ 1152921504606846976 := by
  obtain ⟨hn, hl, _, hsl, _⟩ := mayB_t.1 hm
  obtain ⟨s1, s2⟩ := hs
  have eL : 0 ≤ sel lL rL arg 1 ∧ sel lL rL arg 1 ≤ 65536 := by
    unfold sel
    split
    · next q => exact (hl.2 arg.toNat (by omega)).2
    · omega
  have eS : ∀ j, (j = 0 ∨ j = 3 ∨ j = 4) → 0 ≤ sel lS rS arg j ∧ sel lS rS arg j ≤ 65536 := by
    intro j hj
    unfold sel
    split
    · next q =>
      have := awayB_t.1 (hsl.2 arg.toNat (by omega))
      have hi := hn.1
      rcases hj with rfl | rfl | rfl
      · have h2 := this.2.1; omega
      · have h5 := this.2.2.2.2.1; omega
      · have h6 := this.2.2.2.2.2.1; omega
    · omega
  have e0 := eS 0 (by simp)
  have e3 := eS 3 (by simp)
  have e4 := eS 4 (by simp)
  have q1 := mul_bound s2.1 s2.2 eL.1 eL.2
  have q2 := mul_bound s1.1 s1.2 hn.1.1 hn.1.2
  have q3 := mul_bound s1.1 s1.2 e0.1 e0.2
  unfold cost
  rw [IntWalk.wrap64_in _ (by omega), IntWalk.wrap64_in _ (by omega), IntWalk.wrap64_in _ (by omega)]
  have h4 := hn.2.2.2.1
  split
  · omega
  split
  · omega
  split
  · omega
  split
  · omega
  split
  · omega
  split
  · omega
  · omega

theorem place_lt {kind : Int} : (1 ≤ kind ∧ kind ≤ 6) → place kind < 4 := by
  intro h
  unfold place
  repeat' split
  all_goals omega

theorem bump_nth {kind co a b c d : Int} (h : ∀ i, i < 4 → 0 ≤ nth a b c d i ∧ nth a b c d i ≤ 1152921504606846976) (hc : 0 ≤ co ∧ co ≤ 1152921504606846976) :
    ∀ k, k < 4 → nth (bump kind co 0 a) (bump kind co 1 b) (bump kind co 2 c) (bump kind co 3 d) k = if place kind = k then nth a b c d k + co else nth a b c d k := by
  intro k hk
  have q : ∀ j x, (0 ≤ x ∧ x ≤ 1152921504606846976) → bump kind co j x = if place kind = j then x + co else x := by
    intro j x hx
    unfold bump
    rw [IntWalk.wrap64_in (x + co) (by omega)]
  have := h k hk
  match k, hk with
  | 0, _ => exact q 0 a this
  | 1, _ => exact q 1 b this
  | 2, _ => exact q 2 c this
  | 3, _ => exact q 3 d this

/-- how many have turned, of the first k -/
def tn (p : Nat) (co : Int) (k : Nat) : Int := if p < k ∧ co ≠ 0 then 1 else 0
/-- .. and by how much -/
def bn (p : Nat) (co : Int) (k : Nat) : Int := if p < k ∧ co ≠ 0 then co else 0

theorem tn_zero {p : Nat} {co : Int} : tn p co 0 = 0 := if_neg (by omega)
theorem bn_zero {p : Nat} {co : Int} : bn p co 0 = 0 := if_neg (by omega)

theorem tb_at {p k : Nat} {co : Int} (h : p = k) (hc : co ≠ 0) : tn p co k = 0 ∧ bn p co k = 0 ∧ tn p co (k + 1) = 1 ∧ bn p co (k + 1) = co :=
  ⟨if_neg (by omega), if_neg (by omega), if_pos ⟨by omega, hc⟩, if_pos ⟨by omega, hc⟩⟩

theorem tb_still {p k : Nat} {co : Int} (h : ¬ (p = k ∧ co ≠ 0)) : tn p co (k + 1) = tn p co k ∧ bn p co (k + 1) = bn p co k := by
  unfold tn bn
  by_cases q : p < k ∧ co ≠ 0
  · rw [if_pos q, if_pos q, if_pos ⟨by omega, q.2⟩, if_pos ⟨by omega, q.2⟩]; exact ⟨rfl, rfl⟩
  · rw [if_neg q, if_neg q, if_neg (by omega), if_neg (by omega)]; exact ⟨rfl, rfl⟩

/-- .. at the end: three ways -/
theorem tb_end {kind co : Int} (hz : ¬ (1 ≤ kind ∧ kind ≤ 6) → co = 0) :
    ((1 ≤ kind ∧ kind ≤ 6) ∧ co ≠ 0 ∧ tn (place kind) co 4 = 1 ∧ bn (place kind) co 4 = co) ∨ ((1 ≤ kind ∧ kind ≤ 6) ∧ co = 0 ∧ tn (place kind) co 4 = 0 ∧ bn (place kind) co 4 = 0) ∨ (¬ (1 ≤ kind ∧ kind ≤ 6) ∧ co = 0 ∧ tn (place kind) co 4 = 0 ∧ bn (place kind) co 4 = 0) := by
  by_cases hk : 1 ≤ kind ∧ kind ≤ 6
  · by_cases hc : co = 0
    · exact .inr (.inl ⟨hk, hc, if_neg (fun q => q.2 hc), if_neg (fun q => q.2 hc)⟩)
    · exact .inl ⟨hk, hc, if_pos ⟨place_lt hk, hc⟩, if_pos ⟨place_lt hk, hc⟩⟩
  · have hc := hz hk
    exact .inr (.inr ⟨hk, hc, if_neg (fun q => q.2 hc), if_neg (fun q => q.2 hc)⟩)

theorem int_eq (d : Nat) (x : Int) (w : World) : (Op.equalIn (d + 1) 3 (.int .i64 x) (.int .i64 x)).run Try.prog w = .ok true w := by
  rw [run_equalIn_int w d 3 .i64 .i64 x x Try.underlying3]
  simp

theorem eq4' (n : Nat) (a b c d : Int) (w : World) : (Op.equalIn (n + 1 + 1) 37 (.agg #[.int .i64 a, .int .i64 b, .int .i64 c, .int .i64 d]) (.agg #[.int .i64 a, .int .i64 b, .int .i64 c, .int .i64 d])).run Try.prog w = .ok true w := by
  have q : ∀ x w, (Op.equalIn (n + 1) 3 (.int .i64 x) (.int .i64 x)).run Try.prog w = .ok true w := fun x w => int_eq n x w
  rw [Op.equalIn]
  generalize hE : Op.equalIn (n + 1) = E at *
  simp only [Sem.run_bind, run_underlying Try.underlying37, Result.andThen_ok]
  simp [go_sem, Std.Legacy.Range.forIn_eq_forIn_range', List.range', part, q]

theorem eq4 (a b c d : Int) (w : World) : (Op.equalIn 10000 37 (.agg #[.int .i64 a, .int .i64 b, .int .i64 c, .int .i64 d]) (.agg #[.int .i64 a, .int .i64 b, .int .i64 c, .int .i64 d])).run Try.prog w = .ok true w := eq4' 9998 a b c d w

end Go.Proofs.Ytoinbdjjimfdgaa.MT
