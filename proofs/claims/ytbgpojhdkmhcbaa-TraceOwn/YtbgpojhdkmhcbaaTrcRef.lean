/- What the document's Add and Same answer. -/
import Derived.Test.YtbgpojhdkmhcbaaTrcAdd
namespace Go.Proofs.Ytbgpojhdkmhcbaa.TC
open Go.ChangeShapes Go.WideShapes Go.ChangeAt Go.RowKit Go.Proofs.Ytbgpojhdkmhcbaa.AR

/-- a list behind the document's Add -/
def Put (w : World) (base : Nat) (v : Value) (L : List I6) (v' : Value) (w' : World) : Prop :=
  Ls w' base v' L ∧ Step (fun k => v.ownBlock = some k) w w' ∧ (v'.ownBlock = v.ownBlock ∨ ∀ g, v'.ownBlock = some g → w.heap.size ≤ g)

theorem alloc2_at (w : World) (o1 o2 : Obj) : ((w.alloc o1).alloc o2).heap[w.heap.size + 1]? = some o2 := by
  have := alloc_at (w.alloc o1) o2
  rwa [World.size_alloc] at this

theorem alloc3_at (w : World) (o1 o2 o3 : Obj) : (((w.alloc o1).alloc o2).alloc o3).heap[w.heap.size + 1 + 1]? = some o3 := by
  have := alloc2_at (w.alloc o1) o2 o3
  rwa [World.size_alloc] at this

theorem put_more {w W w2 : World} {base g cap : Nat} {v : Value} {L : List I6} {y : I6} {o : Obj} (k : Kp w W) (hl : L.length + 1 ≤ 2932031007402)
    (row2 : w2.ownsRow base 27 6 (.slice (some ⟨g, 0, none⟩) (L.length + 1) cap) (L.length + 1) (flat6 (L ++ [y]))) (hg : (W.alloc o).grownBy w2 v.ownBlock) (hloc : v.ownBlock = some g ∨ g = (W.alloc o).heap.size) :
    Put w base v (L ++ [y]) (.slice (some ⟨g, 0, none⟩) (L.length + 1) cap) w2 := by
  have hlen : (L ++ [y]).length = L.length + 1 := by simp
  refine ⟨⟨by rw [hlen]; exact row2, by rw [hlen]; exact hl⟩, ((Kp.any k).alloc o).grown hg (fun _ hk => hk), ?_⟩
  rcases hloc with e | e
  · exact Or.inl (by simp only [Value.ownBlock]; exact e.symm)
  · right
    intro g' e'
    simp only [Value.ownBlock, Option.some.injEq] at e'
    have := k.size
    simp only [World.size_alloc] at e
    omega

set_option maxHeartbeats 4000000 in
theorem put_first (base : Nat) (v : Value) (L : List I6) (y : I6) (w : World) (h : Ls w base v L) (hz : L = []) (hb : base ≤ w.heap.size) :
    Calls Try.prog 12 #[v, y.v] w fun e w' => ∃ v', e = .returned v' ∧ Put w base v (L ++ [y]) v' w' := by
  have hl : L.length + 1 ≤ 2932031007402 := by rw [hz]; simp
  have hv : ∃ ao cap, v = .slice ao 0 cap := by
    subst hz
    rcases h.cases with ⟨rfl, _⟩ | ⟨g, cap, rfl, _⟩
    · exact ⟨_, _, rfl⟩
    · exact ⟨_, _, rfl⟩
  obtain ⟨ao, cap, rfl⟩ := hv
  unfold I6.v
  go_enter Try.func12, Try.ntmps12
  try dsimp only [List.append]
  go_wp2_with (first
    | (at_builtin; refine wpList_append_six _ rfl _ _ 22 27 rfl Try.underlying22 iv_info base (.slice ao 0 cap) L rfl (by exact (h.row.alloc _).alloc _) (w.heap.size + 1) y rfl (by exact alloc2_at w _ _) hl (by simp; omega) ?_; intro g' cap' w2 row2 hg2 hloc)
    | fail)
  have A := put_more ((Step.refl _ w).alloc _) hl row2 hg2 hloc
  rw [show L.length + 1 = 1 by rw [hz]; rfl] at A
  go_ret
  exact ⟨_, rfl, A⟩

/-- the box and the copy of the last one -/
theorem two_new {w W : World} {base : Nat} {v : Value} {L : List I6} {x y : I6} (h : Ls w base v L) (e : W = (w.alloc (.cells #[.int .i64 y.k, .int .i64 y.f, .int .i64 y.l, .int .i64 y.a, .int .i64 y.t, .int .i64 y.c] 27)).alloc (.cells #[.int .i64 x.k, .int .i64 x.f, .int .i64 x.l, .int .i64 x.a, .int .i64 x.t, .int .i64 x.c] 27)) :
    Kp w W ∧ Ls W base v L ∧ B6 W w.heap.size y ∧ B6 W (w.heap.size + 1) x := by
  subst e
  have k : Kp w _ := ((Step.refl _ w).alloc (.cells #[.int .i64 y.k, .int .i64 y.f, .int .i64 y.l, .int .i64 y.a, .int .i64 y.t, .int .i64 y.c] 27)).alloc (.cells #[.int .i64 x.k, .int .i64 x.f, .int .i64 x.l, .int .i64 x.a, .int .i64 x.t, .int .i64 x.c] 27)
  exact ⟨k, h.kp k, b6_new ((Step.refl _ _).alloc _), ⟨alloc2_at w _ _⟩⟩

theorem put_joined {w W : World} {base g cap n : Nat} {L : List I6} {x y : I6} (h : Ls W base (.slice (some ⟨g, 0, none⟩) L.length cap) L) (k : Kp w W) (hn : n < L.length) (hx : x = at6 L n) :
    Put w base (.slice (some ⟨g, 0, none⟩) L.length cap) (L.set n (jn x y)) (.slice (some ⟨g, 0, none⟩) L.length cap) ((W.setCell ⟨g, n * 6 + 2, none⟩ (.int .i64 (IntKind.i64.wrap (x.l + y.l)))).setCell ⟨g, n * 6 + 5, none⟩ (.int .i64 (IntKind.i64.wrap (x.c + y.c)))).drew := by
  have s : Step (fun k => k = g) W (((W.setCell ⟨g, n * 6 + 2, none⟩ (.int .i64 (IntKind.i64.wrap (x.l + y.l)))).setCell ⟨g, n * 6 + 5, none⟩ (.int .i64 (IntKind.i64.wrap (x.c + y.c)))).drew) :=
    (((Step.refl (fun k => k = g) W).setCell (p := ⟨g, n * 6 + 2, none⟩) rfl _).setCell (p := ⟨g, n * 6 + 5, none⟩) rfl _).drew
  have q := h.setBoth hn (IntKind.i64.wrap (x.l + y.l)) (IntKind.i64.wrap (x.c + y.c))
  have e : ({ at6 L n with l := IntKind.i64.wrap (x.l + y.l), c := IntKind.i64.wrap (x.c + y.c) } : I6) = jn x y := by
    rw [← hx]
    unfold jn wrap64
    rw [IntKind.wrap_i64, IntKind.wrap_i64]
  rw [e] at q
  exact ⟨⟨q.row.drew, q.len⟩, (Kp.any k).trans (s.mono (fun k _ q => by rw [q]; rfl)), Or.inl rfl⟩

/-- the three ways in which a Kind lasts -/
def Ways (k : Int) : Prop := (k == 1) = true ∨ ((k == 1) = false ∧ (k == 2) = true) ∨ ((k == 1) = false ∧ (k == 2) = false ∧ (k == 5) = true)

theorem ways {k : Int} (h : Lasts k) : Ways k := by
  unfold Ways
  simp only [beq_iff_eq, beq_eq_false_iff_ne]
  unfold Lasts at h
  omega

theorem no_ways {x y : I6} (h : joB x y = false) : ((x.k == 1) = false ∧ (x.k == 2) = false ∧ (x.k == 5) = false) ∨ (Ways x.k ∧ ((x.k == y.k) = false ∨ ((x.k == y.k) = true ∧ (x.a == y.a) = false) ∨ ((x.k == y.k) = true ∧ (x.a == y.a) = true ∧ (x.t == y.t) = false) ∨ ((x.k == y.k) = true ∧ (x.a == y.a) = true ∧ (x.t == y.t) = true ∧ (wrap64 (x.f + x.l) == y.f) = false))) := by
  have h' := joB_f.1 h
  unfold Jo en at h'
  by_cases hl : Lasts x.k
  · right
    refine ⟨ways hl, ?_⟩
    simp only [beq_iff_eq, beq_eq_false_iff_ne]
    by_cases q1 : x.k = y.k
    · by_cases q2 : x.a = y.a
      · by_cases q3 : x.t = y.t
        · exact .inr (.inr (.inr ⟨q1, q2, q3, fun q => h' ⟨⟨q1, q2, q3⟩, hl, q.symm⟩⟩))
        · exact .inr (.inr (.inl ⟨q1, q2, q3⟩))
      · exact .inr (.inl ⟨q1, q2⟩)
    · exact .inl q1
  · left
    unfold Lasts at hl
    simp only [beq_eq_false_iff_ne]
    omega

theorem all_ways {x y : I6} (h : joB x y = true) : Ways x.k ∧ (x.k == y.k) = true ∧ (x.a == y.a) = true ∧ (x.t == y.t) = true ∧ (wrap64 (x.f + x.l) == y.f) = true := by
  obtain ⟨⟨q1, q2, q3⟩, hl, hf⟩ := joB_t.1 h
  simp only [beq_iff_eq]
  exact ⟨ways hl, q1, q2, q3, hf.symm⟩

set_option maxHeartbeats 4000000 in
theorem put_more_any (base : Nat) (v : Value) (L : List I6) (y : I6) (w : World) (h : Ls w base v L) (hp : 0 < L.length) (hl : L.length + 1 ≤ 2932031007402) (hb : base ≤ w.heap.size) (hj : joB (at6 L (L.length - 1)) y = false) :
    Calls Try.prog 12 #[v, y.v] w fun e w' => ∃ v', e = .returned v' ∧ Put w base v (L ++ [y]) v' w' := by
  obtain ⟨g, cap, rfl, hbg, hg, _, hc⟩ := h.pos hp
  obtain ⟨n, hn, e1, i0, i1, i2, i3, i4⟩ := last_ix h.len hp
  rw [e1] at hj
  have x0 := hc n hn
  generalize at6 L n = x at *
  clear hc e1
  obtain ⟨W0, HW⟩ : ∃ W0, Hid (W0 = (w.alloc (.cells #[.int .i64 y.k, .int .i64 y.f, .int .i64 y.l, .int .i64 y.a, .int .i64 y.t, .int .i64 y.c] 27)).alloc (.cells #[.int .i64 x.k, .int .i64 x.f, .int .i64 x.l, .int .i64 x.a, .int .i64 x.t, .int .i64 x.c] 27)) := ⟨_, rfl⟩
  obtain ⟨k0, h0, by0, bx0⟩ := two_new h HW.out
  have hcases := no_ways hj
  clear hj
  have hbase : base ≤ W0.heap.size := Nat.le_trans hb k0.size
  obtain ⟨a0, a1, a2, a3, a4, a5, _⟩ := x0
  unfold I6.v
  rcases hcases with ⟨q1, q2, q3⟩ | ⟨q1 | ⟨q1, q2⟩ | ⟨q1, q2, q3⟩, b1 | ⟨b1, b2⟩ | ⟨b1, b2, b3⟩ | ⟨b1, b2, b3, b4⟩⟩
  all_goals
    go_enter Try.func12, Try.ntmps12
    try dsimp only [List.append]
    go_wp2_with (first
      | (at_builtin; refine wpList_append_six _ rfl _ _ 22 27 rfl Try.underlying22 iv_info base (.slice (some ⟨g, 0, none⟩) L.length cap) L rfl (by rw [← HW.out]; exact h0.row.alloc _) (w.heap.size + 1 + 1) y rfl (by exact alloc3_at w _ _ _) hl (by simp; omega) ?_; intro g' cap' w2 row2 hg2 hloc; rw [← HW.out] at hg2 hloc)
      | fail)
    have A := put_more k0 hl row2 hg2 hloc
    go_ret
    exact ⟨_, rfl, A⟩

set_option maxHeartbeats 4000000 in
theorem put_join_any (base : Nat) (v : Value) (L : List I6) (y : I6) (w : World) (h : Ls w base v L) (hp : 0 < L.length) (hj : joB (at6 L (L.length - 1)) y = true) :
    Calls Try.prog 12 #[v, y.v] w fun e w' => ∃ v', e = .returned v' ∧ Put w base v (L.set (L.length - 1) (jn (at6 L (L.length - 1)) y)) v' w' := by
  obtain ⟨n, hn, e1, i0, i1, i2, i3, i4⟩ := last_ix h.len hp
  rw [e1] at hj
  rw [e1]
  obtain ⟨x, HX⟩ : ∃ x, Hid (x = at6 L n) := ⟨_, rfl⟩
  rw [← HX.out]
  rw [← HX.out] at hj
  obtain ⟨W0, HW⟩ : ∃ W0, Hid (W0 = (w.alloc (.cells #[.int .i64 y.k, .int .i64 y.f, .int .i64 y.l, .int .i64 y.a, .int .i64 y.t, .int .i64 y.c] 27)).alloc (.cells #[.int .i64 x.k, .int .i64 x.f, .int .i64 x.l, .int .i64 x.a, .int .i64 x.t, .int .i64 x.c] 27)) := ⟨_, rfl⟩
  obtain ⟨k0, h0, by0, bx0⟩ := two_new h HW.out
  obtain ⟨g, cap, rfl, hbg, hg, _, hc⟩ := h.pos hp
  have x0 := hc n hn
  rw [← HX.out] at x0
  obtain ⟨a0, a1, a2, a3, a4, a5, _⟩ := x0
  clear hc e1
  obtain ⟨ws, b1, b2, b3, b4⟩ := all_ways hj
  have u0 : C6 W0 g (n * 6) x := by
    obtain ⟨_, _, e0, _, _, _, hc⟩ := h0.pos hp
    simp only [Value.slice.injEq, Option.some.injEq, Addr.mk.injEq, and_true, true_and] at e0
    obtain ⟨rfl, rfl⟩ := e0
    have := hc n hn
    rwa [← HX.out] at this
  have fr := h0.row.frozenAt
  unfold I6.v
  rcases ws with q1 | ⟨q1, q2⟩ | ⟨q1, q2, q3⟩
  all_goals
    go_enter Try.func12, Try.ntmps12
    try dsimp only [List.append]
    go_wp2_with fail
    rw [← HW.out]
    obtain ⟨s0, s1, s2, s3, s4, s5⟩ := by0.cl
    obtain ⟨t0, t1, t2, t3, t4, t5⟩ := bx0.cl
    have f2 := fr (n * 6 + 2)
    have f5 := fr (n * 6 + 5)
    obtain ⟨c0, c1, c2, c3, c4, c5, _⟩ := u0
    have n1 : ¬ g = w.heap.size := by omega
    have n2 : ¬ g = w.heap.size + 1 := by omega
    have n3 : ¬ w.heap.size = g := by omega
    have n4 : ¬ w.heap.size + 1 = g := by omega
    go_region_held3 (fun w' => w'.cell? ⟨w.heap.size, 2, none⟩ = some (.int .i64 y.l) ∧ w'.cell? ⟨w.heap.size, 5, none⟩ = some (.int .i64 y.c) ∧ w'.cell? ⟨w.heap.size + 1, 2, none⟩ = some (.int .i64 x.l) ∧ w'.cell? ⟨w.heap.size + 1, 5, none⟩ = some (.int .i64 x.c)) (go_keep) (fail)
    all_goals
      obtain ⟨Wf, hWf, PF⟩ : ∃ Wf, Hid (Wf = _) ∧ Put w base (.slice (some ⟨g, 0, none⟩) L.length cap) (L.set n (jn x y)) (.slice (some ⟨g, 0, none⟩) L.length cap) Wf := ⟨_, rfl, put_joined h0 k0 hn HX.out⟩
      rw [← hWf.out]
      go_wp2
      go_ret
      exact ⟨_, rfl, PF⟩

/-- the document's Add, whatever there is -/
theorem put_any (base : Nat) (v : Value) (L : List I6) (y : I6) (w : World) (h : Ls w base v L) (hl : L.length + 1 ≤ 2932031007402) (hb : base ≤ w.heap.size) :
    Calls Try.prog 12 #[v, y.v] w fun e w' => ∃ v', e = .returned v' ∧ Put w base v (addL L y) v' w' := by
  by_cases hp : 0 < L.length
  · cases hj : joB (at6 L (L.length - 1)) y
    · rw [addL_more hj]
      exact put_more_any base v L y w h hp hl hb hj
    · rw [addL_join hp hj]
      exact put_join_any base v L y w h hp hj
  · have hz : L = [] := List.length_eq_zero_iff.1 (by omega)
    have e : addL L y = L ++ [y] := by rw [hz]; rfl
    rw [e]
    exact put_first base v L y w h hz hb

end Go.Proofs.Ytbgpojhdkmhcbaa.TC
