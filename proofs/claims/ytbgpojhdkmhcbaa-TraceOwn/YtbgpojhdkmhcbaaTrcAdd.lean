/- What Add does. -/
import Derived.Test.YtbgpojhdkmhcbaaTrcOps
namespace Go.Proofs.Ytbgpojhdkmhcbaa.TC
open Go.ChangeShapes Go.WideShapes Go.ChangeAt Go.RowKit Go.Proofs.Ytbgpojhdkmhcbaa.AR

/-- a trace behind an Add: what it has, what was touched, where its row lies -/
def Added (w : World) (tb base : Nat) (v : Value) (L : List I6) (w' : World) : Prop :=
  ∃ v', Tr w' tb base v' L ∧ Step (fun k => k = tb ∨ v.ownBlock = some k) w w' ∧ (v'.ownBlock = v.ownBlock ∨ ∀ g, v'.ownBlock = some g → w.heap.size ≤ g)

theorem Added.drew {w w' : World} {tb base : Nat} {v : Value} {L : List I6} (h : Added w tb base v L w') : Added w tb base v L w'.drew := by
  obtain ⟨v', t, s, o⟩ := h
  exact ⟨v', ⟨t.blk, ⟨t.ls.row.drew, t.ls.len⟩⟩, s.drew, o⟩

/-- the new row is stored into the trace -/
theorem added_more {w W w2 : World} {tb base g cap : Nat} {v : Value} {L : List I6} {y : I6} {o : Obj} (h : Tr W tb base v L) (k : Kp w W) (hlt : tb < w.heap.size) (hl : L.length + 1 ≤ 2932031007402)
    (row2 : w2.ownsRow base 27 6 (.slice (some ⟨g, 0, none⟩) (L.length + 1) cap) (L.length + 1) (flat6 (L ++ [y]))) (hg : (W.alloc o).grownBy w2 v.ownBlock) (hloc : v.ownBlock = some g ∨ g = (W.alloc o).heap.size) :
    Added w tb base v (L ++ [y]) (w2.setCell ⟨tb, 0, none⟩ (.slice (some ⟨g, 0, none⟩) (L.length + 1) cap)) := by
  have s2 : Step (fun k => k = tb ∨ v.ownBlock = some k) w w2 := ((Kp.any k).alloc o).grown hg (fun k hk => Or.inr hk)
  have hne := row_ne h.ls h.blk
  have b2 : w2.heap[tb]? = some (.cells #[v] 39 (0, 0)) := by
    rw [hg.block tb (Nat.lt_of_lt_of_le h.lt (by simp)) (fun e => hne e.symm), Below.heap_alloc _ _ _ h.lt]
    exact h.blk
  have hlen : (L ++ [y]).length = L.length + 1 := by simp
  have s3 : Step (fun k => k = tb) w2 (w2.setCell ⟨tb, 0, none⟩ (.slice (some ⟨g, 0, none⟩) (L.length + 1) cap)) := (Step.refl (fun k => k = tb) w2).setCell (p := ⟨tb, 0, none⟩) rfl _
  have gne : g ≠ tb := by
    rcases hloc with e | e
    · intro q; subst q; exact hne e
    · have := k.size; simp only [World.size_alloc] at e; omega
  refine ⟨.slice (some ⟨g, 0, none⟩) (L.length + 1) cap, ⟨?_, ⟨?_, by rw [hlen]; exact hl⟩⟩, s2.trans (s3.mono (fun k _ q => Or.inl q)), ?_⟩
  · rw [heap_setCell_same w2 tb 0 _ _ _ b2]; rfl
  · rw [hlen]; exact row_kept s3 row2 (fun k hk q => by simp only [Value.ownBlock, Option.some.injEq] at hk; omega)
  · rcases hloc with e | e
    · exact Or.inl (by simp only [Value.ownBlock]; exact e.symm)
    · right
      intro g' e'
      simp only [Value.ownBlock, Option.some.injEq] at e'
      have := k.size
      simp only [World.size_alloc] at e
      omega

/-- behind the append: the trace's block and the box are as they were -/
theorem more_kept {W w2 : World} {tb base yb : Nat} {v : Value} {L : List I6} {y : I6} {o : Obj} (h : Tr W tb base v L) (hy : B6 W yb y) (hv : v.ownBlock ≠ some yb) (hg : (W.alloc o).grownBy w2 v.ownBlock) :
    w2.cell? ⟨tb, 0, none⟩ = some v ∧ w2.frozen? ⟨tb, 0, none⟩ = false ∧ B6 w2 yb y := by
  have hne := row_ne h.ls h.blk
  have b2 : w2.heap[tb]? = some (.cells #[v] 39 (0, 0)) := by
    rw [hg.block tb (Nat.lt_of_lt_of_le h.lt (by simp)) (fun e => hne e.symm), Below.heap_alloc _ _ _ h.lt]
    exact h.blk
  refine ⟨by simp [World.cell?, b2], by simp [World.frozen?, b2], ⟨?_⟩⟩
  rw [hg.block yb (Nat.lt_of_lt_of_le hy.lt (by simp)) (fun e => hv e.symm), Below.heap_alloc _ _ _ hy.lt]
  exact hy.blk

theorem box_new {w W : World} {tb base : Nat} {v : Value} {L : List I6} {y : I6} (h : Tr w tb base v L) (e : W = w.alloc (.cells #[.int .i64 y.k, .int .i64 y.f, .int .i64 y.l, .int .i64 y.a, .int .i64 y.t, .int .i64 y.c] 27)) : Kp w W ∧ Tr W tb base v L ∧ B6 W w.heap.size y := by
  subst e
  exact ⟨(Step.refl _ w).alloc _, h.kp ((Step.refl _ w).alloc _), b6_new (Step.refl _ _)⟩

set_option maxHeartbeats 4000000 in
theorem add_first (tb base : Nat) (v : Value) (L : List I6) (y : I6) (w : World) (h : Tr w tb base v L) (hz : L = []) (hb : base ≤ w.heap.size) :
    Calls Try.prog 11 #[.pointer (some ⟨tb, 0, none⟩), y.v] w fun e w' => e = .returned (.tuple #[]) ∧ Added w tb base v (L ++ [y]) w' := by
  have hl : L.length + 1 ≤ 2932031007402 := by rw [hz]; simp
  have hlt := h.lt
  obtain ⟨W0, HW⟩ : ∃ W0, Hid (W0 = w.alloc (.cells #[.int .i64 y.k, .int .i64 y.f, .int .i64 y.l, .int .i64 y.a, .int .i64 y.t, .int .i64 y.c] 27)) := ⟨_, rfl⟩
  obtain ⟨k0, h0, by0⟩ := box_new h HW.out
  have hv : ∃ ao cap, v = .slice ao 0 cap := by
    subst hz
    rcases h.ls.cases with ⟨rfl, _⟩ | ⟨g, cap, rfl, _⟩
    · exact ⟨_, _, rfl⟩
    · exact ⟨_, _, rfl⟩
  obtain ⟨ao, cap, rfl⟩ := hv
  have c0 := h0.c
  obtain ⟨d0, d1, d2, d3, d4, d5⟩ := by0.cl
  have hbase : base ≤ W0.heap.size := Nat.le_trans hb k0.size
  have c1 : w.cell? ⟨tb, 0, none⟩ = some (.slice ao 0 cap) := h.c
  have HV : Hid ((Value.slice ao 0 cap).ownBlock ≠ some w.heap.size) := fun e => absurd (h.ls.row.lt _ e).2 (Nat.lt_irrefl _)
  unfold I6.v
  go_enter Try.func11, Try.ntmps11
  go_wp2_with fail
  rw [← HW.out]
  have n0 := World.new_ne W0 ⟨tb, 0, none⟩ c0
  have n1 := World.new_ne W0 ⟨w.heap.size, 0, none⟩ d0
  have c2 : (W0.alloc (.cells #[.int .i64 y.k, .int .i64 y.f, .int .i64 y.l, .int .i64 y.a, .int .i64 y.t, .int .i64 y.c] 27)).cell? ⟨tb, 0, none⟩ = some (.slice ao 0 cap) := (h0.kp ((Step.refl _ _).alloc _)).c
  go_region_law (refine step_append_six _ rfl _ _ 22 27 rfl Try.underlying22 iv_info base (.slice ao 0 cap) L rfl (by exact h0.ls.row.alloc _) W0.heap.size y rfl (by exact alloc_at W0 _) hl (by simp; omega) ?_; intro g' cap' w2 row2 hg2 hloc; obtain ⟨q0, q1, q2⟩ := more_kept (o := .cells #[.int .i64 y.k, .int .i64 y.f, .int .i64 y.l, .int .i64 y.a, .int .i64 y.t, .int .i64 y.c] 27) h0 by0 HV.out ⟨hg2.os, hg2.tape, hg2.output, hg2.size, hg2.block⟩)
  all_goals
    have A := added_more (o := .cells #[.int .i64 y.k, .int .i64 y.f, .int .i64 y.l, .int .i64 y.a, .int .i64 y.t, .int .i64 y.c] 27) h0 k0 hlt hl row2 ⟨hg2.os, hg2.tape, hg2.output, hg2.size, hg2.block⟩ hloc
    rw [show L.length + 1 = 1 by rw [hz]; rfl] at A
    go_end0
    exact ⟨rfl, A⟩

/-- behind Join's call: the new variable, beside what was there -/
structure Mid (w W : World) (tb base nb : Nat) (v : Value) (L : List I6) (y z : I6) : Prop where
  kp : Kp w W
  tr : Tr W tb base v L
  yb : B6 W w.heap.size y
  zb : B6 W nb z

theorem mid_a {w W0 w3 : World} {tb base : Nat} {v : Value} {L : List I6} {y : I6} (k0 : Kp w W0) (h0 : Tr W0 tb base v L) (y0 : B6 W0 w.heap.size y) (k3 : Kp (W0.alloc (.cells #[.int .i64 0, .int .i64 0, .int .i64 0, .int .i64 0, .int .i64 0, .int .i64 0] 27)) w3) : Mid w w3 tb base W0.heap.size v L y zI :=
  have q : Kp W0 w3 := ((Step.refl _ W0).alloc _).trans k3
  ⟨k0.trans q, h0.kp q, y0.kp q, b6_new (x := zI) k3⟩

theorem mid_b {w W0 w3 : World} {tb base : Nat} {v : Value} {L : List I6} {y : I6} (z : I6) (k0 : Kp w W0) (h0 : Tr W0 tb base v L) (y0 : B6 W0 w.heap.size y) (k3 : Kp W0 w3) : Mid w (w3.alloc (.cells #[.int .i64 z.k, .int .i64 z.f, .int .i64 z.l, .int .i64 z.a, .int .i64 z.t, .int .i64 z.c] 27)) tb base w3.heap.size v L y z :=
  have q : Kp W0 (w3.alloc (.cells #[.int .i64 z.k, .int .i64 z.f, .int .i64 z.l, .int .i64 z.a, .int .i64 z.t, .int .i64 z.c] 27)) := k3.alloc _
  ⟨k0.trans q, h0.kp q, y0.kp q, b6_new (Step.refl _ _)⟩

theorem mid_b0 {w W0 w3 : World} {tb base : Nat} {v : Value} {L : List I6} {y : I6} (k0 : Kp w W0) (h0 : Tr W0 tb base v L) (y0 : B6 W0 w.heap.size y) (k3 : Kp W0 w3) : Mid w (w3.alloc (.cells #[.int .i64 0, .int .i64 0, .int .i64 0, .int .i64 0, .int .i64 0, .int .i64 0] 27)) tb base w3.heap.size v L y zI := mid_b zI k0 h0 y0 k3

theorem Mid.set {w W : World} {tb base nb : Nat} {v : Value} {L : List I6} {y z : I6} (m : Mid w W tb base nb v L y z) (hn : w.heap.size < nb) (hb : ∀ k, v.ownBlock = some k → k < w.heap.size) (ht : tb < w.heap.size) (x : I6) :
    Mid w ((((((W.setCell ⟨nb, 0, none⟩ (.int .i64 x.k)).setCell ⟨nb, 1, none⟩ (.int .i64 x.f)).setCell ⟨nb, 2, none⟩ (.int .i64 x.l)).setCell ⟨nb, 3, none⟩ (.int .i64 x.a)).setCell ⟨nb, 4, none⟩ (.int .i64 x.t)).setCell ⟨nb, 5, none⟩ (.int .i64 x.c)) tb base nb v L y x := by
  have s : Step (fun k => k = nb) W ((((((W.setCell ⟨nb, 0, none⟩ (.int .i64 x.k)).setCell ⟨nb, 1, none⟩ (.int .i64 x.f)).setCell ⟨nb, 2, none⟩ (.int .i64 x.l)).setCell ⟨nb, 3, none⟩ (.int .i64 x.a)).setCell ⟨nb, 4, none⟩ (.int .i64 x.t)).setCell ⟨nb, 5, none⟩ (.int .i64 x.c)) :=
    ((((((Step.refl (fun k => k = nb) W).setCell (p := ⟨nb, 0, none⟩) rfl _).setCell (p := ⟨nb, 1, none⟩) rfl _).setCell (p := ⟨nb, 2, none⟩) rfl _).setCell (p := ⟨nb, 3, none⟩) rfl _).setCell (p := ⟨nb, 4, none⟩) rfl _).setCell (p := ⟨nb, 5, none⟩) rfl _
  exact ⟨set6_new m.kp (Nat.le_of_lt hn) x, m.tr.kept s (by omega) (fun k hk q => by have := hb k hk; omega), m.yb.kept s (by omega), m.zb.set x⟩

theorem Mid.zero {w W : World} {tb base nb : Nat} {v : Value} {L : List I6} {y z : I6} (m : Mid w W tb base nb v L y z) (hn : w.heap.size < nb) (hb : ∀ k, v.ownBlock = some k → k < w.heap.size) (ht : tb < w.heap.size) :
    Mid w ((((((W.setCell ⟨nb, 0, none⟩ (.int .i64 0)).setCell ⟨nb, 1, none⟩ (.int .i64 0)).setCell ⟨nb, 2, none⟩ (.int .i64 0)).setCell ⟨nb, 3, none⟩ (.int .i64 0)).setCell ⟨nb, 4, none⟩ (.int .i64 0)).setCell ⟨nb, 5, none⟩ (.int .i64 0)) tb base nb v L y zI := m.set hn hb ht zI

/-- the last one is stored anew -/
theorem added_join {w W : World} {tb base g cap n : Nat} {L : List I6} (h : Tr W tb base (.slice (some ⟨g, 0, none⟩) L.length cap) L) (k : Kp w W) (hn : n < L.length) (x : I6) :
    Added w tb base (.slice (some ⟨g, 0, none⟩) L.length cap) (L.set n x) ((((((W.setCell ⟨g, n * 6, none⟩ (.int .i64 x.k)).setCell ⟨g, n * 6 + 1, none⟩ (.int .i64 x.f)).setCell ⟨g, n * 6 + 2, none⟩ (.int .i64 x.l)).setCell ⟨g, n * 6 + 3, none⟩ (.int .i64 x.a)).setCell ⟨g, n * 6 + 4, none⟩ (.int .i64 x.t)).setCell ⟨g, n * 6 + 5, none⟩ (.int .i64 x.c)) := by
  have s : Step (fun k => k = g) W ((((((W.setCell ⟨g, n * 6, none⟩ (.int .i64 x.k)).setCell ⟨g, n * 6 + 1, none⟩ (.int .i64 x.f)).setCell ⟨g, n * 6 + 2, none⟩ (.int .i64 x.l)).setCell ⟨g, n * 6 + 3, none⟩ (.int .i64 x.a)).setCell ⟨g, n * 6 + 4, none⟩ (.int .i64 x.t)).setCell ⟨g, n * 6 + 5, none⟩ (.int .i64 x.c)) :=
    ((((((Step.refl (fun k => k = g) W).setCell (p := ⟨g, n * 6, none⟩) rfl _).setCell (p := ⟨g, n * 6 + 1, none⟩) rfl _).setCell (p := ⟨g, n * 6 + 2, none⟩) rfl _).setCell (p := ⟨g, n * 6 + 3, none⟩) rfl _).setCell (p := ⟨g, n * 6 + 4, none⟩) rfl _).setCell (p := ⟨g, n * 6 + 5, none⟩) rfl _
  have hne := row_ne h.ls h.blk
  simp only [Value.ownBlock, ne_eq, Option.some.injEq] at hne
  refine ⟨_, ⟨(s.block tb h.lt (fun q => hne q.symm)).trans h.blk, h.ls.set hn x⟩, (Kp.any k).trans (s.mono (fun k _ q => Or.inr (by rw [q]; rfl))), Or.inl rfl⟩

theorem box_size {w W : World} {o : Obj} (e : W = w.alloc o) : W.heap.size = w.heap.size + 1 := by rw [e]; simp

set_option maxHeartbeats 4000000 in
theorem add_more (tb base : Nat) (v : Value) (L : List I6) (y : I6) (w : World) (h : Tr w tb base v L) (hp : 0 < L.length) (hl : L.length + 1 ≤ 2932031007402) (hb : base ≤ w.heap.size) (hj : joB (at6 L (L.length - 1)) y = false) :
    Calls Try.prog 11 #[.pointer (some ⟨tb, 0, none⟩), y.v] w fun e w' => e = .returned (.tuple #[]) ∧ Added w tb base v (L ++ [y]) w' := by
  have hlt := h.lt
  have hlow : ∀ k, v.ownBlock = some k → k < w.heap.size := fun k hk => (h.ls.row.lt k hk).2
  have HV : Hid (v.ownBlock ≠ some w.heap.size) := fun e => absurd (h.ls.row.lt _ e).2 (Nat.lt_irrefl _)
  obtain ⟨W0, HW⟩ : ∃ W0, Hid (W0 = w.alloc (.cells #[.int .i64 y.k, .int .i64 y.f, .int .i64 y.l, .int .i64 y.a, .int .i64 y.t, .int .i64 y.c] 27)) := ⟨_, rfl⟩
  obtain ⟨k0, h0, by0⟩ := box_new h HW.out
  have hs0 : Hid (W0.heap.size = w.heap.size + 1) := box_size HW.out
  obtain ⟨g, cap, rfl, hbg, hg, _, hc⟩ := h0.ls.pos hp
  obtain ⟨n, hn, e1, i0, i1, i2, i3, i4⟩ := last_ix h.ls.len hp
  rw [e1] at hj
  have x0 := hc n hn
  have c1 : w.cell? ⟨tb, 0, none⟩ = some (.slice (some ⟨g, 0, none⟩) L.length cap) := h.c
  have HX : Hid (∀ W', Kp W0 W' → C6 W' g (n * 6) (at6 L n)) := fun W' k => x0.kept k (fun q => q)
  generalize at6 L n = x at *
  clear hc e1
  have HJ : Hid (∀ W, Calls Try.prog 16 #[.agg #[.int .i64 x.k, .int .i64 x.f, .int .i64 x.l, .int .i64 x.a, .int .i64 x.t, .int .i64 x.c], .agg #[.int .i64 y.k, .int .i64 y.f, .int .i64 y.l, .int .i64 y.a, .int .i64 y.t, .int .i64 y.c]] W fun e w' => e = .returned (.tuple #[.agg #[.int .i64 0, .int .i64 0, .int .i64 0, .int .i64 0, .int .i64 0, .int .i64 0], .bool false]) ∧ Kp W w') := by
    intro W
    refine (join_any x y W).mono ?_
    rintro e w' ⟨rfl, k⟩
    have e2 : joined x y = zI := by unfold joined; rw [hj]; rfl
    rw [e2, hj]
    exact ⟨rfl, k⟩
  clear hj
  have c0 := h0.c
  obtain ⟨d0, d1, d2, d3, d4, d5⟩ := by0.cl
  obtain ⟨a0, a1, a2, a3, a4, a5, _⟩ := x0
  unfold I6.v
  go_enter Try.func11, Try.ntmps11
  go_wp2_with fail
  rw [← HW.out]
  have n0 := World.new_ne W0 ⟨tb, 0, none⟩ c0
  have n1 := World.new_ne W0 ⟨w.heap.size, 0, none⟩ d0
  have n2 := World.new_ne W0 ⟨g, n * 6, none⟩ a0
  go_region_held3 (fun w' => w'.cell? ⟨tb, 0, none⟩ = some (.slice (some ⟨g, 0, none⟩) L.length cap) ∧ w'.cell? ⟨w.heap.size, 0, none⟩ = some (.int .i64 y.k) ∧ w'.cell? ⟨w.heap.size, 1, none⟩ = some (.int .i64 y.f) ∧ w'.cell? ⟨w.heap.size, 2, none⟩ = some (.int .i64 y.l) ∧ w'.cell? ⟨w.heap.size, 3, none⟩ = some (.int .i64 y.a) ∧ w'.cell? ⟨w.heap.size, 4, none⟩ = some (.int .i64 y.t) ∧ w'.cell? ⟨w.heap.size, 5, none⟩ = some (.int .i64 y.c) ∧
      w'.cell? ⟨g, n * 6, none⟩ = some (.int .i64 x.k) ∧ w'.cell? ⟨g, n * 6 + 1, none⟩ = some (.int .i64 x.f) ∧ w'.cell? ⟨g, n * 6 + 2, none⟩ = some (.int .i64 x.l) ∧ w'.cell? ⟨g, n * 6 + 3, none⟩ = some (.int .i64 x.a) ∧ w'.cell? ⟨g, n * 6 + 4, none⟩ = some (.int .i64 x.t) ∧ w'.cell? ⟨g, n * 6 + 5, none⟩ = some (.int .i64 x.c)) (go_keep) (first
    | (go_at_call 16; refine (HJ.out _).mono ?_; rintro e w3 ⟨rfl, k3⟩; (first | (have K3 : Kp (W0.alloc (.cells #[.int .i64 0, .int .i64 0, .int .i64 0, .int .i64 0, .int .i64 0, .int .i64 0] 27)) w3 := ⟨k3.os, k3.tape, k3.output, k3.size, k3.block⟩; have MA := mid_a k0 h0 by0 K3; have L3 : Kp W0 w3 := ((Step.refl _ W0).alloc _).trans K3; have hnb : w.heap.size < W0.heap.size := (by have := hs0.out; omega); have bz := MA.zb.cl; have bf := MA.zb.fr; obtain ⟨o0, o1, o2, o3, o4, o5⟩ := bz; have f0 := bf 0; have f1 := bf 1; have f2 := bf 2; have f3 := bf 3; have f4 := bf 4; have f5 := bf 5) | (have L3 : Kp W0 w3 := ⟨k3.os, k3.tape, k3.output, k3.size, k3.block⟩;  have hnb : w.heap.size < w3.heap.size := (by have := L3.size; have := hs0.out; omega))); clear k3; obtain ⟨t0, t1, t2, t3, t4, t5⟩ := (by0.kp L3).cl; obtain ⟨u0, u1, u2, u3, u4, u5, _⟩ := HX.out _ L3; have r0 := (h0.kp L3).c; have n0 := World.new_ne w3 ⟨tb, 0, none⟩ r0; have n1 := World.new_ne w3 ⟨w.heap.size, 0, none⟩ t0; have n2 := World.new_ne w3 ⟨g, n * 6, none⟩ u0)
    | fail)
  all_goals
    clear d0 d1 d2 d3 d4 d5 a0 a1 a2 a3 a4 a5 t0 t1 t2 t3 t4 t5 u0 u1 u2 u3 u4 u5 c0 r0
    obtain ⟨Wf, nb, hWf, MF⟩ : ∃ Wf nb, Hid (Wf = _) ∧ Mid w Wf tb base nb (.slice (some ⟨g, 0, none⟩) L.length cap) L y zI := (by first | exact ⟨_, _, rfl, MA.zero hnb hlow hlt⟩ | exact ⟨_, _, rfl, mid_b0 k0 h0 by0 L3⟩)
    rw [← hWf.out]
    clear hWf L3
    have kf := MF.kp
    have hf := MF.tr
    have yf := MF.yb
    have c0 := hf.c
    obtain ⟨d0, d1, d2, d3, d4, d5⟩ := yf.cl
    have hbase : base ≤ Wf.heap.size := Nat.le_trans hb kf.size
    go_wp2_with fail
    have c2 : (Wf.alloc (.cells #[.int .i64 y.k, .int .i64 y.f, .int .i64 y.l, .int .i64 y.a, .int .i64 y.t, .int .i64 y.c] 27)).cell? ⟨tb, 0, none⟩ = some (.slice (some ⟨g, 0, none⟩) L.length cap) := (hf.kp ((Step.refl _ _).alloc _)).c
    go_region_law (refine step_append_six _ rfl _ _ 22 27 rfl Try.underlying22 iv_info base (.slice (some ⟨g, 0, none⟩) L.length cap) L rfl (by exact hf.ls.row.alloc _) Wf.heap.size y rfl (by exact alloc_at Wf _) hl (by simp; omega) ?_; intro g' cap' w2 row2 hg2 hloc; obtain ⟨q0, q1, q2⟩ := more_kept (o := .cells #[.int .i64 y.k, .int .i64 y.f, .int .i64 y.l, .int .i64 y.a, .int .i64 y.t, .int .i64 y.c] 27) hf yf HV.out ⟨hg2.os, hg2.tape, hg2.output, hg2.size, hg2.block⟩)
    all_goals
      have A := added_more (o := .cells #[.int .i64 y.k, .int .i64 y.f, .int .i64 y.l, .int .i64 y.a, .int .i64 y.t, .int .i64 y.c] 27) hf kf hlt hl row2 ⟨hg2.os, hg2.tape, hg2.output, hg2.size, hg2.block⟩ hloc
      go_end0
      exact ⟨rfl, A⟩

set_option maxHeartbeats 4000000 in
theorem add_join (tb base : Nat) (v : Value) (L : List I6) (y : I6) (w : World) (h : Tr w tb base v L) (hp : 0 < L.length)  (hj : joB (at6 L (L.length - 1)) y = true) :
    Calls Try.prog 11 #[.pointer (some ⟨tb, 0, none⟩), y.v] w fun e w' => e = .returned (.tuple #[]) ∧ Added w tb base v (L.set (L.length - 1) (jn (at6 L (L.length - 1)) y)) w' := by
  have hlt := h.lt
  have hlow : ∀ k, v.ownBlock = some k → k < w.heap.size := fun k hk => (h.ls.row.lt k hk).2
  have HV : Hid (v.ownBlock ≠ some w.heap.size) := fun e => absurd (h.ls.row.lt _ e).2 (Nat.lt_irrefl _)
  obtain ⟨W0, HW⟩ : ∃ W0, Hid (W0 = w.alloc (.cells #[.int .i64 y.k, .int .i64 y.f, .int .i64 y.l, .int .i64 y.a, .int .i64 y.t, .int .i64 y.c] 27)) := ⟨_, rfl⟩
  obtain ⟨k0, h0, by0⟩ := box_new h HW.out
  have hs0 : Hid (W0.heap.size = w.heap.size + 1) := box_size HW.out
  obtain ⟨g, cap, rfl, hbg, hg, _, hc⟩ := h0.ls.pos hp
  obtain ⟨n, hn, e1, i0, i1, i2, i3, i4⟩ := last_ix h.ls.len hp
  rw [e1] at hj
  rw [e1]
  have x0 := hc n hn
  have c1 : w.cell? ⟨tb, 0, none⟩ = some (.slice (some ⟨g, 0, none⟩) L.length cap) := h.c
  have HX : Hid (∀ W', Kp W0 W' → C6 W' g (n * 6) (at6 L n)) := fun W' k => x0.kept k (fun q => q)
  have HD : Hid (∀ W', Tr W' tb base (.slice (some ⟨g, 0, none⟩) L.length cap) L → Ls W' base (.slice (some ⟨g, 0, none⟩) L.length cap) L) := fun W' t => t.ls
  generalize at6 L n = x at *
  obtain ⟨z, HZ⟩ : ∃ z, Hid (z = jn x y) := ⟨_, rfl⟩
  rw [← HZ.out]
  clear hc e1
  have HJ : Hid (∀ W, Calls Try.prog 16 #[.agg #[.int .i64 x.k, .int .i64 x.f, .int .i64 x.l, .int .i64 x.a, .int .i64 x.t, .int .i64 x.c], .agg #[.int .i64 y.k, .int .i64 y.f, .int .i64 y.l, .int .i64 y.a, .int .i64 y.t, .int .i64 y.c]] W fun e w' => e = .returned (.tuple #[.agg #[.int .i64 z.k, .int .i64 z.f, .int .i64 z.l, .int .i64 z.a, .int .i64 z.t, .int .i64 z.c], .bool true]) ∧ Kp W w') := by
    intro W
    refine (join_any x y W).mono ?_
    rintro e w' ⟨rfl, k⟩
    have e2 : joined x y = z := by rw [HZ.out]; unfold joined; rw [hj]; rfl
    rw [e2, hj]
    exact ⟨rfl, k⟩
  clear hj HZ
  have c0 := h0.c
  obtain ⟨d0, d1, d2, d3, d4, d5⟩ := by0.cl
  obtain ⟨a0, a1, a2, a3, a4, a5, _⟩ := x0
  unfold I6.v
  go_enter Try.func11, Try.ntmps11
  go_wp2_with fail
  rw [← HW.out]
  have n0 := World.new_ne W0 ⟨tb, 0, none⟩ c0
  have n1 := World.new_ne W0 ⟨w.heap.size, 0, none⟩ d0
  have n2 := World.new_ne W0 ⟨g, n * 6, none⟩ a0
  go_region_held3 (fun w' => w'.cell? ⟨tb, 0, none⟩ = some (.slice (some ⟨g, 0, none⟩) L.length cap) ∧ w'.cell? ⟨w.heap.size, 0, none⟩ = some (.int .i64 y.k) ∧ w'.cell? ⟨w.heap.size, 1, none⟩ = some (.int .i64 y.f) ∧ w'.cell? ⟨w.heap.size, 2, none⟩ = some (.int .i64 y.l) ∧ w'.cell? ⟨w.heap.size, 3, none⟩ = some (.int .i64 y.a) ∧ w'.cell? ⟨w.heap.size, 4, none⟩ = some (.int .i64 y.t) ∧ w'.cell? ⟨w.heap.size, 5, none⟩ = some (.int .i64 y.c) ∧
      w'.cell? ⟨g, n * 6, none⟩ = some (.int .i64 x.k) ∧ w'.cell? ⟨g, n * 6 + 1, none⟩ = some (.int .i64 x.f) ∧ w'.cell? ⟨g, n * 6 + 2, none⟩ = some (.int .i64 x.l) ∧ w'.cell? ⟨g, n * 6 + 3, none⟩ = some (.int .i64 x.a) ∧ w'.cell? ⟨g, n * 6 + 4, none⟩ = some (.int .i64 x.t) ∧ w'.cell? ⟨g, n * 6 + 5, none⟩ = some (.int .i64 x.c)) (go_keep) (first
    | (go_at_call 16; refine (HJ.out _).mono ?_; rintro e w3 ⟨rfl, k3⟩; (first | (have K3 : Kp (W0.alloc (.cells #[.int .i64 0, .int .i64 0, .int .i64 0, .int .i64 0, .int .i64 0, .int .i64 0] 27)) w3 := ⟨k3.os, k3.tape, k3.output, k3.size, k3.block⟩; have MA := mid_a k0 h0 by0 K3; have L3 : Kp W0 w3 := ((Step.refl _ W0).alloc _).trans K3; have hnb : w.heap.size < W0.heap.size := (by have := hs0.out; omega); have bz := MA.zb.cl; have bf := MA.zb.fr; obtain ⟨o0, o1, o2, o3, o4, o5⟩ := bz; have f0 := bf 0; have f1 := bf 1; have f2 := bf 2; have f3 := bf 3; have f4 := bf 4; have f5 := bf 5) | (have L3 : Kp W0 w3 := ⟨k3.os, k3.tape, k3.output, k3.size, k3.block⟩;  have hnb : w.heap.size < w3.heap.size := (by have := L3.size; have := hs0.out; omega))); clear k3; obtain ⟨t0, t1, t2, t3, t4, t5⟩ := (by0.kp L3).cl; obtain ⟨u0, u1, u2, u3, u4, u5, _⟩ := HX.out _ L3; have r0 := (h0.kp L3).c; have n0 := World.new_ne w3 ⟨tb, 0, none⟩ r0; have n1 := World.new_ne w3 ⟨w.heap.size, 0, none⟩ t0; have n2 := World.new_ne w3 ⟨g, n * 6, none⟩ u0)
    | fail)
  all_goals
    clear d0 d1 d2 d3 d4 d5 a0 a1 a2 a3 a4 a5 t0 t1 t2 t3 t4 t5 u0 u1 u2 u3 u4 u5 c0 r0
    obtain ⟨Wf, nb, hWf, hnb', MF⟩ : ∃ Wf nb, Hid (Wf = _) ∧ Hid (nb = _) ∧ Mid w Wf tb base nb (.slice (some ⟨g, 0, none⟩) L.length cap) L y z := (by first | exact ⟨_, _, rfl, rfl, MA.set hnb hlow hlt z⟩ | exact ⟨_, _, rfl, rfl, mid_b z k0 h0 by0 L3⟩)
    rw [← hWf.out]
    rw [← hnb'.out]
    clear hWf hnb' L3
    have kf := MF.kp
    have hf := MF.tr
    have c0 := hf.c
    obtain ⟨d0, d1, d2, d3, d4, d5⟩ := MF.zb.cl
    have fr := hf.ls.row.frozenAt
    have f0 := fr (n * 6)
    have f1 := fr (n * 6 + 1)
    have f2 := fr (n * 6 + 2)
    have f3 := fr (n * 6 + 3)
    have f4 := fr (n * 6 + 4)
    have f5 := fr (n * 6 + 5)
    obtain ⟨_, _, e0, _, _, _, hc⟩ := hf.ls.pos hp
    simp only [Value.slice.injEq, Option.some.injEq, Addr.mk.injEq, and_true, true_and] at e0
    obtain ⟨rfl, rfl⟩ := e0
    obtain ⟨a0, a1, a2, a3, a4, a5, _⟩ := hc n hn
    clear hc fr
    go_wp2_with fail
    go_still_tail 7, (by kernel_rfl)
    go_wp2
    exact bodyPost_ret (v := .tuple #[]) (by simp [results, Try.results11, go_sem]) rfl ⟨rfl, (added_join hf kf hn z).drew⟩

/-- Add, whatever there is -/
theorem add_any (tb base : Nat) (v : Value) (L : List I6) (y : I6) (w : World) (h : Tr w tb base v L) (hl : L.length + 1 ≤ 2932031007402) (hb : base ≤ w.heap.size) :
    Calls Try.prog 11 #[.pointer (some ⟨tb, 0, none⟩), y.v] w fun e w' => e = .returned (.tuple #[]) ∧ Added w tb base v (addL L y) w' := by
  by_cases hp : 0 < L.length
  · cases hj : joB (at6 L (L.length - 1)) y
    · rw [addL_more hj]
      exact add_more tb base v L y w h hp hl hb hj
    · rw [addL_join hp hj]
      exact add_join tb base v L y w h hp hj
  · have hz : L = [] := List.length_eq_zero_iff.1 (by omega)
    have e : addL L y = L ++ [y] := by rw [hz]; rfl
    rw [e]
    exact add_first tb base v L y w h hz hb

end Go.Proofs.Ytbgpojhdkmhcbaa.TC
