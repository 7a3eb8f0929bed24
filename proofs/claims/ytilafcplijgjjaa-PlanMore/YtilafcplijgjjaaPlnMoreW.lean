/- One more task that needs a device does not let it be away longer. -/
import Derived.Test.YtilafcplijgjjaaPlnLaw
import Derived.Test.YtilafcplijgjjaaTskLst
import Derived.Test.YtilafcplijgjjaaAdmAns
import Derived.Deep.CutRange
namespace Go.Proofs.Ytilafcplijgjjaa.PN
open Go.ChangeShapes Go.WideShapes Go.ChangeAt Go.RowKit Go.Proofs.Ytilafcplijgjjaa.AR Go.Proofs.Ytilafcplijgjjaa.TB Go.Proofs.Ytilafcplijgjjaa.TK Go.Proofs.Ytilafcplijgjjaa.JB Go.Proofs.Ytilafcplijgjjaa.FX Go.Proofs.Ytilafcplijgjjaa.AD Go.Proofs.Ytilafcplijgjjaa.SK
open Go.Proofs.Ytilafcplijgjjaa.LK (Hd atH HsAt C3)

/-! ### lists copied into rows of the call's own, and one more behind -/

/-- 'append([]api.Task{}, l...)' -/
theorem step_append_tks {P : Program} (w : World) {ops : Array Oper} {o : Oper} {a : Act} {K : Act → World → Prop} {Q : Exit → Act → World → Prop} {E : Prop} (hgd : o.guard = none) (s x : Operand) (t e : TypeId)
    (ho : o.op = .call { callee := .builtin .append, args := #[s, x], argTypes := #[t, t] }) (ht : P.underlying t = some (.slice e))
    (hinf : (P.info? e).map (fun i => (i.zero, i.size, i.bytes)) = some (some (.agg #[.int .i64 0, .int .i64 0, .slice none 0 0, .slice none 0 0]), 4, 64))
    (base g0 : Nat) (hs : a.eval s = .slice (some ⟨g0, 0, none⟩) 0 0) (hg0 : w.heap[g0]? = some (.cells #[] e (0, 0))) (hb : base ≤ g0)
    (ao : Option Addr) (len cap : Nat) (L : List Tk) (hx : a.eval x = .slice ao len cap) (hat : LAt w ao len L) (hy : len * 64 ≤ 140737488351232)
    (h : ∀ g cap' w', w'.ownsRow base e 4 (.slice (some ⟨g, 0, none⟩) len cap') len (flat4 L) → w.grownBy w' (some g0) → K (a.put o.dst (.slice (some ⟨g, 0, none⟩) len cap')) w') :
    if Region.wanted o (yielded ops a.tmps) = true then Oper.wp P o a w K Q else E := by
  obtain ⟨i0, hi, hz0, hz1, hz2⟩ := info_parts hinf
  refine step_append_any w hgd s x t ho base e i0 _ 4 64 ht hi hz0 hz1 hz2 (by rfl) (by decide) g0 0 0 [] hs (ownsRow_none g0 hb hg0) ao len cap (flat4 L) hx (by rw [flat4_len, hat.ln]) (fun q => by subst q; exact hat.nil) hat.flat flat4_one (by unfold maxLen; omega) (by omega) (by have := lt_blk hg0; omega) ?_
  intro g cap' w' hr hg
  simp only [Nat.zero_add, List.nil_append] at hr ⊢
  exact h g cap' w' hr hg

/-- and one more -/
theorem step_append_tk {P : Program} (w : World) {ops : Array Oper} {o : Oper} {a : Act} {K : Act → World → Prop} {Q : Exit → Act → World → Prop} {E : Prop} (hgd : o.guard = none) (s x : Operand) (t e : TypeId)
    (ho : o.op = .call { callee := .builtin .append, args := #[s, x], argTypes := #[t, t] }) (ht : P.underlying t = some (.slice e))
    (hinf : (P.info? e).map (fun i => (i.zero, i.size, i.bytes)) = some (some (.agg #[.int .i64 0, .int .i64 0, .slice none 0 0, .slice none 0 0]), 4, 64))
    (base g0 n c0 : Nat) (L : List Tk) (hs : a.eval s = .slice (some ⟨g0, 0, none⟩) n c0) (hown : w.ownsRow base e 4 (.slice (some ⟨g0, 0, none⟩) n c0) n (flat4 L))
    (b : Nat) (y : Tk) (hx : a.eval x = .slice (some ⟨b, 0, none⟩) 1 1) (hb : w.heap[b]? = some (.cells #[.int .i64 y.p, .int .i64 y.c, .slice y.sa y.sl y.sc, .slice y.da y.dl y.dc] e (0, 0))) (hy : n * 64 ≤ 140737488351232) (hbase : base ≤ w.heap.size)
    (h : ∀ g cap' w', w'.ownsRow base e 4 (.slice (some ⟨g, 0, none⟩) (n + 1) cap') (n + 1) (flat4 (L ++ [y])) → w.grownBy w' (some g0) → K (a.put o.dst (.slice (some ⟨g, 0, none⟩) (n + 1) cap')) w') :
    if Region.wanted o (yielded ops a.tmps) = true then Oper.wp P o a w K Q else E := by
  obtain ⟨i0, hi, hz0, hz1, hz2⟩ := info_parts hinf
  refine step_append_any w hgd s x t ho base e i0 _ 4 64 ht hi hz0 hz1 hz2 (by rfl) (by decide) g0 n c0 (flat4 L) hs hown (some ⟨b, 0, none⟩) 1 1 [.int .i64 y.p, .int .i64 y.c, .slice y.sa y.sl y.sc, .slice y.da y.dl y.dc] hx (by rfl) (fun q => by cases q) ?_ ?_ (by unfold maxLen; omega) (by omega) hbase ?_
  · intro ad e j u hj
    cases e
    match j, hj with
    | 0, hj => simp at hj; subst hj; simp [Addr.add, World.cell?, hb]
    | 1, hj => simp at hj; subst hj; simp [Addr.add, World.cell?, hb]
    | 2, hj => simp at hj; subst hj; simp [Addr.add, World.cell?, hb]
    | 3, hj => simp at hj; subst hj; simp [Addr.add, World.cell?, hb]
  · intro u hu
    simp at hu
    rcases hu with rfl | rfl | rfl | rfl <;> rfl
  · intro g cap' w' hr hg
    rw [show flat4 L ++ [.int .i64 y.p, .int .i64 y.c, .slice y.sa y.sl y.sc, .slice y.da y.dl y.dc] = flat4 (L ++ [y]) from by rw [flat4_append]; rfl] at hr
    exact h g cap' w' hr hg

theorem mflat {w : World} {ao : Option Addr} {len : Nat} {L : List Int} (h : NAt w ao len L) : ∀ ad, ao = some ad → ∀ j u, (L.map (Value.int .i64))[j]? = some u → w.cell? (ad.add j) = some u := by
  intro ad e j u hj
  rw [List.getElem?_map] at hj
  cases hg : L[j]? with
  | none => rw [hg] at hj; simp at hj
  | some x =>
    rw [hg] at hj
    simp only [Option.map_some, Option.some.injEq] at hj
    subst hj
    have hl : j < len := by rw [← h.at'.1]; exact (List.getElem?_eq_some_iff.1 hg).1
    rcases h.at'.2.2 with h0 | ⟨b, off, e', _, hc⟩
    · omega
    · rw [e] at e'
      cases e'
      rw [add_plain, hc j hl]
      simp [List.getD_eq_getElem?_getD, hg]
theorem mone {L : List Int} : ∀ v ∈ L.map (Value.int .i64), v.oneCell' = true := by
  intro v hv
  obtain ⟨x, _, rfl⟩ := List.mem_map.1 hv
  rfl
theorem mat_of_row {w : World} {base g n cap : Nat} {L : List Int} (h : w.ownsRow base 3 1 (.slice (some ⟨g, 0, none⟩) n cap) n (L.map (Value.int .i64))) (hw : ∀ z ∈ L, I64 z) (hb : n * 8 ≤ 140737488351232) : NAt w (some ⟨g, 0, none⟩) n L := by
  have hl : L.length = n := by
    have := h.1
    rw [List.length_map] at this
    omega
  refine ⟨⟨hl, hw, .inr ⟨g, 0, rfl, ?_, fun i hi => ?_⟩⟩, hb⟩
  · rcases h.2 with ⟨q, _⟩ | ⟨g', cap', cur, e, _, hg, _⟩
    · cases q
    · cases e
      exact lt_blk hg
  · rw [show 0 + i = i from by omega, World.ownsRow.cellAt h i (by omega)]
    simp [List.getD_eq_getElem?_getD, List.getElem?_eq_getElem (show i < L.length by omega)]

/-- 'append([]int{}, l...)' and one number behind, their order the text's -/
theorem wpList_append_more {P : Program} (w : World) {ops : Array Oper} {rest : List Oper} {o : Oper} {a : Act} {Q : Exit → Act → World → Prop} (hgd : o.guard = none) (s x : Operand) (t e : TypeId)
    (ho : o.op = .call { callee := .builtin .append, args := #[s, x], argTypes := #[t, t] }) (ht : P.underlying t = some (.slice e))
    (hinf : (P.info? e).map (fun i => (i.zero, i.size, i.bytes)) = some (some (.int .i64 0), 1, 8))
    (base g0 n c0 : Nat) (L : List Int) (hs : a.eval s = .slice (some ⟨g0, 0, none⟩) n c0) (hown : w.ownsRow base e 1 (.slice (some ⟨g0, 0, none⟩) n c0) n (L.map (Value.int .i64)))
    (ao : Option Addr) (len cap : Nat) (M : List Int) (hx : a.eval x = .slice ao len cap) (hat : NAt w ao len M) (hy : (n + len) * 8 ≤ 140737488355328) (hbase : base ≤ w.heap.size)
    (h : ∀ g cap' w', w'.ownsRow base e 1 (.slice (some ⟨g, 0, none⟩) (n + len) cap') (n + len) ((L ++ M).map (Value.int .i64)) → w.grownBy w' (some g0) → wpList P ops Q rest (a.put o.dst (.slice (some ⟨g, 0, none⟩) (n + len) cap')) w') :
    wpList P ops Q (o :: rest) a w := by
  obtain ⟨i0, hi, hz0, hz1, hz2⟩ := info_parts hinf
  refine wpList_plain hgd fun K hK => ?_
  have q := step_append_any (E := False) (ops := ops) (K := K) (Q := Q) w hgd s x t ho base e i0 _ 1 8 ht hi hz0 hz1 hz2 (by rfl) (by decide) g0 n c0 (L.map (Value.int .i64)) hs hown ao len cap (M.map (Value.int .i64)) hx (by rw [List.length_map, hat.at'.1]; omega) (fun q => by subst q; exact hat.none) (mflat hat) mone (by unfold maxLen; omega) hy hbase (fun g cap' w' r1 r2 => hK _ _ (by
    rw [← List.map_append] at r1
    exact h g cap' w' r1 r2))
  rw [if_pos (by simp [Region.wanted, hgd])] at q
  exact q
theorem mrow_base {w : World} {base : Nat} {e : TypeId} {size g n cap : Nat} {xs : List Value} (h : w.ownsRow base e size (.slice (some ⟨g, 0, none⟩) n cap) n xs) : base ≤ g := (h.lt g rfl).1
theorem one_num {W : World} {b : Nat} {x : Int} (h : W.heap[b]? = some (.cells #[.int .i64 x] 3 (0, 0))) (hx : I64 x) : NAt W (some ⟨b, 0, none⟩) 1 [x] := by
  refine RW.nat_block h rfl rfl (fun z hz => ?_) (by simp)
  simp only [List.mem_cons, List.not_mem_nil, or_false] at hz
  subst hz
  exact hx
theorem i64_of {x : Int} (h : (Lit.int .i64 x).wf = true) : I64 x := by
  simp [Lit.wf, IntKind.min, IntKind.max, IntKind.signed, IntKind.bits] at h
  unfold I64
  omega

/-! ### the view's copy -/

theorem b15_setT {w : World} {g : Nat} {v : Vw} {x : Int} (h : B15 w g v x) (a : Option Addr) (l c : Nat) (T : List Tk) : B15 (w.setCell ⟨g, 9, none⟩ (.slice a l c)) g { v with ta := a, tl := l, tc := c, T := T } x := ⟨(heap_setCell_same w g 9 _ _ (.slice a l c) h.blk).trans rfl⟩

/-- the view, the task, and the view's copy -/
theorem more_box (w : World) (v : Vw) (a : Int) (t : Tk) : ∃ X, Hid (X = ((w.alloc (.cells #[.slice v.m.aL v.m.lL v.m.cL, .slice v.m.aS v.m.lS v.m.cS, .slice v.m.aD v.m.lD v.m.cD, .int .i64 v.m.idle, .int .i64 v.m.crit, .int .i64 v.m.sw, .int .i64 v.m.swe, .int .i64 v.m.sems, .int .i64 v.m.hor, .slice v.ta v.tl v.tc, .slice v.na v.nl v.nc, .slice v.ja v.jl v.jc, .slice v.ha v.hl v.hc, .int .i64 v.now, .int .i64 a] 32)).alloc (.cells #[.int .i64 t.p, .int .i64 t.c, .slice t.sa t.sl t.sc, .slice t.da t.dl t.dc] 39)).alloc (.cells #[.slice v.m.aL v.m.lL v.m.cL, .slice v.m.aS v.m.lS v.m.cS, .slice v.m.aD v.m.lD v.m.cD, .int .i64 v.m.idle, .int .i64 v.m.crit, .int .i64 v.m.sw, .int .i64 v.m.swe, .int .i64 v.m.sems, .int .i64 v.m.hor, .slice v.ta v.tl v.tc, .slice v.na v.nl v.nc, .slice v.ja v.jl v.jc, .slice v.ha v.hl v.hc, .int .i64 v.now, .int .i64 a] 32)) ∧ Kp w X ∧ B15 X w.heap.size v a ∧ X.heap[w.heap.size + 1]? = some (.cells #[.int .i64 t.p, .int .i64 t.c, .slice t.sa t.sl t.sc, .slice t.da t.dl t.dc] 39 (0, 0)) ∧ B15 X (w.heap.size + 1 + 1) v a := by
  refine ⟨_, rfl, (((Kp.refl _).alloc _).alloc _).alloc _, (b15_new w v a).kp (((Kp.refl _).alloc _).alloc _), kp_block (alloc2_at w _ _) ((Kp.refl _).alloc _), ?_⟩
  have h := b15_new ((w.alloc (.cells #[.slice v.m.aL v.m.lL v.m.cL, .slice v.m.aS v.m.lS v.m.cS, .slice v.m.aD v.m.lD v.m.cD, .int .i64 v.m.idle, .int .i64 v.m.crit, .int .i64 v.m.sw, .int .i64 v.m.swe, .int .i64 v.m.sems, .int .i64 v.m.hor, .slice v.ta v.tl v.tc, .slice v.na v.nl v.nc, .slice v.ja v.jl v.jc, .slice v.ha v.hl v.hc, .int .i64 v.now, .int .i64 a] 32)).alloc (.cells #[.int .i64 t.p, .int .i64 t.c, .slice t.sa t.sl t.sc, .slice t.da t.dl t.dc] 39)) v a
  rw [World.size_alloc, World.size_alloc] at h
  exact h

/-- the view's and the task's blocks are as they were made -/
structure Bxs (h : Nat) (v : Vw) (a : Int) (t : Tk) (W : World) : Prop where
  v : B15 W h v a
  t : W.heap[h + 1]? = some (.cells #[.int .i64 t.p, .int .i64 t.c, .slice t.sa t.sl t.sc, .slice t.da t.dl t.dc] 39 (0, 0))
theorem Bxs.kp {h : Nat} {v : Vw} {a : Int} {t : Tk} {W W' : World} (b : Bxs h v a t W) (k : Kp W W') : Bxs h v a t W' := ⟨b.v.kp k, kp_block b.t k⟩
theorem Bxs.set {h : Nat} {v : Vw} {a : Int} {t : Tk} {W : World} (b : Bxs h v a t W) {xb : Nat} (e : h + 1 < xb) (i : Nat) (u : Value) : Bxs h v a t (W.setCell ⟨xb, i, none⟩ u) :=
  ⟨b.v.other (p := ⟨xb, i, none⟩) (by show h ≠ xb; omega) u, (heap_setCell_other W ⟨xb, i, none⟩ (h + 1) u (by show h + 1 ≠ xb; omega)).trans b.t⟩
theorem Bxs.all {h : Nat} {v : Vw} {a : Int} {t : Tk} {W : World} (b : Bxs h v a t W) : W.cell? ⟨h, 0, none⟩ = some (.slice v.m.aL v.m.lL v.m.cL) ∧ W.cell? ⟨h, 1, none⟩ = some (.slice v.m.aS v.m.lS v.m.cS) ∧ W.cell? ⟨h, 2, none⟩ = some (.slice v.m.aD v.m.lD v.m.cD) ∧ W.cell? ⟨h, 3, none⟩ = some (.int .i64 v.m.idle) ∧ W.cell? ⟨h, 4, none⟩ = some (.int .i64 v.m.crit) ∧ W.cell? ⟨h, 5, none⟩ = some (.int .i64 v.m.sw) ∧ W.cell? ⟨h, 6, none⟩ = some (.int .i64 v.m.swe) ∧ W.cell? ⟨h, 7, none⟩ = some (.int .i64 v.m.sems) ∧ W.cell? ⟨h, 8, none⟩ = some (.int .i64 v.m.hor) ∧ W.cell? ⟨h, 9, none⟩ = some (.slice v.ta v.tl v.tc) ∧ W.cell? ⟨h, 10, none⟩ = some (.slice v.na v.nl v.nc) ∧ W.cell? ⟨h, 11, none⟩ = some (.slice v.ja v.jl v.jc) ∧ W.cell? ⟨h, 12, none⟩ = some (.slice v.ha v.hl v.hc) ∧ W.cell? ⟨h, 13, none⟩ = some (.int .i64 v.now) ∧ W.cell? ⟨h, 14, none⟩ = some (.int .i64 a) ∧ W.cell? ⟨h + 1, 0, none⟩ = some (.int .i64 t.p) ∧ W.cell? ⟨h + 1, 1, none⟩ = some (.int .i64 t.c) ∧ W.cell? ⟨h + 1, 2, none⟩ = some (.slice t.sa t.sl t.sc) ∧ W.cell? ⟨h + 1, 3, none⟩ = some (.slice t.da t.dl t.dc) := by
  obtain ⟨z0, z1, z2, z3, z4, z5, z6, z7, z8, z9, z10, z11, z12, z13, z14⟩ := b.v.all
  exact ⟨z0, z1, z2, z3, z4, z5, z6, z7, z8, z9, z10, z11, z12, z13, z14, cell_of b.t rfl, cell_of b.t rfl, cell_of b.t rfl, cell_of b.t rfl⟩

/-- the copy has the tasks, and one more -/
def MoreR (xb : Nat) (X : World) (v : Vw) (t : Tk) (wx : World) : Prop :=
  ∃ V4 g4 cap4, Kp X V4 ∧ V4.ownsRow X.heap.size 39 4 (.slice (some ⟨g4, 0, none⟩) (v.tl + 1) cap4) (v.tl + 1) (flat4 (v.T ++ [t])) ∧ wx = V4.setCell ⟨xb, 9, none⟩ (.slice (some ⟨g4, 0, none⟩) (v.tl + 1) cap4)

set_option maxRecDepth 100000 in
set_option maxHeartbeats 64000000 in
theorem planMore_walk (v : Vw) (a : Int) (t : Tk) (x d : Int) (w : World) (hv : VL w v) (_ : I64 v.now) (_ : I64 a) (hy : v.tl * 64 ≤ 140737488351232) (ht : TAt w t) (hx : (Lit.int .i64 x).wf = true) (_ : (Lit.int .i64 d).wf = true) :
    Calls Try.prog 5 #[v.rv a, t.v, .int .i64 x, .int .i64 d] w fun e w' => e = .returned (.bool true) ∧ Below w.heap.size w w' := by
  have HE : Hid (∀ w', Kp w w' → Below w.heap.size w w') := fun w' q => q
  obtain ⟨X, HX, KX, P0, T0, PX0⟩ := more_box w v a t
  obtain ⟨xb, hxb⟩ : ∃ xb, w.heap.size + 1 + 1 = xb := ⟨_, rfl⟩
  rw [hxb] at PX0
  have HXb : Hid (w.heap.size + 1 + 1 = xb) := hxb
  have PX : Hid (B15 X xb v a) := PX0
  have HK : Hid (Kp w X) := KX
  have HBX : Hid (Bxs w.heap.size v a t X) := ⟨P0, T0⟩
  have HV0 : Hid (VL w v) := hv
  have HTt : Hid (TAt w t) := ht
  have HIx : Hid (I64 x) := i64_of hx
  have HTX : Hid (∀ W, Kp X W → LAt W v.ta v.tl v.T) := fun W k => hv.t.kept (KX.trans k)
  have HSx : Hid (∀ W, Kp X W → W.cell? ⟨w.heap.size, 0, none⟩ = some (.slice v.m.aL v.m.lL v.m.cL) ∧ W.cell? ⟨w.heap.size, 1, none⟩ = some (.slice v.m.aS v.m.lS v.m.cS) ∧ W.cell? ⟨w.heap.size, 2, none⟩ = some (.slice v.m.aD v.m.lD v.m.cD) ∧ W.cell? ⟨w.heap.size, 3, none⟩ = some (.int .i64 v.m.idle) ∧ W.cell? ⟨w.heap.size, 4, none⟩ = some (.int .i64 v.m.crit) ∧ W.cell? ⟨w.heap.size, 5, none⟩ = some (.int .i64 v.m.sw) ∧ W.cell? ⟨w.heap.size, 6, none⟩ = some (.int .i64 v.m.swe) ∧ W.cell? ⟨w.heap.size, 7, none⟩ = some (.int .i64 v.m.sems) ∧ W.cell? ⟨w.heap.size, 8, none⟩ = some (.int .i64 v.m.hor) ∧ W.cell? ⟨w.heap.size, 9, none⟩ = some (.slice v.ta v.tl v.tc) ∧ W.cell? ⟨w.heap.size, 10, none⟩ = some (.slice v.na v.nl v.nc) ∧ W.cell? ⟨w.heap.size, 11, none⟩ = some (.slice v.ja v.jl v.jc) ∧ W.cell? ⟨w.heap.size, 12, none⟩ = some (.slice v.ha v.hl v.hc) ∧ W.cell? ⟨w.heap.size, 13, none⟩ = some (.int .i64 v.now) ∧ W.cell? ⟨w.heap.size, 14, none⟩ = some (.int .i64 a) ∧ W.cell? ⟨w.heap.size + 1, 0, none⟩ = some (.int .i64 t.p) ∧ W.cell? ⟨w.heap.size + 1, 1, none⟩ = some (.int .i64 t.c) ∧ W.cell? ⟨w.heap.size + 1, 2, none⟩ = some (.slice t.sa t.sl t.sc) ∧ W.cell? ⟨w.heap.size + 1, 3, none⟩ = some (.slice t.da t.dl t.dc)) := fun W k => (HBX.out.kp k).all
  have HSz : Hid (∀ W V u, Kp X W → V = W.setCell ⟨xb, 9, none⟩ u → V.cell? ⟨w.heap.size, 0, none⟩ = some (.slice v.m.aL v.m.lL v.m.cL) ∧ V.cell? ⟨w.heap.size, 1, none⟩ = some (.slice v.m.aS v.m.lS v.m.cS) ∧ V.cell? ⟨w.heap.size, 2, none⟩ = some (.slice v.m.aD v.m.lD v.m.cD) ∧ V.cell? ⟨w.heap.size, 3, none⟩ = some (.int .i64 v.m.idle) ∧ V.cell? ⟨w.heap.size, 4, none⟩ = some (.int .i64 v.m.crit) ∧ V.cell? ⟨w.heap.size, 5, none⟩ = some (.int .i64 v.m.sw) ∧ V.cell? ⟨w.heap.size, 6, none⟩ = some (.int .i64 v.m.swe) ∧ V.cell? ⟨w.heap.size, 7, none⟩ = some (.int .i64 v.m.sems) ∧ V.cell? ⟨w.heap.size, 8, none⟩ = some (.int .i64 v.m.hor) ∧ V.cell? ⟨w.heap.size, 9, none⟩ = some (.slice v.ta v.tl v.tc) ∧ V.cell? ⟨w.heap.size, 10, none⟩ = some (.slice v.na v.nl v.nc) ∧ V.cell? ⟨w.heap.size, 11, none⟩ = some (.slice v.ja v.jl v.jc) ∧ V.cell? ⟨w.heap.size, 12, none⟩ = some (.slice v.ha v.hl v.hc) ∧ V.cell? ⟨w.heap.size, 13, none⟩ = some (.int .i64 v.now) ∧ V.cell? ⟨w.heap.size, 14, none⟩ = some (.int .i64 a) ∧ V.cell? ⟨w.heap.size + 1, 0, none⟩ = some (.int .i64 t.p) ∧ V.cell? ⟨w.heap.size + 1, 1, none⟩ = some (.int .i64 t.c) ∧ V.cell? ⟨w.heap.size + 1, 2, none⟩ = some (.slice t.sa t.sl t.sc) ∧ V.cell? ⟨w.heap.size + 1, 3, none⟩ = some (.slice t.da t.dl t.dc)) := fun W V u k e => by
    rw [e]; exact ((HBX.out.kp k).set (by have := HXb.out; omega) 9 u).all
  have HG : Hid (∀ (u : Vw) W, VL W u → Calls Try.prog 6 #[u.rv a] W fun e w' => e = .returned (.bool (goodV u a)) ∧ Kp W w') := fun u W h => good_any u a W h
  have HD : Hid (∀ (u : Vw) W, VL W u → goodV u a = true → VG u) := fun u W h q => (good_vg h q).1
  have HA : Hid (∀ (u : Vw) W, VL W u → VG u → Calls Try.prog 8 #[.slice u.ta u.tl u.tc, .slice u.na u.nl u.nc, .slice u.ja u.jl u.jc, .int .i64 d, .int .i64 u.now] W fun e w' => e = .returned (.int .i64 (untI u d)) ∧ Kp W w') := fun u W h g => until_any u d W (ul_of h g)
  have HNe : Hid (∀ W, Kp w W → Calls Try.prog 10 #[t.v, .int .i64 d] W fun e w' => e = .returned (.bool (ndB t d)) ∧ Kp W w') := fun W q => rneeds_any t d W (ht.kept q)
  have hny := hv.n.by'
  obtain ⟨p0, p1, p2, p3, p4, p5, p6, p7, p8, p9, p10, p11, p12, p13, p14, y0, y1, y2, y3⟩ := HBX.out.all
  have hxl : xb < X.heap.size := PX0.lt
  clear KX P0 T0 PX0 hv ht hx hxb
  unfold Vw.rv Tk.v at *
  go_enter Try.func5, Try.ntmps5
  try dsimp only [List.append]
  go_upto_region 2 with fail
  rw [← HX.out]
  rw [show w.heap.size + 1 + 1 = xb from HXb.out]
  clear HX
  go_cut [9] from 13 to 20 (fun g wx => g = .pointer (some ⟨xb, 0, none⟩) ∧ MoreR xb X v t wx)
  case first =>
    clear p0 p1 p2 p3 p4 p5 p6 p7 p8 p9 p10 p11 p12 p13 p14 y0 y1 y2 y3
    refine wp_region_noPanic ?_
    refine wp_region_held_drew (S := fun w' => w'.cell? ⟨w.heap.size, 0, none⟩ = some (.slice v.m.aL v.m.lL v.m.cL) ∧ w'.cell? ⟨w.heap.size, 1, none⟩ = some (.slice v.m.aS v.m.lS v.m.cS) ∧ w'.cell? ⟨w.heap.size, 2, none⟩ = some (.slice v.m.aD v.m.lD v.m.cD) ∧ w'.cell? ⟨w.heap.size, 3, none⟩ = some (.int .i64 v.m.idle) ∧ w'.cell? ⟨w.heap.size, 4, none⟩ = some (.int .i64 v.m.crit) ∧ w'.cell? ⟨w.heap.size, 5, none⟩ = some (.int .i64 v.m.sw) ∧ w'.cell? ⟨w.heap.size, 6, none⟩ = some (.int .i64 v.m.swe) ∧ w'.cell? ⟨w.heap.size, 7, none⟩ = some (.int .i64 v.m.sems) ∧ w'.cell? ⟨w.heap.size, 8, none⟩ = some (.int .i64 v.m.hor) ∧ w'.cell? ⟨w.heap.size, 9, none⟩ = some (.slice v.ta v.tl v.tc) ∧ w'.cell? ⟨w.heap.size, 10, none⟩ = some (.slice v.na v.nl v.nc) ∧ w'.cell? ⟨w.heap.size, 11, none⟩ = some (.slice v.ja v.jl v.jc) ∧ w'.cell? ⟨w.heap.size, 12, none⟩ = some (.slice v.ha v.hl v.hc) ∧ w'.cell? ⟨w.heap.size, 13, none⟩ = some (.int .i64 v.now) ∧ w'.cell? ⟨w.heap.size, 14, none⟩ = some (.int .i64 a) ∧ w'.cell? ⟨w.heap.size + 1, 0, none⟩ = some (.int .i64 t.p) ∧ w'.cell? ⟨w.heap.size + 1, 1, none⟩ = some (.int .i64 t.c) ∧ w'.cell? ⟨w.heap.size + 1, 2, none⟩ = some (.slice t.sa t.sl t.sc) ∧ w'.cell? ⟨w.heap.size + 1, 3, none⟩ = some (.slice t.da t.dl t.dc)) (by kernel_rfl) ?_ (fun hHeld => ?_)
    · exact HSx.out _ (TB.kp_drew _)
    obtain ⟨V0, HV0⟩ : ∃ V0, Hid (V0 = X.drew) := ⟨_, rfl⟩
    have KV0 : Kp X V0 := by rw [HV0.out]; exact TB.kp_drew _
    rw [← HV0.out]
    clear HV0
    have hzw0 := KV0.size
    have hHeld0 := HSx.out _ KV0
    refine wpAnyH_take (i := 1) (oi := Oper.mk (some 14) _ _ _ _ _) (v := ?v1A) rfl (by kernel_rfl) (by kernel_rfl) (by kernel_rfl) (fun _ _ _ h => h) (Or.inl ⟨by rfl, ?hy1A⟩) (by assumption) ?rest1A
    case hy1A => (intro w0 hSw; (try dsimp only at hSw); go_simp; try with_reducible rfl)
    try simp only [Act.put, List.setIfInBounds_toArray, List.set_cons_zero, List.set_cons_succ]
    refine wpAnyH_take (i := 2) (oi := Oper.mk (some 15) _ _ _ _ _) (v := ?v2A) rfl (by kernel_rfl) (by kernel_rfl) (by kernel_rfl) (fun _ _ _ h => h) (Or.inl ⟨by rfl, ?hy2A⟩) (by assumption) ?rest2A
    case hy2A => (intro w0 hSw; (try dsimp only at hSw); go_simp; try with_reducible rfl)
    try simp only [Act.put, List.setIfInBounds_toArray, List.set_cons_zero, List.set_cons_succ]
    refine wpAnyH_take (i := 4) (oi := Oper.mk (some 17) _ _ _ _ _) (v := ?v4A) rfl (by kernel_rfl) (by kernel_rfl) (by kernel_rfl) (fun _ _ _ h => h) (Or.inl ⟨by rfl, ?hy4A⟩) (by assumption) ?rest4A
    case hy4A => (intro w0 hSw; (try dsimp only at hSw); go_simp; try with_reducible rfl)
    try simp only [Act.put, List.setIfInBounds_toArray, List.set_cons_zero, List.set_cons_succ]
    refine wpAnyH_ready (rs := [0, 5]) (by kernel_rfl) (by simp) ?_
    refine AllReadyH.cons (o := Oper.mk (some 13) _ _ _ _ _) rfl (fun K hK => ?_) (AllReadyH.cons (o := Oper.mk (some 18) _ _ _ _ _) rfl (fun K hK => ?_) AllReadyH.nil)
    · go_simp
      go_wp2_with fail
      obtain ⟨V1, HV1⟩ : ∃ V1, Hid (V1 = V0.alloc (.cells #[] 39)) := ⟨_, rfl⟩
      have KS1 : Kp V0 V1 := by rw [HV1.out]; exact (Kp.refl _).alloc _
      have KV1 : Kp X V1 := KV0.trans KS1
      have E1 : V1.heap[V0.heap.size]? = some (.cells #[] 39 (0, 0)) := by rw [HV1.out]; exact heap_alloc_at _ _
      have hz1 := KS1.size
      have hq1 := lt_blk E1
      have hzw1 := KV1.size
      rw [← HV1.out]
      clear HV1
      refine hK.out _ _ ?_ (fun hHeld => ?_)
      · exact HSx.out _ KV1
      clear hK K
      try simp only [Act.put, List.setIfInBounds_toArray, List.set_cons_zero, List.set_cons_succ]
      refine wpAnyH_ready (rs := [3, 5]) (by kernel_rfl) (by simp) ?_
      refine AllReadyH.cons (o := Oper.mk (some 16) _ _ _ _ _) rfl (fun K hK => ?_) (AllReadyH.cons (o := Oper.mk (some 18) _ _ _ _ _) rfl (fun K hK => ?_) AllReadyH.nil)
      · refine step_append_tks V1 rfl _ _ 27 39 rfl Try.underlying27 tk_info X.heap.size V0.heap.size rfl E1 (by omega) v.ta v.tl v.tc v.T rfl (HTX.out _ KV1) hy ?_
        intro g1 cap1 V2 R2 hg2
        have KV2 : Kp X V2 := kp_grown KV1 hg2 (by omega)
        have hb1 := mrow_base R2
        have hzw2 := KV2.size
        have hz2 := hg2.size
        refine hK.out _ _ ?_ (fun hHeld => ?_)
        · exact HSx.out _ KV2
        clear hK K
        try simp only [Act.put, List.setIfInBounds_toArray, List.set_cons_zero, List.set_cons_succ]
        refine wpAnyH_ready (rs := [5]) (by kernel_rfl) (by simp) ?_
        refine AllReadyH.cons (o := Oper.mk (some 18) _ _ _ _ _) rfl (fun K hK => ?_) AllReadyH.nil
        go_simp
        go_wp2_with fail
        obtain ⟨V3, HV3⟩ : ∃ V3, Hid (V3 = V2.alloc (.cells #[.int .i64 t.p, .int .i64 t.c, .slice t.sa t.sl t.sc, .slice t.da t.dl t.dc] 39)) := ⟨_, rfl⟩
        have KS3 : Kp V2 V3 := by rw [HV3.out]; exact (Kp.refl _).alloc _
        have KV3 : Kp X V3 := KV2.trans KS3
        have H3 : V3.heap[V2.heap.size]? = some (.cells #[.int .i64 t.p, .int .i64 t.c, .slice t.sa t.sl t.sc, .slice t.da t.dl t.dc] 39 (0, 0)) := by rw [HV3.out]; exact heap_alloc_at _ _
        have hz3 := KS3.size
        have hq3 := lt_blk H3
        have hzw3 := KV3.size
        rw [← HV3.out]
        clear HV3
        have R3 := ownsRow_kp R2 KS3
        refine hK.out _ _ ?_ (fun hHeld => ?_)
        · exact HSx.out _ KV3
        clear hK K
        try simp only [Act.put, List.setIfInBounds_toArray, List.set_cons_zero, List.set_cons_succ]
        refine wpAnyH_ready (rs := [6]) (by kernel_rfl) (by simp) ?_
        refine AllReadyH.cons (o := Oper.mk (some 19) _ _ _ _ _) rfl (fun K hK => ?_) AllReadyH.nil
        refine step_append_tk V3 rfl _ _ 27 39 rfl Try.underlying27 tk_info X.heap.size g1 v.tl cap1 v.T rfl R3 V2.heap.size t rfl H3 hy KV3.size ?_
        intro g4 cap4 V4 R4 hg4
        have KV4 : Kp X V4 := kp_grown KV3 hg4 hb1
        have HR4 : Hid (V4.ownsRow X.heap.size 39 4 (.slice (some ⟨g4, 0, none⟩) (v.tl + 1) cap4) (v.tl + 1) (flat4 (v.T ++ [t]))) := R4
        refine hK.out _ _ ?_ (fun hHeld => ?_)
        · exact HSx.out _ KV4
        clear hK K
        try simp only [Act.put, List.setIfInBounds_toArray, List.set_cons_zero, List.set_cons_succ]
        have HK4 : Hid (Kp X V4) := KV4
        have B4 := PX.out.kp KV4
        have q4 := B4.fr 9
        have l4 := B4.lt
        obtain ⟨u0, u1, u2, u3, u4, u5, u6, u7, u8, u9, u10, u11, u12, u13, u14⟩ := B4.all
        refine wpAnyH_take (i := 7) (oi := Oper.mk (some 20) _ _ _ _ _) (v := ?v7Z0356) rfl (by kernel_rfl) (by kernel_rfl) (by kernel_rfl) (fun _ _ _ h => h) (Or.inl ⟨by rfl, ?hy7Z0356⟩) (by assumption) ?rest7Z0356
        case hy7Z0356 => (intro w0 hSw; (try dsimp only at hSw); go_simp; try with_reducible rfl)
        try simp only [Act.put, List.setIfInBounds_toArray, List.set_cons_zero, List.set_cons_succ]
        refine wpAnyH_ready (rs := [8]) (by kernel_rfl) (by simp) ?_
        refine AllReadyH.cons (o := Oper.mk none _ _ _ _ _) rfl (fun K hK => ?_) AllReadyH.nil
        go_simp
        go_wp2_with fail
        obtain ⟨V5, HV5⟩ : ∃ V5, Hid (V5 = V4.setCell ⟨xb, 9, none⟩ (.slice (some ⟨g4, 0, none⟩) (v.tl + 1) cap4)) := ⟨_, rfl⟩
        have HS5 : Hid (V5.cell? ⟨w.heap.size, 0, none⟩ = some (.slice v.m.aL v.m.lL v.m.cL) ∧ V5.cell? ⟨w.heap.size, 1, none⟩ = some (.slice v.m.aS v.m.lS v.m.cS) ∧ V5.cell? ⟨w.heap.size, 2, none⟩ = some (.slice v.m.aD v.m.lD v.m.cD) ∧ V5.cell? ⟨w.heap.size, 3, none⟩ = some (.int .i64 v.m.idle) ∧ V5.cell? ⟨w.heap.size, 4, none⟩ = some (.int .i64 v.m.crit) ∧ V5.cell? ⟨w.heap.size, 5, none⟩ = some (.int .i64 v.m.sw) ∧ V5.cell? ⟨w.heap.size, 6, none⟩ = some (.int .i64 v.m.swe) ∧ V5.cell? ⟨w.heap.size, 7, none⟩ = some (.int .i64 v.m.sems) ∧ V5.cell? ⟨w.heap.size, 8, none⟩ = some (.int .i64 v.m.hor) ∧ V5.cell? ⟨w.heap.size, 9, none⟩ = some (.slice v.ta v.tl v.tc) ∧ V5.cell? ⟨w.heap.size, 10, none⟩ = some (.slice v.na v.nl v.nc) ∧ V5.cell? ⟨w.heap.size, 11, none⟩ = some (.slice v.ja v.jl v.jc) ∧ V5.cell? ⟨w.heap.size, 12, none⟩ = some (.slice v.ha v.hl v.hc) ∧ V5.cell? ⟨w.heap.size, 13, none⟩ = some (.int .i64 v.now) ∧ V5.cell? ⟨w.heap.size, 14, none⟩ = some (.int .i64 a) ∧ V5.cell? ⟨w.heap.size + 1, 0, none⟩ = some (.int .i64 t.p) ∧ V5.cell? ⟨w.heap.size + 1, 1, none⟩ = some (.int .i64 t.c) ∧ V5.cell? ⟨w.heap.size + 1, 2, none⟩ = some (.slice t.sa t.sl t.sc) ∧ V5.cell? ⟨w.heap.size + 1, 3, none⟩ = some (.slice t.da t.dl t.dc)) := HSz.out V4 V5 _ KV4 HV5.out
        rw [← HV5.out]
        refine hK.out _ _ ?_ (fun hHeld => ?_)
        · exact HS5.out
        clear hK K
        try simp only [Act.put, List.setIfInBounds_toArray, List.set_cons_zero, List.set_cons_succ]
        refine wpAnyH_done (by kernel_rfl) ?_ _
        refine NoPanic.normal ?_
        go_wp2
        go_meet
        exact ⟨rfl, V4, g4, cap4, HK4.out, HR4.out, HV5.out⟩
      · go_simp
        go_wp2_with fail
        obtain ⟨V2, HV2⟩ : ∃ V2, Hid (V2 = V1.alloc (.cells #[.int .i64 t.p, .int .i64 t.c, .slice t.sa t.sl t.sc, .slice t.da t.dl t.dc] 39)) := ⟨_, rfl⟩
        have KS2 : Kp V1 V2 := by rw [HV2.out]; exact (Kp.refl _).alloc _
        have KV2 : Kp X V2 := KV1.trans KS2
        have H2 : V2.heap[V1.heap.size]? = some (.cells #[.int .i64 t.p, .int .i64 t.c, .slice t.sa t.sl t.sc, .slice t.da t.dl t.dc] 39 (0, 0)) := by rw [HV2.out]; exact heap_alloc_at _ _
        have hz2 := KS2.size
        have hq2 := lt_blk H2
        have hzw2 := KV2.size
        rw [← HV2.out]
        clear HV2
        have E2 := kp_block E1 KS2
        refine hK.out _ _ ?_ (fun hHeld => ?_)
        · exact HSx.out _ KV2
        clear hK K
        try simp only [Act.put, List.setIfInBounds_toArray, List.set_cons_zero, List.set_cons_succ]
        refine wpAnyH_ready (rs := [3]) (by kernel_rfl) (by simp) ?_
        refine AllReadyH.cons (o := Oper.mk (some 16) _ _ _ _ _) rfl (fun K hK => ?_) AllReadyH.nil
        refine step_append_tks V2 rfl _ _ 27 39 rfl Try.underlying27 tk_info X.heap.size V0.heap.size rfl E2 (by omega) v.ta v.tl v.tc v.T rfl (HTX.out _ KV2) hy ?_
        intro g1 cap1 V3 R3 hg3
        have KV3 : Kp X V3 := kp_grown KV2 hg3 (by omega)
        have hb1 := mrow_base R3
        have hzw3 := KV3.size
        have hz3 := hg3.size
        have H3 := grown_block hg3 H2 (by omega)
        refine hK.out _ _ ?_ (fun hHeld => ?_)
        · exact HSx.out _ KV3
        clear hK K
        try simp only [Act.put, List.setIfInBounds_toArray, List.set_cons_zero, List.set_cons_succ]
        refine wpAnyH_ready (rs := [6]) (by kernel_rfl) (by simp) ?_
        refine AllReadyH.cons (o := Oper.mk (some 19) _ _ _ _ _) rfl (fun K hK => ?_) AllReadyH.nil
        refine step_append_tk V3 rfl _ _ 27 39 rfl Try.underlying27 tk_info X.heap.size g1 v.tl cap1 v.T rfl R3 V1.heap.size t rfl H3 hy KV3.size ?_
        intro g4 cap4 V4 R4 hg4
        have KV4 : Kp X V4 := kp_grown KV3 hg4 hb1
        have HR4 : Hid (V4.ownsRow X.heap.size 39 4 (.slice (some ⟨g4, 0, none⟩) (v.tl + 1) cap4) (v.tl + 1) (flat4 (v.T ++ [t]))) := R4
        refine hK.out _ _ ?_ (fun hHeld => ?_)
        · exact HSx.out _ KV4
        clear hK K
        try simp only [Act.put, List.setIfInBounds_toArray, List.set_cons_zero, List.set_cons_succ]
        have HK4 : Hid (Kp X V4) := KV4
        have B4 := PX.out.kp KV4
        have q4 := B4.fr 9
        have l4 := B4.lt
        obtain ⟨u0, u1, u2, u3, u4, u5, u6, u7, u8, u9, u10, u11, u12, u13, u14⟩ := B4.all
        refine wpAnyH_take (i := 7) (oi := Oper.mk (some 20) _ _ _ _ _) (v := ?v7Z0536) rfl (by kernel_rfl) (by kernel_rfl) (by kernel_rfl) (fun _ _ _ h => h) (Or.inl ⟨by rfl, ?hy7Z0536⟩) (by assumption) ?rest7Z0536
        case hy7Z0536 => (intro w0 hSw; (try dsimp only at hSw); go_simp; try with_reducible rfl)
        try simp only [Act.put, List.setIfInBounds_toArray, List.set_cons_zero, List.set_cons_succ]
        refine wpAnyH_ready (rs := [8]) (by kernel_rfl) (by simp) ?_
        refine AllReadyH.cons (o := Oper.mk none _ _ _ _ _) rfl (fun K hK => ?_) AllReadyH.nil
        go_simp
        go_wp2_with fail
        obtain ⟨V5, HV5⟩ : ∃ V5, Hid (V5 = V4.setCell ⟨xb, 9, none⟩ (.slice (some ⟨g4, 0, none⟩) (v.tl + 1) cap4)) := ⟨_, rfl⟩
        have HS5 : Hid (V5.cell? ⟨w.heap.size, 0, none⟩ = some (.slice v.m.aL v.m.lL v.m.cL) ∧ V5.cell? ⟨w.heap.size, 1, none⟩ = some (.slice v.m.aS v.m.lS v.m.cS) ∧ V5.cell? ⟨w.heap.size, 2, none⟩ = some (.slice v.m.aD v.m.lD v.m.cD) ∧ V5.cell? ⟨w.heap.size, 3, none⟩ = some (.int .i64 v.m.idle) ∧ V5.cell? ⟨w.heap.size, 4, none⟩ = some (.int .i64 v.m.crit) ∧ V5.cell? ⟨w.heap.size, 5, none⟩ = some (.int .i64 v.m.sw) ∧ V5.cell? ⟨w.heap.size, 6, none⟩ = some (.int .i64 v.m.swe) ∧ V5.cell? ⟨w.heap.size, 7, none⟩ = some (.int .i64 v.m.sems) ∧ V5.cell? ⟨w.heap.size, 8, none⟩ = some (.int .i64 v.m.hor) ∧ V5.cell? ⟨w.heap.size, 9, none⟩ = some (.slice v.ta v.tl v.tc) ∧ V5.cell? ⟨w.heap.size, 10, none⟩ = some (.slice v.na v.nl v.nc) ∧ V5.cell? ⟨w.heap.size, 11, none⟩ = some (.slice v.ja v.jl v.jc) ∧ V5.cell? ⟨w.heap.size, 12, none⟩ = some (.slice v.ha v.hl v.hc) ∧ V5.cell? ⟨w.heap.size, 13, none⟩ = some (.int .i64 v.now) ∧ V5.cell? ⟨w.heap.size, 14, none⟩ = some (.int .i64 a) ∧ V5.cell? ⟨w.heap.size + 1, 0, none⟩ = some (.int .i64 t.p) ∧ V5.cell? ⟨w.heap.size + 1, 1, none⟩ = some (.int .i64 t.c) ∧ V5.cell? ⟨w.heap.size + 1, 2, none⟩ = some (.slice t.sa t.sl t.sc) ∧ V5.cell? ⟨w.heap.size + 1, 3, none⟩ = some (.slice t.da t.dl t.dc)) := HSz.out V4 V5 _ KV4 HV5.out
        rw [← HV5.out]
        refine hK.out _ _ ?_ (fun hHeld => ?_)
        · exact HS5.out
        clear hK K
        try simp only [Act.put, List.setIfInBounds_toArray, List.set_cons_zero, List.set_cons_succ]
        refine wpAnyH_done (by kernel_rfl) ?_ _
        refine NoPanic.normal ?_
        go_wp2
        go_meet
        exact ⟨rfl, V4, g4, cap4, HK4.out, HR4.out, HV5.out⟩
    · go_simp
      go_wp2_with fail
      obtain ⟨V1, HV1⟩ : ∃ V1, Hid (V1 = V0.alloc (.cells #[.int .i64 t.p, .int .i64 t.c, .slice t.sa t.sl t.sc, .slice t.da t.dl t.dc] 39)) := ⟨_, rfl⟩
      have KS1 : Kp V0 V1 := by rw [HV1.out]; exact (Kp.refl _).alloc _
      have KV1 : Kp X V1 := KV0.trans KS1
      have H1 : V1.heap[V0.heap.size]? = some (.cells #[.int .i64 t.p, .int .i64 t.c, .slice t.sa t.sl t.sc, .slice t.da t.dl t.dc] 39 (0, 0)) := by rw [HV1.out]; exact heap_alloc_at _ _
      have hz1 := KS1.size
      have hq1 := lt_blk H1
      have hzw1 := KV1.size
      rw [← HV1.out]
      clear HV1
      refine hK.out _ _ ?_ (fun hHeld => ?_)
      · exact HSx.out _ KV1
      clear hK K
      try simp only [Act.put, List.setIfInBounds_toArray, List.set_cons_zero, List.set_cons_succ]
      refine wpAnyH_ready (rs := [0]) (by kernel_rfl) (by simp) ?_
      refine AllReadyH.cons (o := Oper.mk (some 13) _ _ _ _ _) rfl (fun K hK => ?_) AllReadyH.nil
      go_simp
      go_wp2_with fail
      obtain ⟨V2, HV2⟩ : ∃ V2, Hid (V2 = V1.alloc (.cells #[] 39)) := ⟨_, rfl⟩
      have KS2 : Kp V1 V2 := by rw [HV2.out]; exact (Kp.refl _).alloc _
      have KV2 : Kp X V2 := KV1.trans KS2
      have E2 : V2.heap[V1.heap.size]? = some (.cells #[] 39 (0, 0)) := by rw [HV2.out]; exact heap_alloc_at _ _
      have hz2 := KS2.size
      have hq2 := lt_blk E2
      have hzw2 := KV2.size
      rw [← HV2.out]
      clear HV2
      have H2 := kp_block H1 KS2
      refine hK.out _ _ ?_ (fun hHeld => ?_)
      · exact HSx.out _ KV2
      clear hK K
      try simp only [Act.put, List.setIfInBounds_toArray, List.set_cons_zero, List.set_cons_succ]
      refine wpAnyH_ready (rs := [3]) (by kernel_rfl) (by simp) ?_
      refine AllReadyH.cons (o := Oper.mk (some 16) _ _ _ _ _) rfl (fun K hK => ?_) AllReadyH.nil
      refine step_append_tks V2 rfl _ _ 27 39 rfl Try.underlying27 tk_info X.heap.size V1.heap.size rfl E2 (by omega) v.ta v.tl v.tc v.T rfl (HTX.out _ KV2) hy ?_
      intro g1 cap1 V3 R3 hg3
      have KV3 : Kp X V3 := kp_grown KV2 hg3 (by omega)
      have hb1 := mrow_base R3
      have hzw3 := KV3.size
      have hz3 := hg3.size
      have H3 := grown_block hg3 H2 (by omega)
      refine hK.out _ _ ?_ (fun hHeld => ?_)
      · exact HSx.out _ KV3
      clear hK K
      try simp only [Act.put, List.setIfInBounds_toArray, List.set_cons_zero, List.set_cons_succ]
      refine wpAnyH_ready (rs := [6]) (by kernel_rfl) (by simp) ?_
      refine AllReadyH.cons (o := Oper.mk (some 19) _ _ _ _ _) rfl (fun K hK => ?_) AllReadyH.nil
      refine step_append_tk V3 rfl _ _ 27 39 rfl Try.underlying27 tk_info X.heap.size g1 v.tl cap1 v.T rfl R3 V0.heap.size t rfl H3 hy KV3.size ?_
      intro g4 cap4 V4 R4 hg4
      have KV4 : Kp X V4 := kp_grown KV3 hg4 hb1
      have HR4 : Hid (V4.ownsRow X.heap.size 39 4 (.slice (some ⟨g4, 0, none⟩) (v.tl + 1) cap4) (v.tl + 1) (flat4 (v.T ++ [t]))) := R4
      refine hK.out _ _ ?_ (fun hHeld => ?_)
      · exact HSx.out _ KV4
      clear hK K
      try simp only [Act.put, List.setIfInBounds_toArray, List.set_cons_zero, List.set_cons_succ]
      have HK4 : Hid (Kp X V4) := KV4
      have B4 := PX.out.kp KV4
      have q4 := B4.fr 9
      have l4 := B4.lt
      obtain ⟨u0, u1, u2, u3, u4, u5, u6, u7, u8, u9, u10, u11, u12, u13, u14⟩ := B4.all
      refine wpAnyH_take (i := 7) (oi := Oper.mk (some 20) _ _ _ _ _) (v := ?v7Z5036) rfl (by kernel_rfl) (by kernel_rfl) (by kernel_rfl) (fun _ _ _ h => h) (Or.inl ⟨by rfl, ?hy7Z5036⟩) (by assumption) ?rest7Z5036
      case hy7Z5036 => (intro w0 hSw; (try dsimp only at hSw); go_simp; try with_reducible rfl)
      try simp only [Act.put, List.setIfInBounds_toArray, List.set_cons_zero, List.set_cons_succ]
      refine wpAnyH_ready (rs := [8]) (by kernel_rfl) (by simp) ?_
      refine AllReadyH.cons (o := Oper.mk none _ _ _ _ _) rfl (fun K hK => ?_) AllReadyH.nil
      go_simp
      go_wp2_with fail
      obtain ⟨V5, HV5⟩ : ∃ V5, Hid (V5 = V4.setCell ⟨xb, 9, none⟩ (.slice (some ⟨g4, 0, none⟩) (v.tl + 1) cap4)) := ⟨_, rfl⟩
      have HS5 : Hid (V5.cell? ⟨w.heap.size, 0, none⟩ = some (.slice v.m.aL v.m.lL v.m.cL) ∧ V5.cell? ⟨w.heap.size, 1, none⟩ = some (.slice v.m.aS v.m.lS v.m.cS) ∧ V5.cell? ⟨w.heap.size, 2, none⟩ = some (.slice v.m.aD v.m.lD v.m.cD) ∧ V5.cell? ⟨w.heap.size, 3, none⟩ = some (.int .i64 v.m.idle) ∧ V5.cell? ⟨w.heap.size, 4, none⟩ = some (.int .i64 v.m.crit) ∧ V5.cell? ⟨w.heap.size, 5, none⟩ = some (.int .i64 v.m.sw) ∧ V5.cell? ⟨w.heap.size, 6, none⟩ = some (.int .i64 v.m.swe) ∧ V5.cell? ⟨w.heap.size, 7, none⟩ = some (.int .i64 v.m.sems) ∧ V5.cell? ⟨w.heap.size, 8, none⟩ = some (.int .i64 v.m.hor) ∧ V5.cell? ⟨w.heap.size, 9, none⟩ = some (.slice v.ta v.tl v.tc) ∧ V5.cell? ⟨w.heap.size, 10, none⟩ = some (.slice v.na v.nl v.nc) ∧ V5.cell? ⟨w.heap.size, 11, none⟩ = some (.slice v.ja v.jl v.jc) ∧ V5.cell? ⟨w.heap.size, 12, none⟩ = some (.slice v.ha v.hl v.hc) ∧ V5.cell? ⟨w.heap.size, 13, none⟩ = some (.int .i64 v.now) ∧ V5.cell? ⟨w.heap.size, 14, none⟩ = some (.int .i64 a) ∧ V5.cell? ⟨w.heap.size + 1, 0, none⟩ = some (.int .i64 t.p) ∧ V5.cell? ⟨w.heap.size + 1, 1, none⟩ = some (.int .i64 t.c) ∧ V5.cell? ⟨w.heap.size + 1, 2, none⟩ = some (.slice t.sa t.sl t.sc) ∧ V5.cell? ⟨w.heap.size + 1, 3, none⟩ = some (.slice t.da t.dl t.dc)) := HSz.out V4 V5 _ KV4 HV5.out
      rw [← HV5.out]
      refine hK.out _ _ ?_ (fun hHeld => ?_)
      · exact HS5.out
      clear hK K
      try simp only [Act.put, List.setIfInBounds_toArray, List.set_cons_zero, List.set_cons_succ]
      refine wpAnyH_done (by kernel_rfl) ?_ _
      refine NoPanic.normal ?_
      go_wp2
      go_meet
      exact ⟨rfl, V4, g4, cap4, HK4.out, HR4.out, HV5.out⟩
  case rest =>
    obtain ⟨rfl, V4, g4, cap4, k4, r4, e5⟩ := hcut
    have HR4 : Hid (V4.ownsRow X.heap.size 39 4 (.slice (some ⟨g4, 0, none⟩) (v.tl + 1) cap4) (v.tl + 1) (flat4 (v.T ++ [t]))) := r4
    have HX2 : Hid (w.heap.size + 1 < xb ∧ xb < X.heap.size) := ⟨by have := HXb.out; omega, hxl⟩
    have HB5 : Hid (B15 wc xb { v with ta := some ⟨g4, 0, none⟩, tl := v.tl + 1, tc := cap4, T := v.T ++ [t] } a) := by show B15 _ _ _ _; rw [e5]; exact b15_setT (PX.out.kp k4) _ _ _ _
    have HBw : Hid (Bxs w.heap.size v a t wc) := by show Bxs _ _ _ _ _; rw [e5]; exact (HBX.out.kp k4).set HX2.out.1 _ _
    have HKw5 : Hid (Kp w wc) := by show Kp _ _; rw [e5]; exact (HK.out.trans k4).setCell (p := ⟨xb, 9, none⟩) (by show w.heap.size ≤ xb; have := HX2.out.1; omega) _
    have HS5 : Hid (LK.Step (fun k => k = xb) V4 wc) := by show LK.Step _ _ _; rw [e5]; exact LK.Step.setCell (A := fun k => k = xb) (LK.Step.refl _ _) (p := ⟨xb, 9, none⟩) rfl _
    have HNc : Hid (NAt wc v.na v.nl v.N) := HV0.out.n.kept HKw5.out
    have hl5 : xb < wc.heap.size := HB5.out.lt
    have hwl : w.heap.size < wc.heap.size := HBw.out.v.lt
    clear p0 p1 p2 p3 p4 p5 p6 p7 p8 p9 p10 p11 p12 p13 p14 y0 y1 y2 y3 k4 r4 e5 hxl HSx HSz HTX
    obtain ⟨p0, p1, p2, p3, p4, p5, p6, p7, p8, p9, p10, p11, p12, p13, p14, y0, y1, y2, y3⟩ := HBw.out.all
    go_upto_region 4 with (first
      | (at_builtin; refine wpList_append_more _ rfl _ _ 28 3 rfl Try.underlying28 num_info wc.heap.size gn v.nl capn v.N rfl (ownsRow_kp HR12.out ((Kp.refl _).alloc _)) (some ⟨w12.heap.size, 0, none⟩) 1 1 [x] rfl (one_num (heap_alloc_at _ _) HIx.out) (by omega) (Nat.le_trans HK12.out.size ((Kp.refl _).alloc _).size) ?_; intro gm capm w13 R13 hg13; have HR13 : Hid (w13.ownsRow wc.heap.size 3 1 (.slice (some ⟨gm, 0, none⟩) (v.nl + 1) capm) (v.nl + 1) ((v.N ++ [x]).map (Value.int .i64))) := R13; have HK13 : Hid (Kp wc w13) := kp_grown (HK12.out.alloc _) hg13 (mrow_base HR12.out); have B13 := HB5.out.kp HK13.out; have hl13 := B13.lt; have q13 := B13.fr 10; obtain ⟨z0, z1, z2, z3, z4, z5, z6, z7, z8, z9, z10, z11, z12, z13, z14⟩ := B13.all; clear R13 hg13)
      | (at_builtin; refine wpList_append_more _ rfl _ _ 28 3 rfl Try.underlying28 num_info wc.heap.size wc.heap.size 0 0 [] rfl (ownsRow_none _ (Nat.le_refl _) (heap_alloc_at _ _)) v.na v.nl v.nc v.N rfl (HNc.out.kept ((Kp.refl _).alloc _)) (by omega) ((Kp.refl _).alloc _).size ?_; intro gn capn w12 R12 hg12; simp only [Nat.zero_add, List.nil_append] at R12 ⊢; have HR12 : Hid (w12.ownsRow wc.heap.size 3 1 (.slice (some ⟨gn, 0, none⟩) v.nl capn) v.nl (v.N.map (Value.int .i64))) := R12; have HK12 : Hid (Kp wc w12) := kp_grown ((Kp.refl _).alloc _) hg12 (Nat.le_refl _); clear R12 hg12)
      | fail)
    obtain ⟨W14, HW14⟩ : ∃ W14, Hid (W14 = w13.setCell ⟨xb, 10, none⟩ (.slice (some ⟨gm, 0, none⟩) (v.nl + 1) capm)) := ⟨_, rfl⟩
    rw [← HW14.out]
    obtain ⟨u2, hu2⟩ : ∃ u2, more v (some ⟨g4, 0, none⟩) cap4 t (some ⟨gm, 0, none⟩) capm x = u2 := ⟨_, rfl⟩
    have HU2 : Hid (more v (some ⟨g4, 0, none⟩) cap4 t (some ⟨gm, 0, none⟩) capm x = u2) := hu2
    have HB14 : Hid (B15 W14 xb u2 a) := by show B15 _ _ _ _; rw [← hu2, HW14.out]; exact B13.setN _ _ _ _
    have HBv : Hid (Bxs w.heap.size v a t W14) := by show Bxs _ _ _ _ _; rw [HW14.out]; exact (HBw.out.kp HK13.out).set HX2.out.1 _ _
    have HKw : Hid (Kp w W14) := by show Kp _ _; rw [HW14.out]; exact (HKw5.out.trans HK13.out).setCell (p := ⟨xb, 10, none⟩) (by show w.heap.size ≤ xb; have := HX2.out.1; omega) _
    have HVL2 : Hid (VG v → VL W14 u2) := fun g => by
      have hv := HV0.out
      have hgm : wc.heap.size ≤ gm := mrow_base HR13.out
      have hg4 : X.heap.size ≤ g4 := mrow_base HR4.out
      have hxb := HX2.out
      have st : LK.Step (fun k => k = xb) w13 W14 := by rw [HW14.out]; exact LK.Step.setCell (A := fun k => k = xb) (LK.Step.refl _ _) (p := ⟨xb, 10, none⟩) rfl _
      have st4 : LK.Step (fun k => k = xb) V4 W14 := HS5.out.trans (((LK.kp_of_tb HK13.out).any).trans st)
      have rt : W14.ownsRow X.heap.size 39 4 (.slice (some ⟨g4, 0, none⟩) (v.tl + 1) cap4) (v.tl + 1) (flat4 (v.T ++ [t])) := LK.row_kept st4 HR4.out (fun k hk e => by simp only [Value.ownBlock, Option.some.injEq] at hk; omega)
      have rn : W14.ownsRow wc.heap.size 3 1 (.slice (some ⟨gm, 0, none⟩) (v.nl + 1) capm) (v.nl + 1) ((v.N ++ [x]).map (Value.int .i64)) := LK.row_kept st HR13.out (fun k hk e => by simp only [Value.ownBlock, Option.some.injEq] at hk; omega)
      have h64 := g.n
      have hnl := g.nl
      rw [← hu2]
      refine ⟨hv.m.kept HKw.out, lat_of_row rt (fun q hq => ?_) (by show (v.tl + 1) * 64 ≤ _; omega), mat_of_row rn (fun q hq => ?_) (by show (v.nl + 1) * 8 ≤ _; omega), hv.j.kept HKw.out, hv.h.kp (LK.kp_of_tb HKw.out), hv.hy⟩
      · rcases List.mem_append.1 hq with q1 | q1
        · exact (hv.t.each q q1).kept HKw.out
        · rw [List.mem_singleton] at q1; subst q1; exact HTt.out.kept HKw.out
      · rcases List.mem_append.1 hq with q1 | q1
        · exact hv.n.at'.2.1 _ q1
        · rw [List.mem_singleton] at q1; subst q1; exact HIx.out
    have HLe : Hid (VG v → untI u2 d ≤ untI v d ∧ (ndB t d = false → untI u2 d = untI v d)) := fun g => by
      have hv := HV0.out
      rw [← hu2]
      exact more_le hv.t.ln hv.n.at'.1 g.nl (fun j hj => (g.jb j hj).1) d
    have HSy : Hid (∀ W, Kp W14 W → W.cell? ⟨w.heap.size, 0, none⟩ = some (.slice v.m.aL v.m.lL v.m.cL) ∧ W.cell? ⟨w.heap.size, 1, none⟩ = some (.slice v.m.aS v.m.lS v.m.cS) ∧ W.cell? ⟨w.heap.size, 2, none⟩ = some (.slice v.m.aD v.m.lD v.m.cD) ∧ W.cell? ⟨w.heap.size, 3, none⟩ = some (.int .i64 v.m.idle) ∧ W.cell? ⟨w.heap.size, 4, none⟩ = some (.int .i64 v.m.crit) ∧ W.cell? ⟨w.heap.size, 5, none⟩ = some (.int .i64 v.m.sw) ∧ W.cell? ⟨w.heap.size, 6, none⟩ = some (.int .i64 v.m.swe) ∧ W.cell? ⟨w.heap.size, 7, none⟩ = some (.int .i64 v.m.sems) ∧ W.cell? ⟨w.heap.size, 8, none⟩ = some (.int .i64 v.m.hor) ∧ W.cell? ⟨w.heap.size, 9, none⟩ = some (.slice v.ta v.tl v.tc) ∧ W.cell? ⟨w.heap.size, 10, none⟩ = some (.slice v.na v.nl v.nc) ∧ W.cell? ⟨w.heap.size, 11, none⟩ = some (.slice v.ja v.jl v.jc) ∧ W.cell? ⟨w.heap.size, 12, none⟩ = some (.slice v.ha v.hl v.hc) ∧ W.cell? ⟨w.heap.size, 13, none⟩ = some (.int .i64 v.now) ∧ W.cell? ⟨w.heap.size, 14, none⟩ = some (.int .i64 a) ∧ W.cell? ⟨xb, 0, none⟩ = some (.slice u2.m.aL u2.m.lL u2.m.cL) ∧ W.cell? ⟨xb, 1, none⟩ = some (.slice u2.m.aS u2.m.lS u2.m.cS) ∧ W.cell? ⟨xb, 2, none⟩ = some (.slice u2.m.aD u2.m.lD u2.m.cD) ∧ W.cell? ⟨xb, 3, none⟩ = some (.int .i64 u2.m.idle) ∧ W.cell? ⟨xb, 4, none⟩ = some (.int .i64 u2.m.crit) ∧ W.cell? ⟨xb, 5, none⟩ = some (.int .i64 u2.m.sw) ∧ W.cell? ⟨xb, 6, none⟩ = some (.int .i64 u2.m.swe) ∧ W.cell? ⟨xb, 7, none⟩ = some (.int .i64 u2.m.sems) ∧ W.cell? ⟨xb, 8, none⟩ = some (.int .i64 u2.m.hor) ∧ W.cell? ⟨xb, 9, none⟩ = some (.slice u2.ta u2.tl u2.tc) ∧ W.cell? ⟨xb, 10, none⟩ = some (.slice u2.na u2.nl u2.nc) ∧ W.cell? ⟨xb, 11, none⟩ = some (.slice u2.ja u2.jl u2.jc) ∧ W.cell? ⟨xb, 12, none⟩ = some (.slice u2.ha u2.hl u2.hc) ∧ W.cell? ⟨xb, 13, none⟩ = some (.int .i64 u2.now) ∧ W.cell? ⟨xb, 14, none⟩ = some (.int .i64 a)) := fun W q => by
      obtain ⟨z0, z1, z2, z3, z4, z5, z6, z7, z8, z9, z10, z11, z12, z13, z14⟩ := (HBv.out.kp q).v.all
      exact ⟨z0, z1, z2, z3, z4, z5, z6, z7, z8, z9, z10, z11, z12, z13, z14, (HB14.out.kp q).all⟩
    have HGv : Hid (∀ W, Kp W14 W → Calls Try.prog 6 #[.agg #[.slice v.m.aL v.m.lL v.m.cL, .slice v.m.aS v.m.lS v.m.cS, .slice v.m.aD v.m.lD v.m.cD, .int .i64 v.m.idle, .int .i64 v.m.crit, .int .i64 v.m.sw, .int .i64 v.m.swe, .int .i64 v.m.sems, .int .i64 v.m.hor, .slice v.ta v.tl v.tc, .slice v.na v.nl v.nc, .slice v.ja v.jl v.jc, .slice v.ha v.hl v.hc, .int .i64 v.now, .int .i64 a]] W fun e w' => e = .returned (.bool (goodV v a)) ∧ Kp W w') := fun W q => HG.out v W (HV0.out.kept (HKw.out.trans q))
    have HGu : Hid (VG v → ∀ W, Kp W14 W → Calls Try.prog 6 #[.agg #[.slice u2.m.aL u2.m.lL u2.m.cL, .slice u2.m.aS u2.m.lS u2.m.cS, .slice u2.m.aD u2.m.lD u2.m.cD, .int .i64 u2.m.idle, .int .i64 u2.m.crit, .int .i64 u2.m.sw, .int .i64 u2.m.swe, .int .i64 u2.m.sems, .int .i64 u2.m.hor, .slice u2.ta u2.tl u2.tc, .slice u2.na u2.nl u2.nc, .slice u2.ja u2.jl u2.jc, .slice u2.ha u2.hl u2.hc, .int .i64 u2.now, .int .i64 a]] W fun e w' => e = .returned (.bool (goodV u2 a)) ∧ Kp W w') := fun g W q => HG.out u2 W ((HVL2.out g).kept q)
    have HDv : Hid (goodV v a = true → VG v) := fun q => HD.out v w HV0.out q
    have HDu : Hid (VG v → goodV u2 a = true → VG u2) := fun g q => HD.out u2 W14 (HVL2.out g) q
    have HAv : Hid (VG v → ∀ W, Kp W14 W → Calls Try.prog 8 #[.slice v.ta v.tl v.tc, .slice v.na v.nl v.nc, .slice v.ja v.jl v.jc, .int .i64 d, .int .i64 v.now] W fun e w' => e = .returned (.int .i64 (untI v d)) ∧ Kp W w') := fun g W q => HA.out v W (HV0.out.kept (HKw.out.trans q)) g
    have HAu : Hid (VG v → VG u2 → ∀ W, Kp W14 W → Calls Try.prog 8 #[.slice u2.ta u2.tl u2.tc, .slice u2.na u2.nl u2.nc, .slice u2.ja u2.jl u2.jc, .int .i64 d, .int .i64 u2.now] W fun e w' => e = .returned (.int .i64 (untI u2 d)) ∧ Kp W w') := fun g g2 W q => HA.out u2 W ((HVL2.out g).kept q) g2
    have HNk : Hid (∀ W, Kp W14 W → Calls Try.prog 10 #[.agg #[.int .i64 t.p, .int .i64 t.c, .slice t.sa t.sl t.sc, .slice t.da t.dl t.dc], .int .i64 d] W fun e w' => e = .returned (.bool (ndB t d)) ∧ Kp W w') := fun W q => HNe.out W (HKw.out.trans q)
    clear p0 p1 p2 p3 p4 p5 p6 p7 p8 p9 p10 p11 p12 p13 p14 z0 z1 z2 z3 z4 z5 z6 z7 z8 z9 z10 z11 z12 z13 z14 y0 y1 y2 y3 B13 hl13 q13 hl5 hwl hu2 HG HD HA HNe HW14 HVL2 HU2 hny
    obtain ⟨p0, p1, p2, p3, p4, p5, p6, p7, p8, p9, p10, p11, p12, p13, p14, x0, x1, x2, x3, x4, x5, x6, x7, x8, x9, x10, x11, x12, x13, x14⟩ := HSy.out W14 (Kp.refl _)
    generalize hgd : goodV v a = gd at *
    clear hgd
    cases gd with
    | false =>
      go_wp2_with fail
      refine Calls.mono (HGv.out _ (Kp.refl _)) ?_
      rintro e w15 ⟨rfl, k15⟩
      go_wp2_with fail
      refine (ganswers_any _).mono ?_
      rintro e w16 ⟨rfl, k16⟩
      go_wp2
      go_ret
      exact ⟨rfl, HE.out _ (HKw.out.trans (k15.trans k16))⟩
    | true =>
      have HVG : Hid (VG v) := HDv.out rfl
      have HGu' : Hid _ := HGu.out HVG.out
      have HDu' : Hid _ := HDu.out HVG.out
      have HAv' : Hid _ := HAv.out HVG.out
      have HAu' : Hid _ := HAu.out HVG.out
      have HLe' : Hid _ := HLe.out HVG.out
      clear HDv HGu HDu HAv HAu HLe
      go_wp2_with fail
      refine Calls.mono (HGv.out _ (Kp.refl _)) ?_
      rintro e w15 ⟨rfl, k15⟩
      have HK15 : Hid (Kp W14 w15) := k15
      clear p0 p1 p2 p3 p4 p5 p6 p7 p8 p9 p10 p11 p12 p13 p14 x0 x1 x2 x3 x4 x5 x6 x7 x8 x9 x10 x11 x12 x13 x14 k15 HGv
      obtain ⟨p0, p1, p2, p3, p4, p5, p6, p7, p8, p9, p10, p11, p12, p13, p14, x0, x1, x2, x3, x4, x5, x6, x7, x8, x9, x10, x11, x12, x13, x14⟩ := HSy.out _ HK15.out
      generalize hg2 : goodV u2 a = g2 at *
      clear hg2
      cases g2 with
      | false =>
        go_wp2_with fail
        refine Calls.mono (HGu'.out _ HK15.out) ?_
        rintro e w16 ⟨rfl, k16⟩
        go_wp2_with fail
        refine (ganswers_any _).mono ?_
        rintro e w17 ⟨rfl, k17⟩
        go_wp2
        go_ret
        exact ⟨rfl, HE.out _ (HKw.out.trans (HK15.out.trans (k16.trans k17)))⟩
      | true =>
        have HAu2 : Hid _ := HAu'.out (HDu'.out rfl)
        clear HAu' HDu'
        go_wp2_with fail
        refine Calls.mono (HGu'.out _ HK15.out) ?_
        rintro e w16 ⟨rfl, k16⟩
        have HK16 : Hid (Kp W14 w16) := HK15.out.trans k16
        clear p0 p1 p2 p3 p4 p5 p6 p7 p8 p9 p10 p11 p12 p13 p14 x0 x1 x2 x3 x4 x5 x6 x7 x8 x9 x10 x11 x12 x13 x14 k16 HGu' HK15
        obtain ⟨p0, p1, p2, p3, p4, p5, p6, p7, p8, p9, p10, p11, p12, p13, p14, x0, x1, x2, x3, x4, x5, x6, x7, x8, x9, x10, x11, x12, x13, x14⟩ := HSy.out _ HK16.out
        obtain ⟨hle, heq⟩ := HLe'.out
        have HEq : Hid (ndB t d = false → untI u2 d = untI v d) := heq
        clear HLe' heq
        generalize untI u2 d = Y at *
        generalize untI v d = Z at *
        generalize ndB t d = nd at *
        go_wp2_with fail
        go_region_held3 (fun w' => w'.cell? ⟨w.heap.size, 0, none⟩ = some (.slice v.m.aL v.m.lL v.m.cL) ∧ w'.cell? ⟨w.heap.size, 1, none⟩ = some (.slice v.m.aS v.m.lS v.m.cS) ∧ w'.cell? ⟨w.heap.size, 2, none⟩ = some (.slice v.m.aD v.m.lD v.m.cD) ∧ w'.cell? ⟨w.heap.size, 3, none⟩ = some (.int .i64 v.m.idle) ∧ w'.cell? ⟨w.heap.size, 4, none⟩ = some (.int .i64 v.m.crit) ∧ w'.cell? ⟨w.heap.size, 5, none⟩ = some (.int .i64 v.m.sw) ∧ w'.cell? ⟨w.heap.size, 6, none⟩ = some (.int .i64 v.m.swe) ∧ w'.cell? ⟨w.heap.size, 7, none⟩ = some (.int .i64 v.m.sems) ∧ w'.cell? ⟨w.heap.size, 8, none⟩ = some (.int .i64 v.m.hor) ∧ w'.cell? ⟨w.heap.size, 9, none⟩ = some (.slice v.ta v.tl v.tc) ∧ w'.cell? ⟨w.heap.size, 10, none⟩ = some (.slice v.na v.nl v.nc) ∧ w'.cell? ⟨w.heap.size, 11, none⟩ = some (.slice v.ja v.jl v.jc) ∧ w'.cell? ⟨w.heap.size, 12, none⟩ = some (.slice v.ha v.hl v.hc) ∧ w'.cell? ⟨w.heap.size, 13, none⟩ = some (.int .i64 v.now) ∧ w'.cell? ⟨w.heap.size, 14, none⟩ = some (.int .i64 a) ∧ w'.cell? ⟨xb, 0, none⟩ = some (.slice u2.m.aL u2.m.lL u2.m.cL) ∧ w'.cell? ⟨xb, 1, none⟩ = some (.slice u2.m.aS u2.m.lS u2.m.cS) ∧ w'.cell? ⟨xb, 2, none⟩ = some (.slice u2.m.aD u2.m.lD u2.m.cD) ∧ w'.cell? ⟨xb, 3, none⟩ = some (.int .i64 u2.m.idle) ∧ w'.cell? ⟨xb, 4, none⟩ = some (.int .i64 u2.m.crit) ∧ w'.cell? ⟨xb, 5, none⟩ = some (.int .i64 u2.m.sw) ∧ w'.cell? ⟨xb, 6, none⟩ = some (.int .i64 u2.m.swe) ∧ w'.cell? ⟨xb, 7, none⟩ = some (.int .i64 u2.m.sems) ∧ w'.cell? ⟨xb, 8, none⟩ = some (.int .i64 u2.m.hor) ∧ w'.cell? ⟨xb, 9, none⟩ = some (.slice u2.ta u2.tl u2.tc) ∧ w'.cell? ⟨xb, 10, none⟩ = some (.slice u2.na u2.nl u2.nc) ∧ w'.cell? ⟨xb, 11, none⟩ = some (.slice u2.ja u2.jl u2.jc) ∧ w'.cell? ⟨xb, 12, none⟩ = some (.slice u2.ha u2.hl u2.hc) ∧ w'.cell? ⟨xb, 13, none⟩ = some (.int .i64 u2.now) ∧ w'.cell? ⟨xb, 14, none⟩ = some (.int .i64 a)) (go_keep) (first
          | (go_at_call 8; refine (HAv'.out _ (HK16.out.trans (TB.kp_drew _))).mono ?_; rintro e w17 ⟨rfl, k17⟩; have K17 : Kp W14 w17 := (HK16.out.trans (TB.kp_drew _)).trans k17; clear k17 HAv'; obtain ⟨z0, z1, z2, z3, z4, z5, z6, z7, z8, z9, z10, z11, z12, z13, z14, u0, u1, u2_, u3, u4, u5, u6, u7, u8, u9, u10, u11, u12, u13, u14⟩ := HSy.out _ K17)
          | (go_at_call 8; refine (HAu2.out _ K17).mono ?_; rintro e w18 ⟨rfl, k18⟩; have K18 : Kp W14 w18 := K17.trans k18; clear k18 HAu2; obtain ⟨z0, z1, z2, z3, z4, z5, z6, z7, z8, z9, z10, z11, z12, z13, z14, u0, u1, u2_, u3, u4, u5, u6, u7, u8, u9, u10, u11, u12, u13, u14⟩ := HSy.out _ K18)
          | fail)
        all_goals
          have e1 : decide (Y ≤ Z) = true := decide_eq_true hle
          go_wp2_with fail
          refine (ganswers_any _).mono ?_
          rintro e w19 ⟨rfl, k19⟩
          have HK19 : Hid (Kp W14 w19) := K18.trans k19
          obtain ⟨q0, q1, q2, q3, q4, q5, q6, q7, q8, q9, q10, q11, q12, q13, q14, y0, y1, y2, y3⟩ := (HBv.out.kp HK19.out).all
          cases nd with
          | true =>
            go_wp2_with fail
            refine Calls.mono (HNk.out _ HK19.out) ?_
            rintro e w20 ⟨rfl, k20⟩
            go_wp2
            go_ret
            exact ⟨by first | rfl | simp, HE.out _ (HKw.out.trans (HK19.out.trans k20))⟩
          | false =>
            have e2 : (Y == Z) = true := by simp [HEq.out rfl]
            go_wp2_with fail
            refine Calls.mono (HNk.out _ HK19.out) ?_
            rintro e w20 ⟨rfl, k20⟩
            go_wp2
            go_ret
            exact ⟨by first | rfl | simp, HE.out _ (HKw.out.trans (HK19.out.trans k20))⟩

end Go.Proofs.Ytilafcplijgjjaa.PN
