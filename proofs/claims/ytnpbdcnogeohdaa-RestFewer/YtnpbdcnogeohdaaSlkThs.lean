/- The tasks that there are, in a list of the call's own. -/
import Derived.Test.YtnpbdcnogeohdaaSlkGoodW
import Derived.Test.YtnpbdcnogeohdaaSlkFacts
namespace Go.Proofs.Ytnpbdcnogeohdaa.SK
open Go.ChangeShapes Go.WideShapes Go.ChangeAt Go.RowKit Go.Proofs.Ytnpbdcnogeohdaa.AR Go.Proofs.Ytnpbdcnogeohdaa.TB Go.Proofs.Ytnpbdcnogeohdaa.TK Go.Proofs.Ytnpbdcnogeohdaa.JB Go.Proofs.Ytnpbdcnogeohdaa.FX Go.Proofs.Ytnpbdcnogeohdaa.AD
open Go.Proofs.Ytnpbdcnogeohdaa.LK (Hd atH HsAt C3)

/-- the slice v has the tasks L, in a block of its own -/
structure Th (w : World) (base : Nat) (v : Value) (L : List Tk) : Prop where
  row : w.ownsRow base 38 4 v L.length (flat4 L)
  each : ∀ t ∈ L, TAt w t

theorem th_nil (w : World) (base : Nat) : Th w base (.slice none 0 0) [] := ⟨World.ownsRow_nil _ _ _ _, fun t ht => by simp at ht⟩
theorem Th.kp {w w' : World} {base : Nat} {v : Value} {L : List Tk} (h : Th w base v L) (s : Kp w w') : Th w' base v L := ⟨LK.row_kept (LK.kp_of_tb s) h.row (fun _ _ q => q), fun t ht => (h.each t ht).kept s⟩
theorem Th.lies {w : World} {base : Nat} {v : Value} {L : List Tk} (h : Th w base v L) (hl : L.length ≤ 64) : ∃ ao cap, v = .slice ao L.length cap ∧ LAt w ao L.length L := by
  rcases h.row.2 with ⟨hv, hn⟩ | ⟨g, cap, cur, rfl, r⟩
  · have : L = [] := List.length_eq_zero_iff.1 hn
    subst this
    exact ⟨none, 0, hv, rfl, fun t ht => by simp at ht, .inl rfl, by simp⟩
  · exact ⟨_, _, rfl, lat_of_row h.row h.each (by omega)⟩

/-- 'append' of one task -/
theorem wpList_append_four {P : Program} (w : World) {ops : Array Oper} {rest : List Oper} {o : Oper} {a : Act} {Q : Exit → Act → World → Prop} (hgd : o.guard = none) (s x : Operand) (t e : TypeId)
    (ho : o.op = .call { callee := .builtin .append, args := #[s, x], argTypes := #[t, t] }) (ht : P.underlying t = some (.slice e))
    (hinf : (P.info? e).map (fun i => (i.zero, i.size, i.bytes)) = some (some (.agg #[.int .i64 0, .int .i64 0, .slice none 0 0, .slice none 0 0]), 4, 64))
    (base : Nat) (v : Value) (L : List Tk) (hs : a.eval s = v) (hown : w.ownsRow base e 4 v L.length (flat4 L))
    (b : Nat) (y : Tk) (hx : a.eval x = .slice (some ⟨b, 0, none⟩) 1 1) (hb : w.heap[b]? = some (.cells #[.int .i64 y.p, .int .i64 y.c, .slice y.sa y.sl y.sc, .slice y.da y.dl y.dc] e (0, 0)))
    (hlen : L.length + 1 ≤ 2199023255552) (hbase : base ≤ w.heap.size)
    (h : ∀ v' w', w'.ownsRow base e 4 v' (L ++ [y]).length (flat4 (L ++ [y])) → w.grownBy w' v.ownBlock → wpList P ops Q rest (a.put o.dst v') w') :
    wpList P ops Q (o :: rest) a w := by
  obtain ⟨i0, hi, hz0, hz1, hz2⟩ := info_parts hinf
  refine wpList_append_own_at _ hgd s x t ho base e i0 _ 4 64 ht hi hz0 hz1 hz2 (by rfl) (by decide) v L.length (flat4 L) hs hown ⟨b, 0, none⟩ 1 1 [.int .i64 y.p, .int .i64 y.c, .slice y.sa y.sl y.sc, .slice y.da y.dl y.dc] hx (by rfl) ?_ ?_ (by unfold maxLen; omega) (by omega) hbase ?_
  · intro j u hj
    match j, hj with
    | 0, hj => simp at hj; subst hj; simp [Addr.add, World.cell?, hb]
    | 1, hj => simp at hj; subst hj; simp [Addr.add, World.cell?, hb]
    | 2, hj => simp at hj; subst hj; simp [Addr.add, World.cell?, hb]
    | 3, hj => simp at hj; subst hj; simp [Addr.add, World.cell?, hb]
  · intro u hu
    simp at hu
    rcases hu with rfl | rfl | rfl | rfl <;> rfl
  · intro v' w' ho' hg hnil hloc
    refine h v' w' ?_ hg
    rw [flat4_append, show flat4 [y] = [.int .i64 y.p, .int .i64 y.c, .slice y.sa y.sl y.sc, .slice y.da y.dl y.dc] from rfl]
    simpa using ho'

/-- it has grown -/
theorem Th.more {w W W1 W' : World} {v v' : Value} {L : List Tk} {y : Tk} (h : Th W w.heap.size v L) (k : Kp w W) (k1 : Kp W W1) (hy : TAt w y) (hL : ∀ t ∈ L, TAt w t) (hr : W'.ownsRow w.heap.size 38 4 v' (L ++ [y]).length (flat4 (L ++ [y]))) (hg : W1.grownBy W' v.ownBlock) : Th W' w.heap.size v' (L ++ [y]) ∧ Kp w W' := by
  have hs : LK.Step (fun q => v.ownBlock = some q) W W' := (LK.kp_of_tb k1).any.grown hg (fun q hq => hq)
  have hk : Kp w W' := (LK.Step.trans_new (LK.kp_of_tb k) hs (fun i hi q => by have := (h.row.lt i q).1; omega)).tb
  refine ⟨⟨hr, fun t ht => ?_⟩, hk⟩
  rcases List.mem_append.1 ht with q | q
  · exact (hL t q).kept hk
  · rw [List.mem_singleton] at q; subst q; exact hy.kept hk

theorem ths_at {w : World} {ao : Option Addr} {len : Nat} {T : List Tk} (h : LAt w ao len T) (k : Nat) : ∀ t ∈ ths T k, TAt w t := fun t ht => h.each t (ths_mem ht).1

theorem su16_in {x : Int} (h : (Lit.int .u16 x).wf = true) : 0 ≤ x ∧ x ≤ 65535 := by
  simp [Lit.wf, IntKind.min, IntKind.max, IntKind.signed, IntKind.bits] at h
  omega
theorem su8_in {x : Int} (h : (Lit.int .u8 x).wf = true) : 0 ≤ x ∧ x ≤ 255 := by
  simp [Lit.wf, IntKind.min, IntKind.max, IntKind.signed, IntKind.bits] at h
  omega
theorem smod_of {a : Int} {n : Nat} (ha : 0 ≤ a ∧ a ≤ 255) (hn : 1 ≤ n) : ∃ x : Nat, x < n ∧ a.tmod (n : Int) = x ∧ IntKind.i64.wrap (a.tmod (n : Int)) = x := by
  have e : a.tmod (n : Int) = a % (n : Int) := Int.tmod_eq_emod_of_nonneg ha.1
  have h1 := Int.emod_nonneg a (show (n : Int) ≠ 0 by omega)
  have h2 := Int.emod_lt_of_pos a (show (0 : Int) < n by omega)
  have h3 : a % (n : Int) ≤ a := by
    by_cases c : a < n
    · rw [Int.emod_eq_of_lt ha.1 c]; exact Int.le_refl _
    · omega
  refine ⟨(a % (n : Int)).toNat, by omega, by rw [e]; omega, ?_⟩
  rw [e, IntWalk.i64_left, IntWalk.wrap64_in _ (by omega)]
  omega

/-- a view whose held list, and whose jobs, are none -/
theorem VL.noH {w : World} {v : Vw} (h : VL w v) : VL w (v.setH none 0 0 []) := ⟨h.m, h.t, h.n, h.j, no_hs _, by show 0 * 24 ≤ _; omega⟩
theorem VL.noJ {w : World} {v : Vw} (h : VL w v) : VL w (v.setJ none 0 0 []) := ⟨h.m, h.t, h.n, no_js _, h.h, h.hy⟩

/-- the box, what is held taken out of it -/
theorem box_noH (w : World) (v : Vw) (a : Int) : ∃ W0, Hid (W0 = w.alloc (.cells #[.slice v.m.aL v.m.lL v.m.cL, .slice v.m.aS v.m.lS v.m.cS, .slice v.m.aD v.m.lD v.m.cD, .int .i64 v.m.idle, .int .i64 v.m.crit, .int .i64 v.m.sw, .int .i64 v.m.swe, .int .i64 v.m.sems, .int .i64 v.m.hor, .slice v.ta v.tl v.tc, .slice v.na v.nl v.nc, .slice v.ja v.jl v.jc, .slice none 0 0, .int .i64 v.now, .int .i64 a] 32)) ∧ Kp w W0 ∧ B15 W0 w.heap.size (v.setH none 0 0 []) a :=
  ⟨_, rfl, (Kp.refl _).alloc _, b15_new w (v.setH none 0 0 []) a⟩
/-- and the jobs -/
theorem box_noJ (w : World) (v : Vw) (a : Int) : ∃ W0, Hid (W0 = w.alloc (.cells #[.slice v.m.aL v.m.lL v.m.cL, .slice v.m.aS v.m.lS v.m.cS, .slice v.m.aD v.m.lD v.m.cD, .int .i64 v.m.idle, .int .i64 v.m.crit, .int .i64 v.m.sw, .int .i64 v.m.swe, .int .i64 v.m.sems, .int .i64 v.m.hor, .slice v.ta v.tl v.tc, .slice v.na v.nl v.nc, .slice none 0 0, .slice none 0 0, .int .i64 v.now, .int .i64 a] 32)) ∧ Kp w W0 ∧ B15 W0 w.heap.size ((v.setH none 0 0 []).setJ none 0 0 []) a :=
  ⟨_, rfl, (Kp.refl _).alloc _, b15_new w ((v.setH none 0 0 []).setJ none 0 0 []) a⟩

end Go.Proofs.Ytnpbdcnogeohdaa.SK
