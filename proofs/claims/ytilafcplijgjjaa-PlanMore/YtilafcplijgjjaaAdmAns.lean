/- What the statements ask of every program: that it answers at all. -/
import Derived.Test.YtilafcplijgjjaaAdmSum
namespace Go.Proofs.Ytilafcplijgjjaa.AD
open Go.ChangeShapes Go.WideShapes Go.ChangeAt Go.RowKit Go.Proofs.Ytilafcplijgjjaa.AR Go.Proofs.Ytilafcplijgjjaa.TB Go.Proofs.Ytilafcplijgjjaa.TK Go.Proofs.Ytilafcplijgjjaa.FX

/-- the machine and the task that are asked -/
abbrev aM (h : Nat) : Mc := ⟨some ⟨h, 0, none⟩, 1, 1, [[1, 0]], none, 0, 0, [], none, 0, 0, [], 0, 0, 0, 0, 0, 50⟩
abbrev aT : Tk := ⟨4, 3, none, 0, 0, [], none, 0, 0, []⟩

theorem ans_bd (h : Nat) : Bd (aM h) := by
  refine ⟨by simp, fun i hi => ?_, fun i hi => ?_, by simp, by simp⟩
  · obtain rfl : i = 0 := by simp at hi; omega
    simp [fd]
  · simp at hi
theorem ans_bt : BT aT := ⟨by simp, fun k hk => by simp at hk⟩
theorem ans_gd1 (h : Nat) : Gd (aM h) [aT] := ⟨ans_bd h, fun t ht => by simp only [List.mem_cons, List.not_mem_nil, or_false] at ht; subst ht; exact ans_bt, by simp⟩
theorem ans_gd2 (h : Nat) : Gd (aM h) [aT, aT] := ⟨ans_bd h, fun t ht => by simp only [List.mem_cons, List.not_mem_nil, or_false, or_self] at ht; subst ht; exact ans_bt, by simp⟩
theorem ans_lod (h : Nat) : lod (aM h) [aT] 0 = 4294967296 := by rfl
theorem ans_fit1 (h : Nat) : fitB (aM h) [aT] = true := by rfl
theorem ans_fit2 (h : Nat) : fitB (aM h) [aT, aT] = false := by rfl
theorem ans_blk (h : Nat) : blk (aM h) [aT] 4 = 1 := by rfl

theorem ans_lod2 (h : Nat) (L : List Tk) (e : L = [aT]) : lod (aM h) L 0 = 4294967296 := by subst e; rfl

/-- the three blocks that are made -/
structure An (h : Nat) (W : World) : Prop where
  l : W.heap[h]? = some (.cells #[.int .i64 1, .int .i64 0] 56 (0, 0))
  p : B9 W (h + 1) (aM h)
  t : W.heap[h + 1 + 1]? = some (.cells (flat4 [aT]).toArray 39 (0, 0))
theorem An.kp {h : Nat} {W W' : World} (a : An h W) (k : Kp W W') : An h W' := ⟨kp_block a.l k, a.p.kp k, kp_block a.t k⟩
theorem An.grown {h : Nat} {W W' : World} (a : An h W) {g : Nat} (k : W.grownBy W' (some g)) (hg : h + 1 < g) : B9 W' (h + 1) (aM h) ∧ W'.heap[h]? = some (.cells #[.int .i64 1, .int .i64 0] 56 (0, 0)) :=
  ⟨⟨grown_block k a.p.blk (by omega)⟩, grown_block k a.l (by omega)⟩

theorem no_rec (w : World) (k : Nat) (ao : Option Addr) : RecAt w k ao 0 [] := ⟨rfl, fun r hr => by simp at hr, .inl rfl⟩
theorem no_nat (w : World) (ao : Option Addr) : NAt w ao 0 [] := ⟨⟨rfl, fun z hz => by simp at hz, .inl rfl⟩, by omega⟩

theorem an_at {h : Nat} {W : World} (a : W.heap[h]? = some (.cells #[.int .i64 1, .int .i64 0] 56 (0, 0))) : (aM h).At W := by
  refine ⟨⟨rfl, ?_, .inr ⟨h, 0, rfl, lt_blk a, ?_⟩⟩, no_rec _ _ _, no_rec _ _ _, by simp, by simp, by simp⟩
  · intro r hr
    simp at hr
    subst hr
    refine ⟨rfl, fun y hy => ?_⟩
    simp at hy
    unfold I64
    omega
  · intro i j hi hj
    obtain rfl : i = 0 := by simp at hi; omega
    match j, hj with
    | 0, _ => simp [World.cell?, a]
    | 1, _ => simp [World.cell?, a]

theorem an_row {h base : Nat} {W : World} (a : An h W) (hb : base ≤ h) : W.ownsRow base 39 4 (.slice (some ⟨h + 1 + 1, 0, none⟩) 1 1) 1 (flat4 [aT]) :=
  ⟨rfl, .inr ⟨h + 1 + 1, 1, (flat4 [aT]).toArray, rfl, (Nat.le_trans hb (Nat.le_trans (Nat.le_succ h) (Nat.le_succ _))), a.t, Nat.le_refl _, by unfold maxLen; omega, by simp [flat4], by simp [flat4]⟩⟩

theorem an_tat (W : World) : ∀ t ∈ [aT, aT], TAt W t := fun t ht => by
  simp only [List.mem_cons, List.not_mem_nil, or_false, or_self] at ht
  subst ht
  exact ⟨no_nat _ _, no_nat _ _⟩

theorem an_lat {h : Nat} {W : World} (a : An h W) : LAt W (some ⟨h + 1 + 1, 0, none⟩) 1 [aT] :=
  lat_of_row (an_row a (Nat.le_refl _)) (fun t ht => an_tat W t (by simp at ht; subst ht; simp)) (by omega)

theorem an_new {w W0 : World} (e : W0 = ((w.alloc (.cells #[.int .i64 1, .int .i64 0] 56)).alloc (.cells #[.slice (some ⟨w.heap.size, 0, none⟩) 1 1, .slice none 0 0, .slice none 0 0, .int .i64 0, .int .i64 0, .int .i64 0, .int .i64 0, .int .i64 0, .int .i64 50] 26)).alloc
      (.cells #[.int .i64 4, .int .i64 3, .slice none 0 0, .slice none 0 0] 39)) : An w.heap.size W0 ∧ Kp w W0 := by
  subst e
  refine ⟨⟨kp_block (heap_alloc_at _ _) (((Kp.refl _).alloc _).alloc _), ⟨kp_block (w := (w.alloc (.cells #[.int .i64 1, .int .i64 0] 56)).alloc (.cells #[.slice (some ⟨w.heap.size, 0, none⟩) 1 1, .slice none 0 0, .slice none 0 0, .int .i64 0, .int .i64 0, .int .i64 0, .int .i64 0, .int .i64 0, .int .i64 50] 26)) ?_ ((Kp.refl _).alloc _)⟩, ?_⟩, (((Kp.refl _).alloc _).alloc _).alloc _⟩
  · have := heap_alloc_at (w.alloc (.cells #[.int .i64 1, .int .i64 0] 56)) (.cells #[.slice (some ⟨w.heap.size, 0, none⟩) 1 1, .slice none 0 0, .slice none 0 0, .int .i64 0, .int .i64 0, .int .i64 0, .int .i64 0, .int .i64 0, .int .i64 50] 26)
    rw [World.size_alloc] at this
    exact this
  · have := heap_alloc_at ((w.alloc (.cells #[.int .i64 1, .int .i64 0] 56)).alloc (.cells #[.slice (some ⟨w.heap.size, 0, none⟩) 1 1, .slice none 0 0, .slice none 0 0, .int .i64 0, .int .i64 0, .int .i64 0, .int .i64 0, .int .i64 0, .int .i64 50] 26)) (.cells #[.int .i64 4, .int .i64 3, .slice none 0 0, .slice none 0 0] 39)
    rw [World.size_alloc, World.size_alloc] at this
    exact this

theorem tk_info : (Try.prog.info? 39).map (fun i => (i.zero, i.size, i.bytes)) = some (some (.agg #[.int .i64 0, .int .i64 0, .slice none 0 0, .slice none 0 0]), 4, 64) := by kernel_rfl

theorem row_base {w : World} {base : Nat} {e : TypeId} {size g n cap : Nat} {xs : List Value} (h : w.ownsRow base e size (.slice (some ⟨g, 0, none⟩) n cap) n xs) : base ≤ g := by
  rcases h.2 with ⟨q, _⟩ | ⟨g', cap', cur, e', hb, _⟩
  · cases q
  · cases e'
    exact hb

end Go.Proofs.Ytilafcplijgjjaa.AD
