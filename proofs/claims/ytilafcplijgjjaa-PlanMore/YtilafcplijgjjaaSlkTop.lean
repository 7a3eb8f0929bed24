/- A list of numbers that grows in a call. -/
import Derived.Test.YtilafcplijgjjaaSlkLeft
import Derived.Maps.AppendAt
import Derived.Laws.AppendOwn
namespace Go.Proofs.Ytilafcplijgjjaa.SK
open Go.ChangeShapes Go.WideShapes Go.ChangeAt Go.RowKit Go.Proofs.Ytilafcplijgjjaa.AR Go.Proofs.Ytilafcplijgjjaa.TB Go.Proofs.Ytilafcplijgjjaa.TK Go.Proofs.Ytilafcplijgjjaa.JB Go.Proofs.Ytilafcplijgjjaa.FX Go.Proofs.Ytilafcplijgjjaa.AD
open Go.Proofs.Ytilafcplijgjjaa.LK (Hd atH HsAt C3)

theorem num_info : (Try.prog.info? 3).map (fun i => (i.zero, i.size, i.bytes)) = some (some (.int .i64 0), 1, 8) := by kernel_rfl

/-- the slice v has the numbers zs, in a block of its own -/
structure Nd (w : World) (base : Nat) (v : Value) (zs : List Int) : Prop where
  row : w.ownsRow base 3 1 v zs.length (zs.map (Value.int .i64))

theorem nd_nil (w : World) (base : Nat) : Nd w base (.slice none 0 0) [] := ⟨World.ownsRow_nil _ _ _ _⟩
theorem Nd.kp {w w' : World} {base : Nat} {v : Value} {zs : List Int} (h : Nd w base v zs) (s : Kp w w') : Nd w' base v zs := ⟨LK.row_kept (LK.kp_of_tb s) h.row (fun _ _ q => q)⟩
theorem Nd.low {w : World} {base base' : Nat} {v : Value} {zs : List Int} (h : Nd w base v zs) (hb : base' ≤ base) : Nd w base' v zs := ⟨LK.row_low h.row hb⟩
theorem Nd.form {w : World} {base : Nat} {v : Value} {zs : List Int} (h : Nd w base v zs) : ∃ ao cap, v = .slice ao zs.length cap := by
  rcases h.row.2 with ⟨hv, hn⟩ | ⟨g, cap, cur, rfl, _⟩
  · exact ⟨none, 0, by rw [hv, hn]⟩
  · exact ⟨_, _, rfl⟩
theorem Nd.one {w : World} {base : Nat} {ao : Option Addr} {n cap : Nat} {zs : List Int} (h : Nd w base (.slice ao n cap) zs) {i : Nat} (hi : i < zs.length) : ∃ g, ao = some ⟨g, 0, none⟩ ∧ g < w.heap.size ∧ w.cell? ⟨g, i, none⟩ = some (.int .i64 (zs.getD i 0)) := by
  rcases h.row.2 with ⟨hv, hn⟩ | ⟨g, c, cur, e, hb, hg, _⟩
  · omega
  · simp only [Value.slice.injEq] at e
    obtain ⟨rfl, rfl, rfl⟩ := e
    refine ⟨g, rfl, lt_blk hg, ?_⟩
    rw [h.row.cellAt i (by simpa using hi)]
    simp [List.getD_eq_getElem?_getD, List.getElem?_eq_getElem hi]

/-- 'append' of one number -/
theorem wpList_append_num {P : Program} (w : World) {ops : Array Oper} {rest : List Oper} {o : Oper} {a : Act} {Q : Exit → Act → World → Prop} (hgd : o.guard = none) (s x : Operand) (t e : TypeId)
    (ho : o.op = .call { callee := .builtin .append, args := #[s, x], argTypes := #[t, t] }) (ht : P.underlying t = some (.slice e))
    (hinf : (P.info? e).map (fun i => (i.zero, i.size, i.bytes)) = some (some (.int .i64 0), 1, 8))
    (base : Nat) (v : Value) (zs : List Int) (hs : a.eval s = v) (hown : w.ownsRow base e 1 v zs.length (zs.map (Value.int .i64)))
    (b : Nat) (y : Int) (hx : a.eval x = .slice (some ⟨b, 0, none⟩) 1 1) (hb : w.heap[b]? = some (.cells #[.int .i64 y] e (0, 0)))
    (hlen : zs.length + 1 ≤ 17592186044415) (hbase : base ≤ w.heap.size)
    (h : ∀ v' w', w'.ownsRow base e 1 v' (zs ++ [y]).length ((zs ++ [y]).map (Value.int .i64)) → w.grownBy w' v.ownBlock → (v'.ownBlock = v.ownBlock ∨ v'.ownBlock = some w.heap.size) → wpList P ops Q rest (a.put o.dst v') w') :
    wpList P ops Q (o :: rest) a w := by
  obtain ⟨i0, hi, hz0, hz1, hz2⟩ := info_parts hinf
  refine wpList_append_own_at _ hgd s x t ho base e i0 _ 1 8 ht hi hz0 hz1 hz2 (by rfl) (by decide) v zs.length (zs.map (Value.int .i64)) hs hown ⟨b, 0, none⟩ 1 1 [.int .i64 y] hx (by rfl) ?_ ?_ (by unfold maxLen; omega) (by omega) hbase ?_
  · intro j u hj
    match j, hj with
    | 0, hj => simp at hj; subst hj; simp [Addr.add, World.cell?, hb]
  · intro u hu
    simp at hu
    rcases hu with rfl; rfl
  · intro v' w' ho' hg hnil hloc
    refine h v' w' ?_ hg hloc
    simpa using ho'

/-- it has grown -/
theorem Nd.more {w W W1 W' : World} {v v' : Value} {zs zs' : List Int} (h : Nd W w.heap.size v zs) (k : Kp w W) (k1 : Kp W W1) (hr : W'.ownsRow w.heap.size 3 1 v' zs'.length (zs'.map (Value.int .i64))) (hg : W1.grownBy W' v.ownBlock) : Nd W' w.heap.size v' zs' ∧ Kp w W' := by
  have hs : LK.Step (fun q => v.ownBlock = some q) W W' := (LK.kp_of_tb k1).any.grown hg (fun q hq => hq)
  exact ⟨⟨hr⟩, (LK.Step.trans_new (LK.kp_of_tb k) hs (fun i hi q => by have := (h.row.lt i q).1; omega)).tb⟩

theorem alloc2_at (w : World) (o1 o2 : Obj) : ((w.alloc o1).alloc o2).heap[w.heap.size + 1]? = some o2 := by
  have h := heap_alloc_at (w.alloc o1) o2
  rwa [World.size_alloc] at h

theorem dts_len {v : Vw} : ∀ k, (dts v k).length ≤ k
  | 0 => by simp [dts]
  | k + 1 => by
    have := dts_len (v := v) k
    by_cases h : pk v.T k = 0
    · rw [dts_not h]; omega
    · rw [dts_more h]; simp; omega
theorem djs_len {v : Vw} (k : Nat) : (djs v k).length ≤ k := by
  unfold djs
  rw [List.length_map]
  exact List.length_take_le _ _

theorem run_min2 (ts : Array TypeId) (t : TypeId) (a b : Int) (w : World) : (Builtin.min_ ts t #[.int .i64 a, .int .i64 b]).run Try.prog w = .ok (.int .i64 (mn a b)) w := by
  unfold mn
  simp [Builtin.min_, Builtin.min2]

/-- every moment of which Least speaks -/
theorem dts_mem {v : Vw} (g : VG v) {d : Int} : ∀ {k : Nat}, k ≤ v.tl → d ∈ dts v k → 0 ≤ d ∧ d ≤ 4194304
  | 0, _, h => by simp [dts] at h
  | k + 1, hk, h => by
    by_cases hp : pk v.T k = 0
    · rw [dts_not hp] at h; exact dts_mem g (by omega) h
    · rw [dts_more hp, List.mem_append, List.mem_singleton] at h
      rcases h with h | rfl
      · exact dts_mem g (by omega) h
      · have := ndI_bd g (k := k) (by omega); omega
theorem djs_mem {v : Vw} (g : VG v) {d : Int} {k : Nat} (h : d ∈ djs v k) : 0 ≤ d ∧ d ≤ 4194304 := by
  unfold djs at h
  obtain ⟨j, hj, rfl⟩ := List.mem_map.1 h
  have := (g.jb j (List.mem_of_mem_take hj)).2.2.1
  omega
theorem dls_mem {v : Vw} (g : VG v) {d : Int} (h : d ∈ dls v) : 0 ≤ d ∧ d ≤ 4194304 := by
  unfold dls at h
  rcases List.mem_append.1 h with h | h
  · exact djs_mem g h
  · exact dts_mem g (Nat.le_refl _) h
theorem dls_len {v : Vw} (g : VG v) : (dls v).length ≤ 128 := by
  have h1 := djs_len (v := v) v.jl
  have h2 := dts_len (v := v) v.tl
  have h3 := g.n
  have h4 := g.jn
  unfold dls
  rw [List.length_append]; omega

end Go.Proofs.Ytilafcplijgjjaa.SK
