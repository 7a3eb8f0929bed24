/- Semaphores beside a list of numbers that grows. -/
import Derived.Test.YtlcbgkicooeklaaLckAns
import Derived.Test.YtlcbgkicooeklaaLckNestP
import Derived.Test.YtlcbgkicooeklaaKArgs
namespace Go.Proofs.Ytlcbgkicooeklaa.LK
open Go.ChangeShapes Go.WideShapes Go.ChangeAt Go.RowKit Go.Proofs.Ytlcbgkicooeklaa.AR

theorem num_info : (Try.prog.info? 3).map (fun i => (i.zero, i.size, i.bytes)) = some (some (.int .i64 0), 1, 8) := by kernel_rfl

/-- the slice v has the numbers zs -/
structure Nu (w : World) (base : Nat) (v : Value) (zs : List Int) : Prop where
  row : w.ownsRow base 3 1 v zs.length (zs.map (Value.int .i64))

theorem nu_nil (w : World) (base : Nat) : Nu w base (.slice none 0 0) [] := ⟨World.ownsRow_nil _ _ _ _⟩
theorem Nu.kept {A : Nat → Prop} {w w' : World} {base : Nat} {v : Value} {zs : List Int} (h : Nu w base v zs) (s : Step A w w') (hA : ∀ k, v.ownBlock = some k → ¬ A k) : Nu w' base v zs := ⟨row_kept s h.row hA⟩
theorem Nu.kp {w w' : World} {base : Nat} {v : Value} {zs : List Int} (h : Nu w base v zs) (s : Kp w w') : Nu w' base v zs := h.kept s (fun _ _ q => q)
theorem Nu.form {w : World} {base : Nat} {v : Value} {zs : List Int} (h : Nu w base v zs) : ∃ ao cap, v = .slice ao zs.length cap := by
  rcases h.row.2 with ⟨hv, hn⟩ | ⟨g, cap, cur, rfl, _⟩
  · exact ⟨none, 0, by rw [hv, hn]⟩
  · exact ⟨_, _, rfl⟩
theorem Nu.one {w : World} {base : Nat} {ao : Option Addr} {n cap : Nat} {zs : List Int} (h : Nu w base (.slice ao n cap) zs) {i : Nat} (hi : i < zs.length) : ∃ g, ao = some ⟨g, 0, none⟩ ∧ g < w.heap.size ∧ w.cell? ⟨g, i, none⟩ = some (.int .i64 (zs.getD i 0)) := by
  rcases h.row.2 with ⟨hv, hn⟩ | ⟨g, c, cur, e, hb, hg, _⟩
  · omega
  · simp only [Value.slice.injEq] at e
    obtain ⟨rfl, rfl, rfl⟩ := e
    refine ⟨g, rfl, lt_blk hg, ?_⟩
    rw [h.row.cellAt i (by simpa using hi)]
    simp [List.getD_eq_getElem?_getD, List.getElem?_eq_getElem hi]

/-- 'append' of one number -/
theorem wpList_append_num {P : Program} (w : World) {ops : Array Oper} {rest : List Oper} {o : Oper} {a : Act} {Q : Exit → Act → World → Prop} (hgd : o.guard = none) (s x : Operand) (t e : TypeId)
    (ho : o.op = .call { callee := .builtin .append, args := #[s, x], argTypes := #[t, t] }) (ht : P.underlying t = some (.slice e))
    (hinf : (P.info? e).map (fun i => (i.zero, i.size, i.bytes)) = some (some (.int .i64 0), 1, 8))
    (base : Nat) (v : Value) (zs : List Int) (hs : a.eval s = v) (hown : w.ownsRow base e 1 v zs.length (zs.map (Value.int .i64)))
    (b : Nat) (y : Int) (hx : a.eval x = .slice (some ⟨b, 0, none⟩) 1 1) (hb : w.heap[b]? = some (.cells #[.int .i64 y] e (0, 0)))
    (hlen : zs.length + 1 ≤ 17592186044415) (hbase : base ≤ w.heap.size)
    (h : ∀ v' w', w'.ownsRow base e 1 v' (zs ++ [y]).length ((zs ++ [y]).map (Value.int .i64)) → w.grownBy w' v.ownBlock → (v'.ownBlock = v.ownBlock ∨ v'.ownBlock = some w.heap.size) → wpList P ops Q rest (a.put o.dst v') w') :
    wpList P ops Q (o :: rest) a w := by
  obtain ⟨i0, hi, hz0, hz1, hz2⟩ := info_parts hinf
  refine wpList_append_own_at _ hgd s x t ho base e i0 _ 1 8 ht hi hz0 hz1 hz2 (by rfl) (by decide) v zs.length (zs.map (Value.int .i64)) hs hown ⟨b, 0, none⟩ 1 1 [.int .i64 y] hx (by rfl) ?_ ?_ (by unfold maxLen; omega) (by omega) hbase ?_
  · intro j u hj
    match j, hj with
    | 0, hj => simp at hj; subst hj; simp [Addr.add, World.cell?, hb]
  · intro u hu
    simp at hu
    rcases hu with rfl; rfl
  · intro v' w' ho' hg hnil hloc
    refine h v' w' ?_ hg hloc
    simpa using ho'

/-- semaphores beside what the task 1 has taken -/
structure Ns (w W : World) (lb : Nat) (A : Nat → Prop) (L : List Hd) (v : Value) (zs : List Int) : Prop where
  x : LkOf w W lb A L
  l : Nu W w.heap.size v zs
  ap : ∀ k, v.ownBlock = some k → ¬ A k

theorem Ns.still {w W W' : World} {lb : Nat} {A : Nat → Prop} {L : List Hd} {v : Value} {zs : List Int} (h : Ns w W lb A L v zs) (k : Kp W W') : Ns w W' lb A L v zs := ⟨h.x.still k, h.l.kp k, h.ap⟩
theorem Ns.went {w W W' : World} {lb : Nat} {A : Nat → Prop} {L L' : List Hd} {v : Value} {zs : List Int} (h : Ns w W lb A L v zs) (q : LWent W lb A L' W') : ∃ B, Ns w W' lb B L' v zs := by
  obtain ⟨B, r, s, o⟩ := q
  have hlt : ∀ k, v.ownBlock = some k → k < W.heap.size := fun k hk => (h.l.row.lt k hk).2
  refine ⟨B, ⟨r, Step.trans_new h.x.kp s (fun i hi e => by have := h.x.lo i e; omega), fun k hk => ?_⟩, h.l.kept s h.ap, fun k hk q => h.ap k hk (o k (hlt k hk) q)⟩
  by_cases hl : k < W.heap.size
  · exact h.x.lo k (o k hl hk)
  · have := h.x.kp.size; omega
/-- a number more -/
theorem Ns.more {w W W' : World} {lb : Nat} {A : Nat → Prop} {L : List Hd} {v v' : Value} {zs zs' : List Int} {o : Obj} (h : Ns w W lb A L v zs) (hr : W'.ownsRow w.heap.size 3 1 v' zs'.length (zs'.map (Value.int .i64))) (hg : (W.alloc o).grownBy W' v.ownBlock) (hloc : v'.ownBlock = v.ownBlock ∨ v'.ownBlock = some (W.alloc o).heap.size) : Ns w W' lb A L v' zs' := by
  have hs : Step (fun k => v.ownBlock = some k) W W' := ((Step.refl _ W).alloc o).grown hg (fun k hk => hk)
  refine ⟨⟨h.x.rep.kept hs (fun k hA q => h.ap k q hA), Step.trans_new h.x.kp hs (fun i hi q => by have := (h.l.row.lt i q).1; omega), h.x.lo⟩, ⟨hr⟩, fun k hk hA => ?_⟩
  rcases hloc with e | e
  · exact h.ap k (e ▸ hk) hA
  · rw [e] at hk
    simp only [Option.some.injEq] at hk
    have := h.x.rep.lt k hA
    simp only [World.size_alloc] at hk
    omega

end Go.Proofs.Ytlcbgkicooeklaa.LK
