/- A row of intervals that is the call's own, in memory: what it has, what is appended, copied and stored. -/
import Derived.Test.YtbgpojhdkmhcbaaTrcPlain
import Derived.Test.YtbgpojhdkmhcbaaArgs
import Derived.Laws.CopyOwn
import Derived.OwnWalk
import Derived.Maps.AppendAt
import Derived.Deep.AppendLies
import Derived.BigRegion
import Derived.BigQuiet
import Derived.StillTailTactics
import Derived.Deep.LoopGhost
import Derived.Deep.RegionHeld3
namespace Go.Proofs.Ytbgpojhdkmhcbaa.TC
open Go.ChangeShapes Go.WideShapes Go.ChangeAt Go.RowKit Go.Proofs.Ytbgpojhdkmhcbaa.AR

/-- what was there is as it was, but for the blocks that A names -/
structure Step (A : Nat → Prop) (w w' : World) : Prop where
  os : w'.os = w.os
  tape : w'.tape = w.tape
  output : w'.output = w.output
  size : w.heap.size ≤ w'.heap.size
  block : ∀ k, k < w.heap.size → ¬ A k → w'.heap[k]? = w.heap[k]?

/-- all that was there is as it was -/
abbrev Kp (w w' : World) : Prop := Step (fun _ => False) w w'

theorem Step.refl (A : Nat → Prop) (w : World) : Step A w w := ⟨rfl, rfl, rfl, Nat.le_refl _, fun _ _ _ => rfl⟩
theorem Step.trans {A : Nat → Prop} {a b c : World} (h : Step A a b) (k : Step A b c) : Step A a c :=
  ⟨k.os.trans h.os, k.tape.trans h.tape, k.output.trans h.output, Nat.le_trans h.size k.size, fun i hi hA => (k.block i (Nat.lt_of_lt_of_le hi h.size) hA).trans (h.block i hi hA)⟩
theorem Step.mono {A B : Nat → Prop} {a b : World} (h : Step A a b) (hAB : ∀ k, k < a.heap.size → A k → B k) : Step B a b :=
  ⟨h.os, h.tape, h.output, h.size, fun i hi hB => h.block i hi (fun q => hB (hAB i hi q))⟩
theorem Step.drew {A : Nat → Prop} {a b : World} (h : Step A a b) : Step A a b.drew := ⟨h.os, h.tape, h.output, h.size, h.block⟩
theorem Step.drewN {A : Nat → Prop} {a b : World} (h : Step A a b) (n : Nat) : Step A a (b.drewN n) := ⟨h.os, h.tape, h.output, h.size, h.block⟩
theorem Step.alloc {A : Nat → Prop} {a b : World} (h : Step A a b) (o : Obj) : Step A a (b.alloc o) :=
  h.trans ⟨rfl, rfl, rfl, by simp, fun k hk _ => Below.heap_alloc _ _ _ hk⟩
theorem Step.setCell {A : Nat → Prop} {a b : World} (h : Step A a b) {p : Addr} (hp : A p.block) (u : Value) : Step A a (b.setCell p u) :=
  h.trans ⟨rfl, rfl, rfl, by simp [World.setCell], fun k _ hk => Below.heap_setCell _ _ _ _ (fun e => hk (e ▸ hp))⟩
/-- a store into a block that is new -/
theorem Step.setNew {A : Nat → Prop} {a b : World} (h : Step A a b) {p : Addr} (hp : a.heap.size ≤ p.block) (u : Value) : Step A a (b.setCell p u) :=
  ⟨h.os, h.tape, h.output, by simpa [World.setCell] using h.size, fun k hk hA => (Below.heap_setCell _ _ _ _ (by omega)).trans (h.block k hk hA)⟩
theorem Step.grown {A : Nat → Prop} {a b c : World} {row : Option Nat} (h : Step A a b) (hg : b.grownBy c row) (hr : ∀ k, row = some k → A k) : Step A a c :=
  h.trans ⟨hg.os, hg.tape, hg.output, hg.size, fun k hk hA => hg.block k hk (fun e => hA (hr k e.symm))⟩
theorem Step.cell {A : Nat → Prop} {a b : World} (h : Step A a b) {p : Addr} (hp : p.block < a.heap.size) (hA : ¬ A p.block) : b.cell? p = a.cell? p := World.cell?_of_block (h.block _ hp hA)
/-- behind a step that touches new blocks alone -/
theorem Step.trans_new {A : Nat → Prop} {a b c : World} (h : Kp a b) (k : Step A b c) (hA : ∀ i, i < a.heap.size → ¬ A i) : Kp a c :=
  ⟨k.os.trans h.os, k.tape.trans h.tape, k.output.trans h.output, Nat.le_trans h.size k.size, fun i hi hF => (k.block i (Nat.lt_of_lt_of_le hi h.size) (hA i hi)).trans (h.block i hi hF)⟩
theorem Step.below {a b : World} (h : Kp a b) : Below a.heap.size a b := ⟨h.os, h.tape, h.output, h.size, fun k hk => h.block k hk (fun q => q)⟩
theorem Kp.any {A : Nat → Prop} {a b : World} (h : Kp a b) : Step A a b := h.mono (fun _ _ q => q.elim)

/-- a row that nobody has touched -/
theorem row_kept {A : Nat → Prop} {w w' : World} (h : Step A w w') {base : Nat} {e : TypeId} {size : Nat} {v : Value} {n : Nat} {xs : List Value} (ho : w.ownsRow base e size v n xs) (hA : ∀ k, v.ownBlock = some k → ¬ A k) : w'.ownsRow base e size v n xs := by
  refine ⟨ho.1, ?_⟩
  rcases ho.2 with hn | ⟨g, cap, cur, rfl, hb, hgg, rest⟩
  · exact .inl hn
  · exact .inr ⟨g, cap, cur, rfl, hb, by rw [h.block g (Array.getElem?_eq_some_iff.1 hgg).1 (hA g rfl)]; exact hgg, rest⟩

theorem row_low {w : World} {base base' : Nat} {e : TypeId} {size : Nat} {v : Value} {n : Nat} {xs : List Value} (h : w.ownsRow base e size v n xs) (hb : base' ≤ base) : w.ownsRow base' e size v n xs := by
  refine ⟨h.1, ?_⟩
  rcases h.2 with q | ⟨g, cap, cur, rfl, hg, r⟩
  · exact .inl q
  · exact .inr ⟨g, cap, cur, rfl, Nat.le_trans hb hg, r⟩

theorem iv_info : (Try.prog.info? 27).map (fun i => (i.zero, i.size, i.bytes)) = some (some (.agg #[.int .i64 0, .int .i64 0, .int .i64 0, .int .i64 0, .int .i64 0, .int .i64 0]), 6, 48) := by kernel_rfl

theorem lt_blk {w : World} {b : Nat} {o : Obj} (h : w.heap[b]? = some o) : b < w.heap.size := (Array.getElem?_eq_some_iff.1 h).1
theorem alloc_at (w : World) (o : Obj) : (w.alloc o).heap[w.heap.size]? = some o := by unfold World.alloc; exact Array.getElem?_push_size

/-- 'append' of one interval to a row that is the call's own -/
theorem wpList_append_six {P : Program} (w : World) {ops : Array Oper} {rest : List Oper} {o : Oper} {a : Act} {Q : Exit → Act → World → Prop} (hgd : o.guard = none) (s x : Operand) (t e : TypeId)
    (ho : o.op = .call { callee := .builtin .append, args := #[s, x], argTypes := #[t, t] }) (ht : P.underlying t = some (.slice e))
    (hinf : (P.info? e).map (fun i => (i.zero, i.size, i.bytes)) = some (some (.agg #[.int .i64 0, .int .i64 0, .int .i64 0, .int .i64 0, .int .i64 0, .int .i64 0]), 6, 48))
    (base : Nat) (v : Value) (L : List I6) (hs : a.eval s = v) (hown : w.ownsRow base e 6 v L.length (flat6 L))
    (b : Nat) (y : I6) (hx : a.eval x = .slice (some ⟨b, 0, none⟩) 1 1) (hb : w.heap[b]? = some (.cells #[.int .i64 y.k, .int .i64 y.f, .int .i64 y.l, .int .i64 y.a, .int .i64 y.t, .int .i64 y.c] e (0, 0)))
    (hlen : L.length + 1 ≤ 2932031007402) (hbase : base ≤ w.heap.size)
    (h : ∀ g cap w', w'.ownsRow base e 6 (.slice (some ⟨g, 0, none⟩) (L.length + 1) cap) (L.length + 1) (flat6 (L ++ [y])) → w.grownBy w' v.ownBlock → (v.ownBlock = some g ∨ g = w.heap.size) → wpList P ops Q rest (a.put o.dst (.slice (some ⟨g, 0, none⟩) (L.length + 1) cap)) w') :
    wpList P ops Q (o :: rest) a w := by
  obtain ⟨i0, hi, hz0, hz1, hz2⟩ := info_parts hinf
  refine wpList_append_own_at _ hgd s x t ho base e i0 _ 6 48 ht hi hz0 hz1 hz2 (by rfl) (by decide) v L.length (flat6 L) hs hown ⟨b, 0, none⟩ 1 1 [.int .i64 y.k, .int .i64 y.f, .int .i64 y.l, .int .i64 y.a, .int .i64 y.t, .int .i64 y.c] hx (by rfl) ?_ ?_ (by unfold maxLen; omega) (by omega) hbase ?_
  · intro j u hj
    match j, hj with
    | 0, hj => simp at hj; subst hj; simp [Addr.add, World.cell?, hb]
    | 1, hj => simp at hj; subst hj; simp [Addr.add, World.cell?, hb]
    | 2, hj => simp at hj; subst hj; simp [Addr.add, World.cell?, hb]
    | 3, hj => simp at hj; subst hj; simp [Addr.add, World.cell?, hb]
    | 4, hj => simp at hj; subst hj; simp [Addr.add, World.cell?, hb]
    | 5, hj => simp at hj; subst hj; simp [Addr.add, World.cell?, hb]
  · intro u hu
    simp at hu
    rcases hu with rfl | rfl | rfl | rfl | rfl | rfl <;> rfl
  · intro v' w' ho' hg hnil hloc
    rcases ho'.2 with ⟨_, hz⟩ | ⟨g, cap, cur, rfl, hbg, hgg, r⟩
    · omega
    · refine h g cap w' ?_ hg ?_
      · rw [flat6_append]; exact ho'
      · simp only [Value.ownBlock] at hloc
        rcases hloc with hloc | hloc
        · exact Or.inl hloc.symm
        · exact Or.inr (by simpa using hloc)

/-- the same at a step of a region that draws its order -/
theorem step_append_six {P : Program} (w : World) {ops : Array Oper} {o : Oper} {a : Act} {K : Act → World → Prop} {Q : Exit → Act → World → Prop} {E : Prop} (hgd : o.guard = none) (s x : Operand) (t e : TypeId)
    (ho : o.op = .call { callee := .builtin .append, args := #[s, x], argTypes := #[t, t] }) (ht : P.underlying t = some (.slice e))
    (hinf : (P.info? e).map (fun i => (i.zero, i.size, i.bytes)) = some (some (.agg #[.int .i64 0, .int .i64 0, .int .i64 0, .int .i64 0, .int .i64 0, .int .i64 0]), 6, 48))
    (base : Nat) (v : Value) (L : List I6) (hs : a.eval s = v) (hown : w.ownsRow base e 6 v L.length (flat6 L))
    (b : Nat) (y : I6) (hx : a.eval x = .slice (some ⟨b, 0, none⟩) 1 1) (hb : w.heap[b]? = some (.cells #[.int .i64 y.k, .int .i64 y.f, .int .i64 y.l, .int .i64 y.a, .int .i64 y.t, .int .i64 y.c] e (0, 0)))
    (hlen : L.length + 1 ≤ 2932031007402) (hbase : base ≤ w.heap.size)
    (h : ∀ g cap w', w'.ownsRow base e 6 (.slice (some ⟨g, 0, none⟩) (L.length + 1) cap) (L.length + 1) (flat6 (L ++ [y])) → w.grownBy w' v.ownBlock → (v.ownBlock = some g ∨ g = w.heap.size) → K (a.put o.dst (.slice (some ⟨g, 0, none⟩) (L.length + 1) cap)) w') :
    if Region.wanted o (yielded ops a.tmps) = true then Oper.wp P o a w K Q else E := by
  obtain ⟨i0, hi, hz0, hz1, hz2⟩ := info_parts hinf
  refine step_append_lies _ hgd s x t ho base e i0 _ 6 48 ht hi hz0 hz1 hz2 (by rfl) (by decide) v L.length (flat6 L) hs hown ⟨b, 0, none⟩ 1 1 [.int .i64 y.k, .int .i64 y.f, .int .i64 y.l, .int .i64 y.a, .int .i64 y.t, .int .i64 y.c] hx (by rfl) ?_ ?_ (by omega) (by unfold maxLen; omega) (by omega) hbase w.heap.size rfl ?_
  · exact World.news_of_block hb
  · intro u hu
    simp at hu
    rcases hu with rfl | rfl | rfl | rfl | rfl | rfl <;> rfl
  · intro g cap w' ho' hg hloc _
    refine h g cap w' ?_ hg hloc
    rw [flat6_append]; exact ho'

/-- 'copy' of a row's elements, of any size, over a row that is known whole -/
theorem run_copy_sized {P : Program} (w : World) (dT sT ty elem : TypeId) (g dLen dCap : Nat) (a : Addr) (sLen sCap size : Nat) (cur : Array Value) (t : TypeId) (cs : List Value)
    (hu : P.underlying dT = some (.slice elem)) (hs : (P.info? elem).map (·.size) = some size)
    (hg : w.heap[g]? = some (.cells cur t (0, 0))) (hm : sLen = dLen) (hn : cs.length = dLen * size)
    (hsrc : ∀ j v, cs[j]? = some v → w.cell? (a.add j) = some v) (hfit : cs.length ≤ cur.size) (h1 : ∀ v ∈ cs, v.oneCell' = true) :
    (Builtin.copy_ #[dT, sT] ty #[.slice (some ⟨g, 0, none⟩) dLen dCap, .slice (some a) sLen sCap]).run P w =
      .ok (goInt dLen) (w.setRow g (cs ++ cur.toList.drop cs.length).toArray) := by
  subst hm
  have hl := run_loadCells_list (P := P) w a cs hsrc
  have hst := run_storeCells_at P g 0 t cs 0 cur w hg (by simpa using hfit) h1
  cases hq : P.info? elem with
  | none => simp [hq] at hs
  | some i =>
    have hi : i.size = size := by simpa [hq] using hs
    rw [hn] at hl
    simp [Builtin.copy_, run_underlying hu, Builtin.lenOf, Builtin.firstCells, sizeOf, typeInfo, hq, hi, hl]
    simp at hst
    simp [hst, hn]

theorem wpList_copy_six {P : Program} (w : World) {ops : Array Oper} {rest : List Oper} {o : Oper} {a : Act} {Q : Exit → Act → World → Prop} (hgd : o.guard = none) (d s : Operand) (t e : TypeId)
    (ho : o.op = .call { callee := .builtin .copy, args := #[d, s], argTypes := #[t, t] }) (hu : P.underlying t = some (.slice e)) (hs6 : (P.info? e).map (·.size) = some 6)
    (base base' gd n : Nat) (v : Value) (L : List I6) (zs : List Value) (hd : a.eval d = .slice (some ⟨gd, 0, none⟩) n n) (hs : a.eval s = v) (hL : L.length = n)
    (hdst : w.ownsRow base e 6 (.slice (some ⟨gd, 0, none⟩) n n) n zs) (hsrc : w.ownsRow base' e 6 v L.length (flat6 L)) (hne : v.ownBlock ≠ some gd)
    (h : ∀ w', w'.ownsRow base e 6 (.slice (some ⟨gd, 0, none⟩) n n) n (flat6 L) → Step (fun k => k = gd) w w' → wpList P ops Q rest (a.put o.dst (goInt n)) w') :
    wpList P ops Q (o :: rest) a w := by
  refine wpList_plain hgd fun K hK => ?_
  rcases hdst.2 with ⟨q, _⟩ | ⟨g', cap', cur, q, hb, hg, hnc, hcm, hcs, htake⟩
  · simp at q
  simp only [Value.slice.injEq, Option.some.injEq, Addr.mk.injEq, and_true, true_and] at q
  obtain ⟨rfl, rfl⟩ := q
  rcases hsrc.2 with ⟨rfl, hz⟩ | ⟨gs, cap, cur2, rfl, hb2, hg2, r⟩
  · obtain rfl : L = [] := List.length_eq_zero_iff.1 hz
    simp only [List.length_nil] at hL
    subst hL
    have hz : zs = [] := List.eq_nil_of_length_eq_zero (by simpa using hdst.1)
    subst hz
    have hrun := run_copy_nil (P := P) w t t o.type e ⟨gd, 0, none⟩ 0 0 hu (by rw [hs6]; rfl)
    unfold Oper.wp
    simp [execOp, ho, resolve, invoke, builtin, hd, hs, hrun, Result.andThen]
    exact hK _ _ (h w hdst (Step.refl _ _))
  · have hsl := hsrc.cells (g := gs) rfl
    have hfl := flat6_len L
    have hrun := run_copy_sized (P := P) w t t o.type e gd n n ⟨gs, 0, none⟩ L.length cap 6 cur e (flat6 L) hu hs6 hg hL (by rw [hfl, hL]) hsl (by rw [hfl, hcs, hL]; exact Nat.le_refl _) (flat6_one L)
    unfold Oper.wp
    simp [execOp, ho, resolve, invoke, builtin, hd, hs, hrun, Result.andThen]
    refine hK _ _ (h _ ⟨by rw [hfl, hL], .inr ⟨gd, n, _, rfl, hb, setRow_heap w gd cur _ e _ hg, Nat.le_refl _, hcm, ?_, ?_⟩⟩ ⟨rfl, rfl, rfl, by simp [World.setRow], fun k _ hk => setRow_other w gd k _ hk⟩)
    · simp only [List.size_toArray, List.length_append, List.length_drop, Array.length_toList, hfl, hcs, hL]
      omega
    · rw [← hL, ← hfl]
      simp

/-- the slice v has the intervals L; its row lies from base on -/
structure Ls (w : World) (base : Nat) (v : Value) (L : List I6) : Prop where
  row : w.ownsRow base 27 6 v L.length (flat6 L)
  len : L.length ≤ 2932031007402

/-- an interval lies there -/
structure C6 (w : World) (g o : Nat) (x : I6) : Prop where
  c0 : w.cell? ⟨g, o, none⟩ = some (.int .i64 x.k)
  c1 : w.cell? ⟨g, o + 1, none⟩ = some (.int .i64 x.f)
  c2 : w.cell? ⟨g, o + 2, none⟩ = some (.int .i64 x.l)
  c3 : w.cell? ⟨g, o + 3, none⟩ = some (.int .i64 x.a)
  c4 : w.cell? ⟨g, o + 4, none⟩ = some (.int .i64 x.t)
  c5 : w.cell? ⟨g, o + 5, none⟩ = some (.int .i64 x.c)
  lt : g < w.heap.size

theorem C6.kept {A : Nat → Prop} {w w' : World} {g o : Nat} {x : I6} (h : C6 w g o x) (s : Step A w w') (hA : ¬ A g) : C6 w' g o x := by
  have q : ∀ j, w'.cell? ⟨g, j, none⟩ = w.cell? ⟨g, j, none⟩ := fun j => s.cell h.lt hA
  exact ⟨(q _).trans h.c0, (q _).trans h.c1, (q _).trans h.c2, (q _).trans h.c3, (q _).trans h.c4, (q _).trans h.c5, Nat.lt_of_lt_of_le h.lt s.size⟩

theorem c6_block {w : World} {g : Nat} {x : I6} (h : w.heap[g]? = some (.cells #[.int .i64 x.k, .int .i64 x.f, .int .i64 x.l, .int .i64 x.a, .int .i64 x.t, .int .i64 x.c] 27 (0, 0))) : C6 w g 0 x := by
  refine ⟨?_, ?_, ?_, ?_, ?_, ?_, lt_blk h⟩ <;> simp [World.cell?, h]

theorem Ls.cases {w : World} {base : Nat} {v : Value} {L : List I6} (h : Ls w base v L) : (v = .slice none 0 0 ∧ L = []) ∨ ∃ g cap, v = .slice (some ⟨g, 0, none⟩) L.length cap ∧ base ≤ g ∧ g < w.heap.size ∧ (∀ j, w.frozen? ⟨g, j, none⟩ = false) ∧ ∀ i, i < L.length → C6 w g (i * 6) (at6 L i) := by
  rcases h.row.2 with ⟨hv, hn⟩ | ⟨g, cap, cur, rfl, hb, hg, r⟩
  · exact .inl ⟨hv, List.length_eq_zero_iff.1 hn⟩
  · refine .inr ⟨g, cap, rfl, hb, lt_blk hg, fun j => h.row.frozenAt j, fun i hi => ?_⟩
    obtain ⟨q0, q1, q2, q3, q4, q5⟩ := flat6_get L i hi
    exact ⟨by rw [h.row.cellAt (i * 6) (by omega)]; exact q0, by rw [h.row.cellAt (i * 6 + 1) (by omega)]; exact q1, by rw [h.row.cellAt (i * 6 + 2) (by omega)]; exact q2, by rw [h.row.cellAt (i * 6 + 3) (by omega)]; exact q3, by rw [h.row.cellAt (i * 6 + 4) (by omega)]; exact q4, by rw [h.row.cellAt (i * 6 + 5) (by omega)]; exact q5, lt_blk hg⟩

theorem Ls.pos {w : World} {base : Nat} {v : Value} {L : List I6} (h : Ls w base v L) (hp : 0 < L.length) : ∃ g cap, v = .slice (some ⟨g, 0, none⟩) L.length cap ∧ base ≤ g ∧ g < w.heap.size ∧ (∀ j, w.frozen? ⟨g, j, none⟩ = false) ∧ ∀ i, i < L.length → C6 w g (i * 6) (at6 L i) := by
  rcases h.cases with ⟨_, rfl⟩ | q
  · simp at hp
  · exact q

theorem ls_nil (w : World) (base : Nat) : Ls w base (.slice none 0 0) [] := ⟨World.ownsRow_nil _ _ _ _, by simp⟩
theorem Ls.kept {A : Nat → Prop} {w w' : World} {base : Nat} {v : Value} {L : List I6} (h : Ls w base v L) (hs : Step A w w') (hA : ∀ k, v.ownBlock = some k → ¬ A k) : Ls w' base v L := ⟨row_kept hs h.row hA, h.len⟩
theorem Ls.kp {w w' : World} {base : Nat} {v : Value} {L : List I6} (h : Ls w base v L) (hs : Kp w w') : Ls w' base v L := h.kept hs (fun _ _ q => q)
theorem Ls.low {w : World} {base base' : Nat} {v : Value} {L : List I6} (h : Ls w base v L) (hb : base' ≤ base) : Ls w base' v L := ⟨row_low h.row hb, h.len⟩

/-- one interval of a row is stored anew -/
theorem Ls.set {w : World} {base g cap i : Nat} {L : List I6} (h : Ls w base (.slice (some ⟨g, 0, none⟩) L.length cap) L) (hi : i < L.length) (x : I6) :
    Ls ((((((w.setCell ⟨g, i * 6, none⟩ (.int .i64 x.k)).setCell ⟨g, i * 6 + 1, none⟩ (.int .i64 x.f)).setCell ⟨g, i * 6 + 2, none⟩ (.int .i64 x.l)).setCell ⟨g, i * 6 + 3, none⟩ (.int .i64 x.a)).setCell ⟨g, i * 6 + 4, none⟩ (.int .i64 x.t)).setCell ⟨g, i * 6 + 5, none⟩ (.int .i64 x.c)) base (.slice (some ⟨g, 0, none⟩) L.length cap) (L.set i x) := by
  have s1 := (h.row.stored (i * 6) (.int .i64 x.k)).1
  have s2 := (s1.stored (i * 6 + 1) (.int .i64 x.f)).1
  have s3 := (s2.stored (i * 6 + 2) (.int .i64 x.l)).1
  have s4 := (s3.stored (i * 6 + 3) (.int .i64 x.a)).1
  have s5 := (s4.stored (i * 6 + 4) (.int .i64 x.t)).1
  have s6 := (s5.stored (i * 6 + 5) (.int .i64 x.c)).1
  rw [flat6_set L i x hi] at s6
  exact ⟨by rw [List.length_set]; exact s6, by rw [List.length_set]; exact h.len⟩

theorem Ls.setLen {w : World} {base g cap i : Nat} {L : List I6} (h : Ls w base (.slice (some ⟨g, 0, none⟩) L.length cap) L) (hi : i < L.length) (y : Int) :
    Ls (w.setCell ⟨g, i * 6 + 2, none⟩ (.int .i64 y)) base (.slice (some ⟨g, 0, none⟩) L.length cap) (L.set i { at6 L i with l := y }) := by
  have s := (h.row.stored (i * 6 + 2) (.int .i64 y)).1
  rw [flat6_set_len L i y hi] at s
  exact ⟨by rw [List.length_set]; exact s, by rw [List.length_set]; exact h.len⟩

theorem Ls.setBoth {w : World} {base g cap i : Nat} {L : List I6} (h : Ls w base (.slice (some ⟨g, 0, none⟩) L.length cap) L) (hi : i < L.length) (y z : Int) :
    Ls ((w.setCell ⟨g, i * 6 + 2, none⟩ (.int .i64 y)).setCell ⟨g, i * 6 + 5, none⟩ (.int .i64 z)) base (.slice (some ⟨g, 0, none⟩) L.length cap) (L.set i { at6 L i with l := y, c := z }) := by
  have s := (h.row.stored (i * 6 + 2) (.int .i64 y)).1
  have s2 := (s.stored (i * 6 + 5) (.int .i64 z)).1
  rw [flat6_set_len L i y hi, flat6_set_cyc _ i z (by simpa using hi), at6_set_same hi, List.set_set] at s2
  exact ⟨by rw [List.length_set]; exact s2, by rw [List.length_set]; exact h.len⟩

/-- a list that came in: its intervals, in every world to come -/
def ivOf (r : List Int) : I6 := ⟨r.getD 0 0, r.getD 1 0, r.getD 2 0, r.getD 3 0, r.getD 4 0, r.getD 5 0⟩

theorem rec_c6 {w : World} {ao : Option Addr} {len : Nat} {rows : List (List Int)} {k : Nat} (h : RecAt w 6 ao len rows) (hk : k < len) :
    ∃ b off, ao = some ⟨b, off, none⟩ ∧ b < w.heap.size ∧ ∀ W', Kp w W' → C6 W' b (off + k * 6) (at6 (rows.map ivOf) k) := by
  rcases h.2.2 with h0 | ⟨b, off, e, hb, hc⟩
  · omega
  · have hl : k < rows.length := by rw [h.1]; exact hk
    have ea : at6 (rows.map ivOf) k = ivOf (rows.getD k []) := by simp [at6, hl]
    refine ⟨b, off, e, hb, fun W' kp => ?_⟩
    have q : ∀ j, W'.cell? ⟨b, j, none⟩ = w.cell? ⟨b, j, none⟩ := fun j => kp.cell hb (fun q => q)
    rw [ea]
    exact ⟨(q _).trans (hc k 0 hk (by omega)), (q _).trans (hc k 1 hk (by omega)), (q _).trans (hc k 2 hk (by omega)), (q _).trans (hc k 3 hk (by omega)), (q _).trans (hc k 4 hk (by omega)), (q _).trans (hc k 5 hk (by omega)), Nat.lt_of_lt_of_le hb kp.size⟩

end Go.Proofs.Ytbgpojhdkmhcbaa.TC
