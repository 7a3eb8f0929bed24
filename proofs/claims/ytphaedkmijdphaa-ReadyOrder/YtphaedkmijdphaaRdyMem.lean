/- A row of jobs in memory: what it has, what is appended and stored; a block with one job; what a step keeps. -/
import Derived.Test.YtphaedkmijdphaaRdyPlain
import Derived.Test.YtphaedkmijdphaaMem
import Derived.Test.YtphaedkmijdphaaArgs
import Derived.Laws.CopyOwn
import Derived.OwnWalk
import Derived.Maps.AppendAt
import Derived.Deep.AppendLies
import Derived.BigRegion
import Derived.BigQuiet
import Derived.StillTailTactics
import Derived.Deep.LoopGhost
import Derived.Deep.RegionHeld3
namespace Go.Proofs.Ytphaedkmijdphaa.HM
open Go.RowKit

theorem Step.drewN {A : Nat → Prop} {a b : World} (h : Step A a b) (n : Nat) : Step A a (b.drewN n) := ⟨h.os, h.tape, h.output, h.size, h.block⟩
/-- a store into a block that is new -/
theorem Step.setNew {A : Nat → Prop} {a b : World} (h : Step A a b) {p : Addr} (hp : a.heap.size ≤ p.block) (u : Value) : Step A a (b.setCell p u) :=
  ⟨h.os, h.tape, h.output, by simpa [World.setCell] using h.size, fun k hk hA => (Below.heap_setCell _ _ _ _ (by omega)).trans (h.block k hk hA)⟩
theorem Step.cell {A : Nat → Prop} {a b : World} (h : Step A a b) {p : Addr} (hp : p.block < a.heap.size) (hA : ¬ A p.block) : b.cell? p = a.cell? p := World.cell?_of_block (h.block _ hp hA)
theorem Step.frz {A : Nat → Prop} {a b : World} (h : Step A a b) {p : Addr} (hp : p.block < a.heap.size) (hA : ¬ A p.block) : b.frozen? p = a.frozen? p := by unfold World.frozen?; rw [h.block _ hp hA]
/-- behind a step that touches new blocks alone -/
theorem Step.trans_new {A : Nat → Prop} {a b c : World} (h : Step (fun _ => False) a b) (k : Step A b c) (hA : ∀ i, i < a.heap.size → ¬ A i) : Step (fun _ => False) a c :=
  ⟨k.os.trans h.os, k.tape.trans h.tape, k.output.trans h.output, Nat.le_trans h.size k.size, fun i hi _ => (k.block i (Nat.lt_of_lt_of_le hi h.size) (hA i hi)).trans (h.block i hi (fun q => q))⟩

end Go.Proofs.Ytphaedkmijdphaa.HM
namespace Go.Proofs.Ytphaedkmijdphaa.RD
open Go.ChangeShapes Go.WideShapes Go.ChangeAt Go.RowKit Go.Proofs.Ytphaedkmijdphaa.AR Go.Proofs.Ytphaedkmijdphaa.HP Go.Proofs.Ytphaedkmijdphaa.HM

/-- all that was there is as it was -/
abbrev Kp (w w' : World) : Prop := Step (fun _ => False) w w'
theorem Kp.any {A : Nat → Prop} {a b : World} (h : Kp a b) : Step A a b := Step.mono h (fun _ _ q => q.elim)
theorem Kp.bel {a b : World} (h : Kp a b) : Below a.heap.size a b := ⟨h.os, h.tape, h.output, h.size, fun k hk => h.block k hk (fun q => q)⟩
theorem Kp.grown {a b c : World} (h : Kp a b) (hg : b.grownBy c none) : Kp a c := Step.grown h hg (fun _ q => by simp at q)

theorem row_low {w : World} {base base' : Nat} {e : TypeId} {size : Nat} {v : Value} {n : Nat} {xs : List Value} (h : w.ownsRow base e size v n xs) (hb : base' ≤ base) : w.ownsRow base' e size v n xs := by
  refine ⟨h.1, ?_⟩
  rcases h.2 with q | ⟨g, cap, cur, rfl, hg, r⟩
  · exact .inl q
  · exact .inr ⟨g, cap, cur, rfl, Nat.le_trans hb hg, r⟩

theorem jb_info : (Try.prog.info? 27).map (fun i => (i.zero, i.size, i.bytes)) = some (some (.agg #[.int .i64 0, .int .i64 0, .int .i64 0, .int .i64 0, .int .i64 0, .bool false]), 6, 48) := by kernel_rfl

theorem lt_blk {w : World} {b : Nat} {o : Obj} (h : w.heap[b]? = some o) : b < w.heap.size := (Array.getElem?_eq_some_iff.1 h).1
theorem alloc_at (w : World) (o : Obj) : (w.alloc o).heap[w.heap.size]? = some o := by unfold World.alloc; exact Array.getElem?_push_size

/-- 'append' of one interval to a row that is the call's own -/
theorem wpList_append_six {P : Program} (w : World) {ops : Array Oper} {rest : List Oper} {o : Oper} {a : Act} {Q : Exit → Act → World → Prop} (hgd : o.guard = none) (s x : Operand) (t e : TypeId)
    (ho : o.op = .call { callee := .builtin .append, args := #[s, x], argTypes := #[t, t] }) (ht : P.underlying t = some (.slice e))
    (hinf : (P.info? e).map (fun i => (i.zero, i.size, i.bytes)) = some (some (.agg #[.int .i64 0, .int .i64 0, .int .i64 0, .int .i64 0, .int .i64 0, .bool false]), 6, 48))
    (base : Nat) (v : Value) (L : List Jb) (hs : a.eval s = v) (hown : w.ownsRow base e 6 v L.length (flatJ L))
    (b : Nat) (y : Jb) (hx : a.eval x = .slice (some ⟨b, 0, none⟩) 1 1) (hb : w.heap[b]? = some (.cells #[.int .i64 y.t, .int .i64 y.r, .int .i64 y.d, .int .i64 y.l, .int .i64 y.x, .bool y.s] e (0, 0)))
    (hlen : L.length + 1 ≤ 2932031007402) (hbase : base ≤ w.heap.size)
    (h : ∀ g cap w', w'.ownsRow base e 6 (.slice (some ⟨g, 0, none⟩) (L.length + 1) cap) (L.length + 1) (flatJ (L ++ [y])) → w.grownBy w' v.ownBlock → (v.ownBlock = some g ∨ g = w.heap.size) → wpList P ops Q rest (a.put o.dst (.slice (some ⟨g, 0, none⟩) (L.length + 1) cap)) w') :
    wpList P ops Q (o :: rest) a w := by
  obtain ⟨i0, hi, hz0, hz1, hz2⟩ := info_parts hinf
  refine wpList_append_own_at _ hgd s x t ho base e i0 _ 6 48 ht hi hz0 hz1 hz2 (by rfl) (by decide) v L.length (flatJ L) hs hown ⟨b, 0, none⟩ 1 1 [.int .i64 y.t, .int .i64 y.r, .int .i64 y.d, .int .i64 y.l, .int .i64 y.x, .bool y.s] hx (by rfl) ?_ ?_ (by unfold maxLen; omega) (by omega) hbase ?_
  · intro j u hj
    match j, hj with
    | 0, hj => simp at hj; subst hj; simp [Addr.add, World.cell?, hb]
    | 1, hj => simp at hj; subst hj; simp [Addr.add, World.cell?, hb]
    | 2, hj => simp at hj; subst hj; simp [Addr.add, World.cell?, hb]
    | 3, hj => simp at hj; subst hj; simp [Addr.add, World.cell?, hb]
    | 4, hj => simp at hj; subst hj; simp [Addr.add, World.cell?, hb]
    | 5, hj => simp at hj; subst hj; simp [Addr.add, World.cell?, hb]
  · intro u hu
    simp at hu
    rcases hu with rfl | rfl | rfl | rfl | rfl | rfl <;> rfl
  · intro v' w' ho' hg hnil hloc
    rcases ho'.2 with ⟨_, hz⟩ | ⟨g, cap, cur, rfl, hbg, hgg, r⟩
    · omega
    · refine h g cap w' ?_ hg ?_
      · rw [flatJ_append]; exact ho'
      · simp only [Value.ownBlock] at hloc
        rcases hloc with hloc | hloc
        · exact Or.inl hloc.symm
        · exact Or.inr (by simpa using hloc)

/-- the same at a step of a region that draws its order -/
theorem step_append_six {P : Program} (w : World) {ops : Array Oper} {o : Oper} {a : Act} {K : Act → World → Prop} {Q : Exit → Act → World → Prop} {E : Prop} (hgd : o.guard = none) (s x : Operand) (t e : TypeId)
    (ho : o.op = .call { callee := .builtin .append, args := #[s, x], argTypes := #[t, t] }) (ht : P.underlying t = some (.slice e))
    (hinf : (P.info? e).map (fun i => (i.zero, i.size, i.bytes)) = some (some (.agg #[.int .i64 0, .int .i64 0, .int .i64 0, .int .i64 0, .int .i64 0, .bool false]), 6, 48))
    (base : Nat) (v : Value) (L : List Jb) (hs : a.eval s = v) (hown : w.ownsRow base e 6 v L.length (flatJ L))
    (b : Nat) (y : Jb) (hx : a.eval x = .slice (some ⟨b, 0, none⟩) 1 1) (hb : w.heap[b]? = some (.cells #[.int .i64 y.t, .int .i64 y.r, .int .i64 y.d, .int .i64 y.l, .int .i64 y.x, .bool y.s] e (0, 0)))
    (hlen : L.length + 1 ≤ 2932031007402) (hbase : base ≤ w.heap.size)
    (h : ∀ g cap w', w'.ownsRow base e 6 (.slice (some ⟨g, 0, none⟩) (L.length + 1) cap) (L.length + 1) (flatJ (L ++ [y])) → w.grownBy w' v.ownBlock → (v.ownBlock = some g ∨ g = w.heap.size) → K (a.put o.dst (.slice (some ⟨g, 0, none⟩) (L.length + 1) cap)) w') :
    if Region.wanted o (yielded ops a.tmps) = true then Oper.wp P o a w K Q else E := by
  obtain ⟨i0, hi, hz0, hz1, hz2⟩ := info_parts hinf
  refine step_append_lies _ hgd s x t ho base e i0 _ 6 48 ht hi hz0 hz1 hz2 (by rfl) (by decide) v L.length (flatJ L) hs hown ⟨b, 0, none⟩ 1 1 [.int .i64 y.t, .int .i64 y.r, .int .i64 y.d, .int .i64 y.l, .int .i64 y.x, .bool y.s] hx (by rfl) ?_ ?_ (by omega) (by unfold maxLen; omega) (by omega) hbase w.heap.size rfl ?_
  · exact World.news_of_block hb
  · intro u hu
    simp at hu
    rcases hu with rfl | rfl | rfl | rfl | rfl | rfl <;> rfl
  · intro g cap w' ho' hg hloc _
    refine h g cap w' ?_ hg hloc
    rw [flatJ_append]; exact ho'

/-- the slice v has the intervals L; its row lies from base on -/
structure Ls (w : World) (base : Nat) (v : Value) (L : List Jb) : Prop where
  row : w.ownsRow base 27 6 v L.length (flatJ L)
  len : L.length ≤ 2932031007402

/-- an interval lies there -/
structure C6 (w : World) (g o : Nat) (x : Jb) : Prop where
  c0 : w.cell? ⟨g, o, none⟩ = some (.int .i64 x.t)
  c1 : w.cell? ⟨g, o + 1, none⟩ = some (.int .i64 x.r)
  c2 : w.cell? ⟨g, o + 2, none⟩ = some (.int .i64 x.d)
  c3 : w.cell? ⟨g, o + 3, none⟩ = some (.int .i64 x.l)
  c4 : w.cell? ⟨g, o + 4, none⟩ = some (.int .i64 x.x)
  c5 : w.cell? ⟨g, o + 5, none⟩ = some (.bool x.s)
  lt : g < w.heap.size

theorem C6.kept {A : Nat → Prop} {w w' : World} {g o : Nat} {x : Jb} (h : C6 w g o x) (s : Step A w w') (hA : ¬ A g) : C6 w' g o x := by
  have q : ∀ j, w'.cell? ⟨g, j, none⟩ = w.cell? ⟨g, j, none⟩ := fun j => s.cell h.lt hA
  exact ⟨(q _).trans h.c0, (q _).trans h.c1, (q _).trans h.c2, (q _).trans h.c3, (q _).trans h.c4, (q _).trans h.c5, Nat.lt_of_lt_of_le h.lt s.size⟩

theorem c6_block {w : World} {g : Nat} {x : Jb} (h : w.heap[g]? = some (.cells #[.int .i64 x.t, .int .i64 x.r, .int .i64 x.d, .int .i64 x.l, .int .i64 x.x, .bool x.s] 27 (0, 0))) : C6 w g 0 x := by
  refine ⟨?_, ?_, ?_, ?_, ?_, ?_, lt_blk h⟩ <;> simp [World.cell?, h]

theorem Ls.cases {w : World} {base : Nat} {v : Value} {L : List Jb} (h : Ls w base v L) : (v = .slice none 0 0 ∧ L = []) ∨ ∃ g cap, v = .slice (some ⟨g, 0, none⟩) L.length cap ∧ base ≤ g ∧ g < w.heap.size ∧ (∀ j, w.frozen? ⟨g, j, none⟩ = false) ∧ ∀ i, i < L.length → C6 w g (i * 6) (atJ L i) := by
  rcases h.row.2 with ⟨hv, hn⟩ | ⟨g, cap, cur, rfl, hb, hg, r⟩
  · exact .inl ⟨hv, List.length_eq_zero_iff.1 hn⟩
  · refine .inr ⟨g, cap, rfl, hb, lt_blk hg, fun j => h.row.frozenAt j, fun i hi => ?_⟩
    obtain ⟨q0, q1, q2, q3, q4, q5⟩ := flatJ_get L i hi
    exact ⟨by rw [h.row.cellAt (i * 6) (by omega)]; exact q0, by rw [h.row.cellAt (i * 6 + 1) (by omega)]; exact q1, by rw [h.row.cellAt (i * 6 + 2) (by omega)]; exact q2, by rw [h.row.cellAt (i * 6 + 3) (by omega)]; exact q3, by rw [h.row.cellAt (i * 6 + 4) (by omega)]; exact q4, by rw [h.row.cellAt (i * 6 + 5) (by omega)]; exact q5, lt_blk hg⟩

theorem Ls.pos {w : World} {base : Nat} {v : Value} {L : List Jb} (h : Ls w base v L) (hp : 0 < L.length) : ∃ g cap, v = .slice (some ⟨g, 0, none⟩) L.length cap ∧ base ≤ g ∧ g < w.heap.size ∧ (∀ j, w.frozen? ⟨g, j, none⟩ = false) ∧ ∀ i, i < L.length → C6 w g (i * 6) (atJ L i) := by
  rcases h.cases with ⟨_, rfl⟩ | q
  · simp at hp
  · exact q

theorem ls_nil (w : World) (base : Nat) : Ls w base (.slice none 0 0) [] := ⟨World.ownsRow_nil _ _ _ _, by simp⟩
theorem Ls.kept {A : Nat → Prop} {w w' : World} {base : Nat} {v : Value} {L : List Jb} (h : Ls w base v L) (hs : Step A w w') (hA : ∀ k, v.ownBlock = some k → ¬ A k) : Ls w' base v L := ⟨row_kept hs h.row hA, h.len⟩
theorem Ls.kp {w w' : World} {base : Nat} {v : Value} {L : List Jb} (h : Ls w base v L) (hs : Kp w w') : Ls w' base v L := h.kept hs (fun _ _ q => q)
theorem Ls.low {w : World} {base base' : Nat} {v : Value} {L : List Jb} (h : Ls w base v L) (hb : base' ≤ base) : Ls w base' v L := ⟨row_low h.row hb, h.len⟩

/-- one interval of a row is stored anew -/
theorem Ls.set {w : World} {base g cap i : Nat} {L : List Jb} (h : Ls w base (.slice (some ⟨g, 0, none⟩) L.length cap) L) (hi : i < L.length) (x : Jb) :
    Ls ((((((w.setCell ⟨g, i * 6, none⟩ (.int .i64 x.t)).setCell ⟨g, i * 6 + 1, none⟩ (.int .i64 x.r)).setCell ⟨g, i * 6 + 2, none⟩ (.int .i64 x.d)).setCell ⟨g, i * 6 + 3, none⟩ (.int .i64 x.l)).setCell ⟨g, i * 6 + 4, none⟩ (.int .i64 x.x)).setCell ⟨g, i * 6 + 5, none⟩ (.bool x.s)) base (.slice (some ⟨g, 0, none⟩) L.length cap) (L.set i x) := by
  have s1 := (h.row.stored (i * 6) (.int .i64 x.t)).1
  have s2 := (s1.stored (i * 6 + 1) (.int .i64 x.r)).1
  have s3 := (s2.stored (i * 6 + 2) (.int .i64 x.d)).1
  have s4 := (s3.stored (i * 6 + 3) (.int .i64 x.l)).1
  have s5 := (s4.stored (i * 6 + 4) (.int .i64 x.x)).1
  have s6 := (s5.stored (i * 6 + 5) (.bool x.s)).1
  rw [flatJ_set L i x hi] at s6
  exact ⟨by rw [List.length_set]; exact s6, by rw [List.length_set]; exact h.len⟩

theorem Ls.setLeft {w : World} {base g cap i : Nat} {L : List Jb} (h : Ls w base (.slice (some ⟨g, 0, none⟩) L.length cap) L) (hi : i < L.length) (y : Int) :
    Ls (w.setCell ⟨g, i * 6 + 3, none⟩ (.int .i64 y)) base (.slice (some ⟨g, 0, none⟩) L.length cap) (L.set i { atJ L i with l := y }) := by
  have s := (h.row.stored (i * 6 + 3) (.int .i64 y)).1
  rw [flatJ_set_left L i y hi] at s
  exact ⟨by rw [List.length_set]; exact s, by rw [List.length_set]; exact h.len⟩

/-- a block with a job -/
structure BJ (w : World) (g : Nat) (j : Jb) : Prop where
  blk : w.heap[g]? = some (.cells #[.int .i64 j.t, .int .i64 j.r, .int .i64 j.d, .int .i64 j.l, .int .i64 j.x, .bool j.s] 27 (0, 0))
theorem BJ.lt {w : World} {g : Nat} {j : Jb} (h : BJ w g j) : g < w.heap.size := (Array.getElem?_eq_some_iff.1 h.blk).1
theorem BJ.all {w : World} {g : Nat} {j : Jb} (h : BJ w g j) : w.cell? ⟨g, 0, none⟩ = some (.int .i64 j.t) ∧ w.cell? ⟨g, 1, none⟩ = some (.int .i64 j.r) ∧ w.cell? ⟨g, 2, none⟩ = some (.int .i64 j.d) ∧ w.cell? ⟨g, 3, none⟩ = some (.int .i64 j.l) ∧ w.cell? ⟨g, 4, none⟩ = some (.int .i64 j.x) ∧ w.cell? ⟨g, 5, none⟩ = some (.bool j.s) := by simp [World.cell?, h.blk]
theorem BJ.fr {w : World} {g : Nat} {j : Jb} (h : BJ w g j) (i : Nat) : w.frozen? ⟨g, i, none⟩ = false := by simp [World.frozen?, h.blk]
theorem BJ.kept {A : Nat → Prop} {w w' : World} {g : Nat} {j : Jb} (h : BJ w g j) (k : Step A w w') (hA : ¬ A g) : BJ w' g j := ⟨(k.block g h.lt hA).trans h.blk⟩
theorem BJ.kp {w w' : World} {g : Nat} {j : Jb} (h : BJ w g j) (k : Kp w w') : BJ w' g j := h.kept k (fun q => q)
theorem bj_new (w : World) (j : Jb) : BJ (w.alloc (.cells #[.int .i64 j.t, .int .i64 j.r, .int .i64 j.d, .int .i64 j.l, .int .i64 j.x, .bool j.s] 27)) w.heap.size j := ⟨alloc_at w _⟩

/-! ### '==' of two jobs that are the same -/

theorem jint_eq (d : Nat) (x : Int) (w : World) : (Op.equalIn (d + 1) 3 (.int .i64 x) (.int .i64 x)).run Try.prog w = .ok true w := by
  rw [run_equalIn_int w d 3 .i64 .i64 x x Try.underlying3]
  simp

theorem jbool_eq (d : Nat) (x : Bool) (w : World) : (Op.equalIn (d + 1) 4 (.bool x) (.bool x)).run Try.prog w = .ok true w := by
  rw [run_equalIn_bool w d 4 x x Try.underlying4]
  simp

theorem eqJ' (n : Nat) (j : Jb) (w : World) : (Op.equalIn (n + 1 + 1) 27 (.agg #[.int .i64 j.t, .int .i64 j.r, .int .i64 j.d, .int .i64 j.l, .int .i64 j.x, .bool j.s]) (.agg #[.int .i64 j.t, .int .i64 j.r, .int .i64 j.d, .int .i64 j.l, .int .i64 j.x, .bool j.s])).run Try.prog w = .ok true w := by
  have q : ∀ x w, (Op.equalIn (n + 1) 3 (.int .i64 x) (.int .i64 x)).run Try.prog w = .ok true w := fun x w => jint_eq n x w
  have qb : ∀ x w, (Op.equalIn (n + 1) 4 (.bool x) (.bool x)).run Try.prog w = .ok true w := fun x w => jbool_eq n x w
  rw [Op.equalIn]
  generalize hE : Op.equalIn (n + 1) = E at *
  simp only [Sem.run_bind, run_underlying Try.underlying27, Result.andThen_ok]
  simp [go_sem, part, q, qb]

theorem eqJ (j : Jb) (w : World) : (Op.equalIn 10000 27 (.agg #[.int .i64 j.t, .int .i64 j.r, .int .i64 j.d, .int .i64 j.l, .int .i64 j.x, .bool j.s]) (.agg #[.int .i64 j.t, .int .i64 j.r, .int .i64 j.d, .int .i64 j.l, .int .i64 j.x, .bool j.s])).run Try.prog w = .ok true w := eqJ' 9998 j w

end Go.Proofs.Ytphaedkmijdphaa.RD
