/- A row of what is held, in memory: what it has, what is appended, copied, stored, cut and cleared. -/
import Derived.Test.YtilafcplijgjjaaLckPlain
import Derived.Test.YtilafcplijgjjaaAw
import Derived.Test.YtilafcplijgjjaaArgs
import Derived.Laws.CopyOwn
import Derived.OwnWalk
import Derived.Maps.AppendAt
import Derived.Deep.AppendLies
import Derived.Deep.RegionLaw
import Derived.BigRegion
import Derived.BigQuiet
import Derived.StillTailTactics
import Derived.Deep.LoopGhost
import Derived.Deep.RegionHeld3
import Derived.Deep.CutRange
import Derived.Laws.OwnMore
namespace Go.Proofs.Ytilafcplijgjjaa.LK
open Go.ChangeShapes Go.WideShapes Go.ChangeAt Go.RowKit Go.Proofs.Ytilafcplijgjjaa.AR

/-- what was there is as it was, but for the blocks that A names -/
structure Step (A : Nat → Prop) (w w' : World) : Prop where
  os : w'.os = w.os
  tape : w'.tape = w.tape
  output : w'.output = w.output
  size : w.heap.size ≤ w'.heap.size
  block : ∀ k, k < w.heap.size → ¬ A k → w'.heap[k]? = w.heap[k]?

/-- all that was there is as it was -/
abbrev Kp (w w' : World) : Prop := Step (fun _ => False) w w'

theorem Step.refl (A : Nat → Prop) (w : World) : Step A w w := ⟨rfl, rfl, rfl, Nat.le_refl _, fun _ _ _ => rfl⟩
theorem Step.trans {A : Nat → Prop} {a b c : World} (h : Step A a b) (k : Step A b c) : Step A a c :=
  ⟨k.os.trans h.os, k.tape.trans h.tape, k.output.trans h.output, Nat.le_trans h.size k.size, fun i hi hA => (k.block i (Nat.lt_of_lt_of_le hi h.size) hA).trans (h.block i hi hA)⟩
theorem Step.mono {A B : Nat → Prop} {a b : World} (h : Step A a b) (hAB : ∀ k, k < a.heap.size → A k → B k) : Step B a b :=
  ⟨h.os, h.tape, h.output, h.size, fun i hi hB => h.block i hi (fun q => hB (hAB i hi q))⟩
theorem Step.drew {A : Nat → Prop} {a b : World} (h : Step A a b) : Step A a b.drew := ⟨h.os, h.tape, h.output, h.size, h.block⟩
theorem Step.drewN {A : Nat → Prop} {a b : World} (h : Step A a b) (n : Nat) : Step A a (b.drewN n) := ⟨h.os, h.tape, h.output, h.size, h.block⟩
theorem Step.alloc {A : Nat → Prop} {a b : World} (h : Step A a b) (o : Obj) : Step A a (b.alloc o) :=
  h.trans ⟨rfl, rfl, rfl, by simp, fun k hk _ => Below.heap_alloc _ _ _ hk⟩
theorem Step.setCell {A : Nat → Prop} {a b : World} (h : Step A a b) {p : Addr} (hp : A p.block) (u : Value) : Step A a (b.setCell p u) :=
  h.trans ⟨rfl, rfl, rfl, by simp [World.setCell], fun k _ hk => Below.heap_setCell _ _ _ _ (fun e => hk (e ▸ hp))⟩
/-- a store into a block that is new -/
theorem Step.setNew {A : Nat → Prop} {a b : World} (h : Step A a b) {p : Addr} (hp : a.heap.size ≤ p.block) (u : Value) : Step A a (b.setCell p u) :=
  ⟨h.os, h.tape, h.output, by simpa [World.setCell] using h.size, fun k hk hA => (Below.heap_setCell _ _ _ _ (by omega)).trans (h.block k hk hA)⟩
theorem Step.grown {A : Nat → Prop} {a b c : World} {row : Option Nat} (h : Step A a b) (hg : b.grownBy c row) (hr : ∀ k, row = some k → A k) : Step A a c :=
  h.trans ⟨hg.os, hg.tape, hg.output, hg.size, fun k hk hA => hg.block k hk (fun e => hA (hr k e.symm))⟩
theorem Step.cell {A : Nat → Prop} {a b : World} (h : Step A a b) {p : Addr} (hp : p.block < a.heap.size) (hA : ¬ A p.block) : b.cell? p = a.cell? p := World.cell?_of_block (h.block _ hp hA)
theorem Step.frz {A : Nat → Prop} {a b : World} (h : Step A a b) {p : Addr} (hp : p.block < a.heap.size) (hA : ¬ A p.block) : b.frozen? p = a.frozen? p := by unfold World.frozen?; rw [h.block _ hp hA]
/-- behind a step that touches new blocks alone -/
theorem Step.trans_new {A : Nat → Prop} {a b c : World} (h : Kp a b) (k : Step A b c) (hA : ∀ i, i < a.heap.size → ¬ A i) : Kp a c :=
  ⟨k.os.trans h.os, k.tape.trans h.tape, k.output.trans h.output, Nat.le_trans h.size k.size, fun i hi hF => (k.block i (Nat.lt_of_lt_of_le hi h.size) (hA i hi)).trans (h.block i hi hF)⟩
/-- two steps, each with blocks of its own -/
theorem Step.both {A B C : Nat → Prop} {a b c : World} (h : Step A a b) (k : Step B b c) (hA : ∀ i, i < a.heap.size → A i → C i) (hB : ∀ i, i < a.heap.size → B i → C i) : Step C a c :=
  ⟨k.os.trans h.os, k.tape.trans h.tape, k.output.trans h.output, Nat.le_trans h.size k.size, fun i hi hC => (k.block i (Nat.lt_of_lt_of_le hi h.size) (fun q => hC (hB i hi q))).trans (h.block i hi (fun q => hC (hA i hi q)))⟩
theorem Kp.below {a b : World} (h : Kp a b) : Below a.heap.size a b := ⟨h.os, h.tape, h.output, h.size, fun k hk => h.block k hk (fun q => q)⟩
theorem Kp.tb {a b : World} (h : Kp a b) : TB.Kp a b := h.below
theorem kp_of_tb {a b : World} (h : TB.Kp a b) : Kp a b := ⟨h.os, h.tape, h.output, h.size, fun k hk _ => h.block k hk⟩
theorem Kp.any {A : Nat → Prop} {a b : World} (h : Kp a b) : Step A a b := h.mono (fun _ _ q => q.elim)

/-- a row that nobody has touched -/
theorem row_kept {A : Nat → Prop} {w w' : World} (h : Step A w w') {base : Nat} {e : TypeId} {size : Nat} {v : Value} {n : Nat} {xs : List Value} (ho : w.ownsRow base e size v n xs) (hA : ∀ k, v.ownBlock = some k → ¬ A k) : w'.ownsRow base e size v n xs := by
  refine ⟨ho.1, ?_⟩
  rcases ho.2 with hn | ⟨g, cap, cur, rfl, hb, hgg, rest⟩
  · exact .inl hn
  · exact .inr ⟨g, cap, cur, rfl, hb, by rw [h.block g (Array.getElem?_eq_some_iff.1 hgg).1 (hA g rfl)]; exact hgg, rest⟩

theorem row_low {w : World} {base base' : Nat} {e : TypeId} {size : Nat} {v : Value} {n : Nat} {xs : List Value} (h : w.ownsRow base e size v n xs) (hb : base' ≤ base) : w.ownsRow base' e size v n xs := by
  refine ⟨h.1, ?_⟩
  rcases h.2 with q | ⟨g, cap, cur, rfl, hg, r⟩
  · exact .inl q
  · exact .inr ⟨g, cap, cur, rfl, Nat.le_trans hb hg, r⟩

theorem hr_info : (Try.prog.info? 50).map (fun i => (i.zero, i.size, i.bytes)) = some (some (.agg #[.int .i64 0, .int .i64 0, .int .i64 0]), 3, 24) := by kernel_rfl

theorem lt_blk {w : World} {b : Nat} {o : Obj} (h : w.heap[b]? = some o) : b < w.heap.size := (Array.getElem?_eq_some_iff.1 h).1
theorem alloc_at (w : World) (o : Obj) : (w.alloc o).heap[w.heap.size]? = some o := by unfold World.alloc; exact Array.getElem?_push_size

/-- 'append' of one to a row that is the call's own -/
theorem wpList_append_three {P : Program} (w : World) {ops : Array Oper} {rest : List Oper} {o : Oper} {a : Act} {Q : Exit → Act → World → Prop} (hgd : o.guard = none) (s x : Operand) (t e : TypeId)
    (ho : o.op = .call { callee := .builtin .append, args := #[s, x], argTypes := #[t, t] }) (ht : P.underlying t = some (.slice e))
    (hinf : (P.info? e).map (fun i => (i.zero, i.size, i.bytes)) = some (some (.agg #[.int .i64 0, .int .i64 0, .int .i64 0]), 3, 24))
    (base : Nat) (v : Value) (L : List Hd) (hs : a.eval s = v) (hown : w.ownsRow base e 3 v L.length (flatH L))
    (b : Nat) (y : Hd) (hx : a.eval x = .slice (some ⟨b, 0, none⟩) 1 1) (hb : w.heap[b]? = some (.cells #[.int .i64 y.t, .int .i64 y.s, .int .i64 y.l] e (0, 0)))
    (hlen : L.length + 1 ≤ 5864062014805) (hbase : base ≤ w.heap.size)
    (h : ∀ g cap w', w'.ownsRow base e 3 (.slice (some ⟨g, 0, none⟩) (L.length + 1) cap) (L.length + 1) (flatH (L ++ [y])) → w.grownBy w' v.ownBlock → (v.ownBlock = some g ∨ g = w.heap.size) → wpList P ops Q rest (a.put o.dst (.slice (some ⟨g, 0, none⟩) (L.length + 1) cap)) w') :
    wpList P ops Q (o :: rest) a w := by
  obtain ⟨i0, hi, hz0, hz1, hz2⟩ := info_parts hinf
  refine wpList_append_own_at _ hgd s x t ho base e i0 _ 3 24 ht hi hz0 hz1 hz2 (by rfl) (by decide) v L.length (flatH L) hs hown ⟨b, 0, none⟩ 1 1 [.int .i64 y.t, .int .i64 y.s, .int .i64 y.l] hx (by rfl) ?_ ?_ (by unfold maxLen; omega) (by omega) hbase ?_
  · intro j u hj
    match j, hj with
    | 0, hj => simp at hj; subst hj; simp [Addr.add, World.cell?, hb]
    | 1, hj => simp at hj; subst hj; simp [Addr.add, World.cell?, hb]
    | 2, hj => simp at hj; subst hj; simp [Addr.add, World.cell?, hb]
  · intro u hu
    simp at hu
    rcases hu with rfl | rfl | rfl <;> rfl
  · intro v' w' ho' hg hnil hloc
    rcases ho'.2 with ⟨_, hz⟩ | ⟨g, cap, cur, rfl, hbg, hgg, r⟩
    · omega
    · refine h g cap w' ?_ hg ?_
      · rw [flatH_append]; exact ho'
      · simp only [Value.ownBlock] at hloc
        rcases hloc with hloc | hloc
        · exact Or.inl hloc.symm
        · exact Or.inr (by simpa using hloc)

/-- the same at a step of a region that draws its order -/
theorem step_append_three {P : Program} (w : World) {ops : Array Oper} {o : Oper} {a : Act} {K : Act → World → Prop} {Q : Exit → Act → World → Prop} {E : Prop} (hgd : o.guard = none) (s x : Operand) (t e : TypeId)
    (ho : o.op = .call { callee := .builtin .append, args := #[s, x], argTypes := #[t, t] }) (ht : P.underlying t = some (.slice e))
    (hinf : (P.info? e).map (fun i => (i.zero, i.size, i.bytes)) = some (some (.agg #[.int .i64 0, .int .i64 0, .int .i64 0]), 3, 24))
    (base : Nat) (v : Value) (L : List Hd) (hs : a.eval s = v) (hown : w.ownsRow base e 3 v L.length (flatH L))
    (b : Nat) (y : Hd) (hx : a.eval x = .slice (some ⟨b, 0, none⟩) 1 1) (hb : w.heap[b]? = some (.cells #[.int .i64 y.t, .int .i64 y.s, .int .i64 y.l] e (0, 0)))
    (hlen : L.length + 1 ≤ 5864062014805) (hbase : base ≤ w.heap.size)
    (h : ∀ g cap w', w'.ownsRow base e 3 (.slice (some ⟨g, 0, none⟩) (L.length + 1) cap) (L.length + 1) (flatH (L ++ [y])) → w.grownBy w' v.ownBlock → (v.ownBlock = some g ∨ g = w.heap.size) → K (a.put o.dst (.slice (some ⟨g, 0, none⟩) (L.length + 1) cap)) w') :
    if Region.wanted o (yielded ops a.tmps) = true then Oper.wp P o a w K Q else E := by
  obtain ⟨i0, hi, hz0, hz1, hz2⟩ := info_parts hinf
  refine step_append_lies _ hgd s x t ho base e i0 _ 3 24 ht hi hz0 hz1 hz2 (by rfl) (by decide) v L.length (flatH L) hs hown ⟨b, 0, none⟩ 1 1 [.int .i64 y.t, .int .i64 y.s, .int .i64 y.l] hx (by rfl) ?_ ?_ (by omega) (by unfold maxLen; omega) (by omega) hbase w.heap.size rfl ?_
  · exact World.news_of_block hb
  · intro u hu
    simp at hu
    rcases hu with rfl | rfl | rfl <;> rfl
  · intro g cap w' ho' hg hloc _
    refine h g cap w' ?_ hg hloc
    rw [flatH_append]; exact ho'

/-- 'append(s, x...)' of nothing -/
theorem run_append_nothing {P : Program} {w : World} (base : Nat) (t ty e : TypeId) (i : TypeInfo) (size : Nat) (ht : P.underlying t = some (.slice e)) (hi : P.info? e = some i)
    (v : Value) (n c : Nat) (xs : List Value) (hown : w.ownsRow base e size v n xs) :
    (Builtin.append_ #[t, t] ty #[v, .slice none 0 c]).run P w = .ok v w := by
  rcases hown.2 with ⟨rfl, rfl⟩ | ⟨g, cap, cur, rfl, _, _, hnc, _⟩
  · simp [Builtin.append_, run_underlying ht, sizeOf, typeInfo, hi, Builtin.lenOf, Builtin.firstCells]
  · simp [Builtin.append_, run_underlying ht, sizeOf, typeInfo, hi, Builtin.lenOf, Builtin.firstCells, hnc, storeCells]

/-- an append of whatever list to a row of the call's own, at a step of a region that draws its order -/
theorem step_append_any {P : Program} (w : World) {ops : Array Oper} {o : Oper} {a : Act} {K : Act → World → Prop} {Q : Exit → Act → World → Prop} {E : Prop} (hgd : o.guard = none) (s x : Operand) (t : TypeId)
    (ho : o.op = .call { callee := .builtin .append, args := #[s, x], argTypes := #[t, t] })
    (base : Nat) (e : TypeId) (i : TypeInfo) (z : Value) (size bytes : Nat) (ht : P.underlying t = some (.slice e)) (hi : P.info? e = some i) (hz : i.zero = some z)
    (hsize : i.size = size) (hby : i.bytes = bytes) (hzs : z.cells.size = size) (hsz : 0 < size)
    (g0 n c0 : Nat) (xs : List Value) (hs : a.eval s = .slice (some ⟨g0, 0, none⟩) n c0) (hown : w.ownsRow base e size (.slice (some ⟨g0, 0, none⟩) n c0) n xs)
    (ao : Option Addr) (m c : Nat) (news : List Value) (hx : a.eval x = .slice ao m c) (hl : news.length = m * size) (hn : ao = none → m = 0) (hnews : ∀ ad, ao = some ad → ∀ j u, news[j]? = some u → w.cell? (ad.add j) = some u) (h1 : ∀ u ∈ news, u.oneCell' = true)
    (h63 : n + m ≤ maxLen) (hbytes : (n + m) * bytes ≤ 140737488355328) (hbase : base ≤ w.heap.size)
    (h : ∀ g cap w', w'.ownsRow base e size (.slice (some ⟨g, 0, none⟩) (n + m) cap) (n + m) (xs ++ news) → w.grownBy w' (some g0) → K (a.put o.dst (.slice (some ⟨g, 0, none⟩) (n + m) cap)) w') :
    if Region.wanted o (yielded ops a.tmps) = true then Oper.wp P o a w K Q else E := by
  rw [if_pos (by simp [Region.wanted, hgd])]
  cases ao with
  | none =>
    obtain rfl : m = 0 := hn rfl
    have hnil : news = [] := List.eq_nil_of_length_eq_zero (by simpa using hl)
    subst hnil
    have hrun := run_append_nothing (P := P) (w := w) base t o.type e i size ht hi _ n c xs hown
    unfold Oper.wp execOp
    simp only [ho, resolve, invoke, builtin, Sem.run_bind, Sem.run_pure, Result.andThen_ok, List.map_toArray, List.map_cons, List.map_nil, hs, hx, hrun]
    have := h g0 c0 w (by simpa using hown) ⟨rfl, rfl, rfl, Nat.le_refl _, fun _ _ _ => rfl⟩
    have h' : K (a.put o.dst (.slice (some ⟨g0, 0, none⟩) n c0)) w := by simpa using this
    exact h'
  | some ad =>
    obtain ⟨v', w', hr, h2, h3, h4, h5⟩ := run_append_own_at (P := P) w base t o.type e i z size bytes ht hi hz hsize hby hzs hsz _ n xs hown ad m c news hl (hnews ad rfl) h1 h63 hbytes hbase
    unfold Oper.wp execOp
    simp only [ho, resolve, invoke, builtin, Sem.run_bind, Sem.run_pure, Result.andThen_ok, List.map_toArray, List.map_cons, List.map_nil, hs, hx, hr]
    rcases h2.2 with ⟨q, _⟩ | ⟨g, cap, cur, rfl, r⟩
    · have := (h4.1 q).1
      cases this
    · exact h g cap w' h2 h3

/-- an append where there is room: the row stays where it is -/
theorem step_append_room3 {P : Program} (w : World) {ops : Array Oper} {o : Oper} {a : Act} {K : Act → World → Prop} {Q : Exit → Act → World → Prop} {E : Prop} (hgd : o.guard = none) (s x : Operand) (t : TypeId)
    (ho : o.op = .call { callee := .builtin .append, args := #[s, x], argTypes := #[t, t] })
    (base : Nat) (e : TypeId) (i : TypeInfo) (size : Nat) (ht : P.underlying t = some (.slice e)) (hi : P.info? e = some i) (hsize : i.size = size)
    (g n c0 : Nat) (xs : List Value) (hs : a.eval s = .slice (some ⟨g, 0, none⟩) n c0) (hown : w.ownsRow base e size (.slice (some ⟨g, 0, none⟩) n c0) n xs)
    (ad : Addr) (m c : Nat) (news : List Value) (hx : a.eval x = .slice (some ad) m c) (hl : news.length = m * size) (hnews : ∀ j u, news[j]? = some u → w.cell? (ad.add j) = some u) (h1 : ∀ u ∈ news, u.oneCell' = true)
    (hroom : n + m ≤ c0)
    (h : ∀ w', w'.ownsRow base e size (.slice (some ⟨g, 0, none⟩) (n + m) c0) (n + m) (xs ++ news) → Step (fun k => k = g) w w' → K (a.put o.dst (.slice (some ⟨g, 0, none⟩) (n + m) c0)) w') :
    if Region.wanted o (yielded ops a.tmps) = true then Oper.wp P o a w K Q else E := by
  subst hsize
  rw [if_pos (by simp [Region.wanted, hgd])]
  rcases hown.2 with ⟨q, _⟩ | ⟨g', cap', cur, q, hb, hg, hnc, hcm, hcs, htake⟩
  · simp at q
  simp only [Value.slice.injEq, Option.some.injEq, Addr.mk.injEq, and_true, true_and] at q
  obtain ⟨rfl, rfl⟩ := q
  have hfit : n * i.size + news.length ≤ cur.size := by rw [hl, hcs, ← Nat.add_mul]; exact Nat.mul_le_mul_right _ hroom
  have hrun := run_append_room (P := P) w t o.type e i ht hi g n c0 cur hg ad m c news hl hnews h1 hroom hfit
  have hlen : (xs ++ news).length = (n + m) * i.size := by rw [List.length_append, hown.1, hl, Nat.add_mul]
  unfold Oper.wp execOp
  simp only [ho, resolve, invoke, builtin, Sem.run_bind, Sem.run_pure, Result.andThen_ok, List.map_toArray, List.map_cons, List.map_nil, hs, hx, hrun]
  refine h _ ⟨hlen, .inr ⟨g, c0, _, rfl, hb, setRow_heap w g cur _ e _ hg, hroom, hcm, ?_, ?_⟩⟩ ⟨rfl, rfl, rfl, by simp [World.setRow], fun k _ hk => setRow_other w g k _ hk⟩
  · simp only [List.size_toArray, List.length_append, List.length_take, List.length_drop, Array.length_toList]
    omega
  · rw [htake, ← hlen]
    exact List.take_left

/-- 'clear' behind the end of a row: what stands ahead of it stays -/
theorem run_clear_end {P : Program} (w : World) (t e ty : TypeId) (z : Value) (size : Nat) (ht : P.underlying t = some (.slice e)) (hv : ∀ w, (zeroValue e).run P w = .ok z w) (hzs : z.cells.size = size) (hz1 : ∀ v ∈ z.cells, v.oneCell' = true)
    (base g n m cap c : Nat) (xs : List Value) (hown : w.ownsRow base e size (.slice (some ⟨g, 0, none⟩) n cap) n xs) (hroom : n + m ≤ cap) :
    ∃ w', (Builtin.clear_ #[t] ty #[.slice (some ⟨g, n * size, none⟩) m c]).run P w = .ok (.tuple #[]) w' ∧ w'.ownsRow base e size (.slice (some ⟨g, 0, none⟩) n cap) n xs ∧ Step (fun k => k = g) w w' := by
  rcases hown.2 with ⟨q, _⟩ | ⟨g', cap', cur, q, hb, hg, hnc, hcm, hcs, htake⟩
  · simp at q
  simp only [Value.slice.injEq, Option.some.injEq, Addr.mk.injEq, and_true, true_and] at q
  obtain ⟨rfl, rfl⟩ := q
  by_cases hm : m = 0
  · subst hm
    refine ⟨w, ?_, hown, Step.refl _ _⟩
    simp [Builtin.clear_, run_underlying ht]
  · obtain ⟨m', rfl⟩ : ∃ m', m = m' + 1 := ⟨m - 1, by omega⟩
    have hcl : (Builtin.zeroCells z.cells (m' + 1)).toList.length = (m' + 1) * size := by simp [Builtin.zeroCells, hzs]
    have hone : ∀ v ∈ (Builtin.zeroCells z.cells (m' + 1)).toList, v.oneCell' = true := by
      intro v hv'
      by_cases hz0 : z.cells.size = 0
      · have : (Builtin.zeroCells z.cells (m' + 1)).toList.length = 0 := by rw [hcl, ← hzs, hz0]; simp
        rw [List.eq_nil_of_length_eq_zero this] at hv'
        simp at hv'
      · simp only [Builtin.zeroCells, Array.mem_toList_iff, Array.mem_map] at hv'
        obtain ⟨i, _, rfl⟩ := hv'
        have : i % z.cells.size < z.cells.size := Nat.mod_lt _ (by omega)
        rw [getElem!_pos z.cells _ this]
        exact hz1 _ (Array.getElem_mem this)
    have hfit : n * size + 0 + (Builtin.zeroCells z.cells (m' + 1)).toList.length ≤ cur.size := by
      rw [hcl, hcs, Nat.add_zero, ← Nat.add_mul]
      exact Nat.mul_le_mul_right _ hroom
    have hst := run_storeCells_at P g (n * size) e (Builtin.zeroCells z.cells (m' + 1)).toList 0 cur w hg hfit hone
    simp only [Nat.add_zero] at hst
    generalize hcs' : List.take (n * size) cur.toList ++ (Builtin.zeroCells z.cells (m' + 1)).toList ++ List.drop (n * size + (Builtin.zeroCells z.cells (m' + 1)).toList.length) cur.toList = cells at hst
    have hrun : (Builtin.clear_ #[t] ty #[.slice (some ⟨g, n * size, none⟩) (m' + 1) c]).run P w = .ok (.tuple #[]) (w.setRow g cells.toArray) := by
      simp [Builtin.clear_, run_underlying ht, hv, hst]
    have hsz : cells.length = cap * size := by
      rw [← hcs']
      simp only [List.length_append, List.length_take, List.length_drop, Array.length_toList]
      rw [Array.length_toList] at hcl hfit
      omega
    refine ⟨w.setRow g cells.toArray, hrun, ⟨hown.1, .inr ⟨g, cap, cells.toArray, rfl, hb, setRow_heap w g cur _ e _ hg, hnc, hcm, by simpa using hsz, ?_⟩⟩, ⟨rfl, rfl, rfl, by simp [World.setRow], fun k _ hk => setRow_other w g k _ hk⟩⟩
    have hl2 : (cur.toList.take (n * size)).length = n * size := by rw [htake, hown.1]
    show cells.take (n * size) = _
    rw [← hcs', List.append_assoc, List.take_append_of_le_length (by rw [hl2]; exact Nat.le_refl _), List.take_of_length_le (by rw [hl2]; exact Nat.le_refl _), htake]

/-- 'copy' of a row's elements, of any size, over a row that is known whole -/
theorem run_copy_sized {P : Program} (w : World) (dT sT ty elem : TypeId) (g dLen dCap : Nat) (a : Addr) (sLen sCap size : Nat) (cur : Array Value) (t : TypeId) (cs : List Value)
    (hu : P.underlying dT = some (.slice elem)) (hs : (P.info? elem).map (·.size) = some size)
    (hg : w.heap[g]? = some (.cells cur t (0, 0))) (hm : sLen = dLen) (hn : cs.length = dLen * size)
    (hsrc : ∀ j v, cs[j]? = some v → w.cell? (a.add j) = some v) (hfit : cs.length ≤ cur.size) (h1 : ∀ v ∈ cs, v.oneCell' = true) :
    (Builtin.copy_ #[dT, sT] ty #[.slice (some ⟨g, 0, none⟩) dLen dCap, .slice (some a) sLen sCap]).run P w =
      .ok (goInt dLen) (w.setRow g (cs ++ cur.toList.drop cs.length).toArray) := by
  subst hm
  have hl := run_loadCells_list (P := P) w a cs hsrc
  have hst := run_storeCells_at P g 0 t cs 0 cur w hg (by simpa using hfit) h1
  cases hq : P.info? elem with
  | none => simp [hq] at hs
  | some i =>
    have hi : i.size = size := by simpa [hq] using hs
    rw [hn] at hl
    simp [Builtin.copy_, run_underlying hu, Builtin.lenOf, Builtin.firstCells, sizeOf, typeInfo, hq, hi, hl]
    simp at hst
    simp [hst, hn]

theorem wpList_copy_three {P : Program} (w : World) {ops : Array Oper} {rest : List Oper} {o : Oper} {a : Act} {Q : Exit → Act → World → Prop} (hgd : o.guard = none) (d s : Operand) (t e : TypeId)
    (ho : o.op = .call { callee := .builtin .copy, args := #[d, s], argTypes := #[t, t] }) (hu : P.underlying t = some (.slice e)) (hs3 : (P.info? e).map (·.size) = some 3)
    (base base' gd n : Nat) (v : Value) (L : List Hd) (zs : List Value) (hd : a.eval d = .slice (some ⟨gd, 0, none⟩) n n) (hs : a.eval s = v) (hL : L.length = n)
    (hdst : w.ownsRow base e 3 (.slice (some ⟨gd, 0, none⟩) n n) n zs) (hsrc : w.ownsRow base' e 3 v L.length (flatH L)) (hne : v.ownBlock ≠ some gd)
    (h : ∀ w', w'.ownsRow base e 3 (.slice (some ⟨gd, 0, none⟩) n n) n (flatH L) → Step (fun k => k = gd) w w' → wpList P ops Q rest (a.put o.dst (goInt n)) w') :
    wpList P ops Q (o :: rest) a w := by
  refine wpList_plain hgd fun K hK => ?_
  rcases hdst.2 with ⟨q, _⟩ | ⟨g', cap', cur, q, hb, hg, hnc, hcm, hcs, htake⟩
  · simp at q
  simp only [Value.slice.injEq, Option.some.injEq, Addr.mk.injEq, and_true, true_and] at q
  obtain ⟨rfl, rfl⟩ := q
  rcases hsrc.2 with ⟨rfl, hz⟩ | ⟨gs, cap, cur2, rfl, hb2, hg2, r⟩
  · obtain rfl : L = [] := List.length_eq_zero_iff.1 hz
    simp only [List.length_nil] at hL
    subst hL
    have hz : zs = [] := List.eq_nil_of_length_eq_zero (by simpa using hdst.1)
    subst hz
    have hrun := run_copy_nil (P := P) w t t o.type e ⟨gd, 0, none⟩ 0 0 hu (by rw [hs3]; rfl)
    unfold Oper.wp
    simp [execOp, ho, resolve, invoke, builtin, hd, hs, hrun, Result.andThen]
    exact hK _ _ (h w hdst (Step.refl _ _))
  · have hsl := hsrc.cells (g := gs) rfl
    have hfl := flatH_len L
    have hrun := run_copy_sized (P := P) w t t o.type e gd n n ⟨gs, 0, none⟩ L.length cap 3 cur e (flatH L) hu hs3 hg hL (by rw [hfl, hL]) hsl (by rw [hfl, hcs, hL]; exact Nat.le_refl _) (flatH_one L)
    unfold Oper.wp
    simp [execOp, ho, resolve, invoke, builtin, hd, hs, hrun, Result.andThen]
    refine hK _ _ (h _ ⟨by rw [hfl, hL], .inr ⟨gd, n, _, rfl, hb, setRow_heap w gd cur _ e _ hg, Nat.le_refl _, hcm, ?_, ?_⟩⟩ ⟨rfl, rfl, rfl, by simp [World.setRow], fun k _ hk => setRow_other w gd k _ hk⟩)
    · simp only [List.size_toArray, List.length_append, List.length_drop, Array.length_toList, hfl, hcs, hL]
      omega
    · rw [← hL, ← hfl]
      simp

/-- the slice v has L, of the type e; its row lies from base on -/
structure Ls (w : World) (e : TypeId) (base : Nat) (v : Value) (L : List Hd) : Prop where
  row : w.ownsRow base e 3 v L.length (flatH L)
  len : L.length ≤ 5864062014805

/-- one lies there -/
structure C3 (w : World) (g o : Nat) (x : Hd) : Prop where
  c0 : w.cell? ⟨g, o, none⟩ = some (.int .i64 x.t)
  c1 : w.cell? ⟨g, o + 1, none⟩ = some (.int .i64 x.s)
  c2 : w.cell? ⟨g, o + 2, none⟩ = some (.int .i64 x.l)
  lt : g < w.heap.size

theorem C3.kept {A : Nat → Prop} {w w' : World} {g o : Nat} {x : Hd} (h : C3 w g o x) (s : Step A w w') (hA : ¬ A g) : C3 w' g o x := by
  have q : ∀ j, w'.cell? ⟨g, j, none⟩ = w.cell? ⟨g, j, none⟩ := fun j => s.cell h.lt hA
  exact ⟨(q _).trans h.c0, (q _).trans h.c1, (q _).trans h.c2, Nat.lt_of_lt_of_le h.lt s.size⟩
theorem C3.kp {w w' : World} {g o : Nat} {x : Hd} (h : C3 w g o x) (s : Kp w w') : C3 w' g o x := h.kept s (fun q => q)

theorem Ls.cases {w : World} {e : TypeId} {base : Nat} {v : Value} {L : List Hd} (h : Ls w e base v L) : (v = .slice none 0 0 ∧ L = []) ∨ ∃ g cap, v = .slice (some ⟨g, 0, none⟩) L.length cap ∧ base ≤ g ∧ g < w.heap.size ∧ L.length ≤ cap ∧ cap ≤ maxLen ∧ (∀ j, w.frozen? ⟨g, j, none⟩ = false) ∧ ∀ i, i < L.length → C3 w g (i * 3) (atH L i) := by
  rcases h.row.2 with ⟨hv, hn⟩ | ⟨g, cap, cur, rfl, hb, hg, hnc, hcm, r⟩
  · exact .inl ⟨hv, List.length_eq_zero_iff.1 hn⟩
  · refine .inr ⟨g, cap, rfl, hb, lt_blk hg, hnc, hcm, fun j => h.row.frozenAt j, fun i hi => ?_⟩
    obtain ⟨q0, q1, q2⟩ := flatH_get L i hi
    exact ⟨by rw [h.row.cellAt (i * 3) (by omega)]; exact q0, by rw [h.row.cellAt (i * 3 + 1) (by omega)]; exact q1, by rw [h.row.cellAt (i * 3 + 2) (by omega)]; exact q2, lt_blk hg⟩

theorem Ls.pos {w : World} {e : TypeId} {base : Nat} {v : Value} {L : List Hd} (h : Ls w e base v L) (hp : 0 < L.length) : ∃ g cap, v = .slice (some ⟨g, 0, none⟩) L.length cap ∧ base ≤ g ∧ g < w.heap.size ∧ L.length ≤ cap ∧ cap ≤ maxLen ∧ (∀ j, w.frozen? ⟨g, j, none⟩ = false) ∧ ∀ i, i < L.length → C3 w g (i * 3) (atH L i) := by
  rcases h.cases with ⟨_, rfl⟩ | q
  · simp at hp
  · exact q

theorem Ls.form {w : World} {e : TypeId} {base : Nat} {v : Value} {L : List Hd} (h : Ls w e base v L) : ∃ ao cap, v = .slice ao L.length cap := by
  rcases h.cases with ⟨rfl, rfl⟩ | ⟨g, cap, rfl, _⟩
  · exact ⟨_, _, rfl⟩
  · exact ⟨_, _, rfl⟩

theorem ls_nil (w : World) (e : TypeId) (base : Nat) : Ls w e base (.slice none 0 0) [] := ⟨World.ownsRow_nil _ _ _ _, by simp⟩
theorem Ls.kept {A : Nat → Prop} {w w' : World} {e : TypeId} {base : Nat} {v : Value} {L : List Hd} (h : Ls w e base v L) (hs : Step A w w') (hA : ∀ k, v.ownBlock = some k → ¬ A k) : Ls w' e base v L := ⟨row_kept hs h.row hA, h.len⟩
theorem Ls.kp {w w' : World} {e : TypeId} {base : Nat} {v : Value} {L : List Hd} (h : Ls w e base v L) (hs : Kp w w') : Ls w' e base v L := h.kept hs (fun _ _ q => q)
theorem Ls.low {w : World} {e : TypeId} {base base' : Nat} {v : Value} {L : List Hd} (h : Ls w e base v L) (hb : base' ≤ base) : Ls w e base' v L := ⟨row_low h.row hb, h.len⟩
theorem Ls.own {w : World} {e : TypeId} {base : Nat} {v : Value} {L : List Hd} (h : Ls w e base v L) : ∀ k, v.ownBlock = some k → base ≤ k ∧ k < w.heap.size := fun k hk => h.row.lt k hk

/-- one of a row is stored anew -/
theorem Ls.set {w : World} {e : TypeId} {base g cap i : Nat} {L : List Hd} (h : Ls w e base (.slice (some ⟨g, 0, none⟩) L.length cap) L) (hi : i < L.length) (x : Hd) :
    Ls (((w.setCell ⟨g, i * 3, none⟩ (.int .i64 x.t)).setCell ⟨g, i * 3 + 1, none⟩ (.int .i64 x.s)).setCell ⟨g, i * 3 + 2, none⟩ (.int .i64 x.l)) e base (.slice (some ⟨g, 0, none⟩) L.length cap) (L.set i x) := by
  have s1 := (h.row.stored (i * 3) (.int .i64 x.t)).1
  have s2 := (s1.stored (i * 3 + 1) (.int .i64 x.s)).1
  have s3 := (s2.stored (i * 3 + 2) (.int .i64 x.l)).1
  rw [flatH_set L i x hi] at s3
  exact ⟨by rw [List.length_set]; exact s3, by rw [List.length_set]; exact h.len⟩

theorem Ls.setLeft {w : World} {e : TypeId} {base g cap i : Nat} {L : List Hd} (h : Ls w e base (.slice (some ⟨g, 0, none⟩) L.length cap) L) (hi : i < L.length) (y : Int) :
    Ls (w.setCell ⟨g, i * 3 + 2, none⟩ (.int .i64 y)) e base (.slice (some ⟨g, 0, none⟩) L.length cap) (L.set i { atH L i with l := y }) := by
  have s := (h.row.stored (i * 3 + 2) (.int .i64 y)).1
  rw [flatH_set_left L i y hi] at s
  exact ⟨by rw [List.length_set]; exact s, by rw [List.length_set]; exact h.len⟩

/-- the beginning of a row -/
theorem Ls.upto {w : World} {e : TypeId} {base g n cap : Nat} {L : List Hd} (h : Ls w e base (.slice (some ⟨g, 0, none⟩) L.length cap) L) (hn : n ≤ L.length) : Ls w e base (.slice (some ⟨g, 0, none⟩) n cap) (L.take n) := by
  have hl : (L.take n).length = n := by rw [List.length_take]; omega
  refine ⟨⟨by rw [flatH_len], ?_⟩, by rw [hl]; have := h.len; omega⟩
  rcases h.row.2 with ⟨q, _⟩ | ⟨g', cap', cur, q, hb, hg, hnc, hcm, hcs, htake⟩
  · simp at q
  simp only [Value.slice.injEq, Option.some.injEq, Addr.mk.injEq, and_true, true_and] at q
  obtain ⟨rfl, rfl⟩ := q
  refine .inr ⟨g, cap, cur, by rw [hl], hb, hg, by omega, hcm, hcs, ?_⟩
  rw [hl, ← flatH_take, ← htake, List.take_take, Nat.min_eq_left (Nat.mul_le_mul_right _ hn)]

/-- a block with one -/
structure B3 (w : World) (g : Nat) (h : Hd) (e : TypeId) : Prop where
  blk : w.heap[g]? = some (.cells #[.int .i64 h.t, .int .i64 h.s, .int .i64 h.l] e (0, 0))
theorem B3.lt {w : World} {g : Nat} {h : Hd} {e : TypeId} (b : B3 w g h e) : g < w.heap.size := lt_blk b.blk
theorem B3.c3 {w : World} {g : Nat} {h : Hd} {e : TypeId} (b : B3 w g h e) : C3 w g 0 h := by
  refine ⟨?_, ?_, ?_, b.lt⟩ <;> simp [World.cell?, b.blk]
theorem B3.fr {w : World} {g : Nat} {h : Hd} {e : TypeId} (b : B3 w g h e) (i : Nat) : w.frozen? ⟨g, i, none⟩ = false := by simp [World.frozen?, b.blk]
theorem B3.kept {A : Nat → Prop} {w w' : World} {g : Nat} {h : Hd} {e : TypeId} (b : B3 w g h e) (k : Step A w w') (hA : ¬ A g) : B3 w' g h e := ⟨(k.block g b.lt hA).trans b.blk⟩
theorem B3.kp {w w' : World} {g : Nat} {h : Hd} {e : TypeId} (b : B3 w g h e) (k : Kp w w') : B3 w' g h e := b.kept k (fun q => q)
theorem b3_new (w : World) (h : Hd) (e : TypeId) : B3 (w.alloc (.cells #[.int .i64 h.t, .int .i64 h.s, .int .i64 h.l] e)) w.heap.size h e := ⟨alloc_at w _⟩

/-- a list that lies there (its own or not) -/
structure HsAt (w : World) (ao : Option Addr) (len : Nat) (L : List Hd) : Prop where
  ln : L.length = len
  row : len = 0 ∨ ∃ b off, ao = some ⟨b, off, none⟩ ∧ b < w.heap.size ∧ ∀ i, i < len → C3 w b (off + i * 3) (atH L i)

theorem HsAt.kept {A : Nat → Prop} {w wr : World} {ao : Option Addr} {len : Nat} {L : List Hd} (h : HsAt w ao len L) (k : Step A w wr) (hA : ∀ a, ao = some a → ¬ A a.block) : HsAt wr ao len L := by
  refine ⟨h.ln, ?_⟩
  rcases h.row with h0 | ⟨b, off, e, hlt, hc⟩
  · exact .inl h0
  · exact .inr ⟨b, off, e, Nat.lt_of_lt_of_le hlt k.size, fun i hi => (hc i hi).kept k (hA _ e)⟩
theorem HsAt.kp {w wr : World} {ao : Option Addr} {len : Nat} {L : List Hd} (h : HsAt w ao len L) (k : Kp w wr) : HsAt wr ao len L := h.kept k (fun _ _ q => q)

theorem HsAt.one {w : World} {ao : Option Addr} {len : Nat} {L : List Hd} (h : HsAt w ao len L) {k : Nat} (hk : k < len) :
    ∃ b off, ao = some ⟨b, off, none⟩ ∧ b < w.heap.size ∧ C3 w b (off + k * 3) (atH L k) := by
  rcases h.row with h0 | ⟨b, off, e, hlt, hc⟩
  · omega
  · exact ⟨b, off, e, hlt, hc k hk⟩

theorem Ls.lies {w : World} {e : TypeId} {base : Nat} {v : Value} {L : List Hd} (h : Ls w e base v L) : ∃ ao cap, v = .slice ao L.length cap ∧ HsAt w ao L.length L := by
  rcases h.cases with ⟨rfl, rfl⟩ | ⟨g, cap, rfl, _, hg, _, _, _, hc⟩
  · exact ⟨_, _, rfl, rfl, .inl rfl⟩
  · exact ⟨_, _, rfl, rfl, .inr ⟨g, 0, rfl, hg, fun i hi => by rw [Nat.zero_add]; exact hc i hi⟩⟩

end Go.Proofs.Ytilafcplijgjjaa.LK
