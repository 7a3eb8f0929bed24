/- Three lists of numbers that grow side by side, each in memory of its own. -/
import Derived.Test.YtgecandbbmljbabAdmPlain
namespace Go.Proofs.Ytgecandbbmljbab.AD
open Go.ChangeShapes Go.WideShapes Go.ChangeAt Go.RowKit Go.Proofs.Ytgecandbbmljbab.AR Go.Proofs.Ytgecandbbmljbab.TB Go.Proofs.Ytgecandbbmljbab.TK Go.Proofs.Ytgecandbbmljbab.FX

/-- not in one block -/
def Sep (v u : Value) : Prop := ∀ g, ¬ (v.ownBlock = some g ∧ u.ownBlock = some g)
theorem Sep.symm {v u : Value} (h : Sep v u) : Sep u v := fun g q => h g ⟨q.2, q.1⟩

/-- a list of the call's own -/
abbrev Rw (B : Nat) (w : World) (v : Value) (k : Nat) (X : List Int) : Prop := w.ownsRow B 3 1 v k (X.map (Value.int .i64))

theorem Rw.lt {B : Nat} {w : World} {v : Value} {k : Nat} {X : List Int} (h : Rw B w v k X) {g : Nat} (e : v.ownBlock = some g) : g < w.heap.size ∧ B ≤ g := by
  rcases h.2 with ⟨rfl, _⟩ | ⟨g', cap, cur, rfl, hb, hg, _⟩
  · cases e
  · cases e
    exact ⟨lt_blk hg, hb⟩

theorem Rw.stay {B : Nat} {w w' : World} {v u : Value} {k : Nat} {X : List Int} (h : Rw B w u k X) (hg : w.grownBy w' v.ownBlock) (hs : Sep v u) : Rw B w' u k X := by
  refine ⟨h.1, ?_⟩
  rcases h.2 with q | ⟨g, cap, cur, rfl, hb, hg', r⟩
  · exact .inl q
  · exact .inr ⟨g, cap, cur, rfl, hb, (hg.block g (lt_blk hg') (fun q => hs g ⟨q.symm, rfl⟩)).trans hg', r⟩

theorem Rw.alloc {B : Nat} {w : World} {u : Value} {k : Nat} {X : List Int} (h : Rw B w u k X) (o : Obj) : Rw B (w.alloc o) u k X := by
  refine ⟨h.1, ?_⟩
  rcases h.2 with q | ⟨g, cap, cur, rfl, hb, hg', r⟩
  · exact .inl q
  · exact .inr ⟨g, cap, cur, rfl, hb, kp_block hg' ((Kp.refl _).alloc _), r⟩

theorem Rw.kp {B : Nat} {w w' : World} {u : Value} {k : Nat} {X : List Int} (h : Rw B w u k X) (q : Kp w w') : Rw B w' u k X := by
  refine ⟨h.1, ?_⟩
  rcases h.2 with e | ⟨g, cap, cur, rfl, hb, hg', r⟩
  · exact .inl e
  · exact .inr ⟨g, cap, cur, rfl, hb, kp_block hg' q, r⟩

/-- what an append makes of one of them: where it lies now -/
def Turn (w : World) (v v' : Value) : Prop := v'.ownBlock = v.ownBlock ∨ v'.ownBlock = some w.heap.size

theorem Sep.turn {B : Nat} {w : World} {v v' u : Value} {k : Nat} {X : List Int} (h : Sep v u) (hr : Rw B w u k X) (ht : Turn w v v') : Sep v' u := by
  rintro g ⟨h1, h2⟩
  rcases ht with e | e
  · exact h g ⟨e ▸ h1, h2⟩
  · rw [e] at h1
    cases h1
    have := (hr.lt h2).1
    omega

/-- all three, and all that was there is as it was -/
structure Th (B : Nat) (wB w : World) (k1 k2 k3 : Nat) (X Y Z : List Int) (s m a : Value) : Prop where
  hB : wB.heap.size = B
  kp : Kp wB w
  rs : Rw B w s k1 X
  rm : Rw B w m k2 Y
  ra : Rw B w a k3 Z
  sm : Sep s m
  sa : Sep s a
  ma : Sep m a

theorem kp_own {B : Nat} {wB w w' : World} {v : Value} {k : Nat} {X : List Int} (hB : wB.heap.size = B) (hk : Kp wB w) (hr : Rw B w v k X) (hg : w.grownBy w' v.ownBlock) : Kp wB w' := by
  refine ⟨hg.os.trans hk.os, hg.tape.trans hk.tape, hg.output.trans hk.output, Nat.le_trans hk.size hg.size, fun b hb => ?_⟩
  exact (hg.block b (Nat.lt_of_lt_of_le hb hk.size) (fun q => by have := (hr.lt q.symm).2; omega)).trans (hk.block b hb)

section
variable {B : Nat} {wB w w' : World} {k1 k2 k3 : Nat} {X Y Z X' : List Int} {s m a v' : Value}

theorem Th.alloc (h : Th B wB w k1 k2 k3 X Y Z s m a) (o : Obj) : Th B wB (w.alloc o) k1 k2 k3 X Y Z s m a :=
  ⟨h.hB, h.kp.alloc _, h.rs.alloc o, h.rm.alloc o, h.ra.alloc o, h.sm, h.sa, h.ma⟩
theorem Th.goes (h : Th B wB w k1 k2 k3 X Y Z s m a) (q : Kp w w') : Th B wB w' k1 k2 k3 X Y Z s m a :=
  ⟨h.hB, h.kp.trans q, h.rs.kp q, h.rm.kp q, h.ra.kp q, h.sm, h.sa, h.ma⟩
theorem Th.ofS (h : Th B wB w k1 k2 k3 X Y Z s m a) {k : Nat} (hg : w.grownBy w' s.ownBlock) (hr : Rw B w' v' k X') (ht : Turn w s v') : Th B wB w' k k2 k3 X' Y Z v' m a :=
  ⟨h.hB, kp_own h.hB h.kp h.rs hg, hr, h.rm.stay hg h.sm, h.ra.stay hg h.sa, h.sm.turn h.rm ht, h.sa.turn h.ra ht, h.ma⟩
theorem Th.ofM (h : Th B wB w k1 k2 k3 X Y Z s m a) {k : Nat} (hg : w.grownBy w' m.ownBlock) (hr : Rw B w' v' k X') (ht : Turn w m v') : Th B wB w' k1 k k3 X X' Z s v' a :=
  ⟨h.hB, kp_own h.hB h.kp h.rm hg, h.rs.stay hg h.sm.symm, hr, h.ra.stay hg h.ma, (h.sm.symm.turn h.rs ht).symm, h.sa, h.ma.turn h.ra ht⟩
theorem Th.ofA (h : Th B wB w k1 k2 k3 X Y Z s m a) {k : Nat} (hg : w.grownBy w' a.ownBlock) (hr : Rw B w' v' k X') (ht : Turn w a v') : Th B wB w' k1 k2 k X Y X' s m v' :=
  ⟨h.hB, kp_own h.hB h.kp h.ra hg, h.rs.stay hg h.sa.symm, h.rm.stay hg h.ma.symm, hr, h.sm, (h.sa.symm.turn h.rs ht).symm, (h.ma.symm.turn h.rm ht).symm⟩

/-- one number in a block of its own, apart from the three -/
structure Bt (w : World) (g : Nat) (x : Int) (s m a : Value) : Prop where
  blk : w.heap[g]? = some (.cells #[.int .i64 x] 3 (0, 0))
  ns : s.ownBlock ≠ some g
  nm : m.ownBlock ≠ some g
  na : a.ownBlock ≠ some g
theorem bt_new (h : Th B wB w k1 k2 k3 X Y Z s m a) (x : Int) : Bt (w.alloc (.cells #[.int .i64 x] 3)) w.heap.size x s m a :=
  ⟨heap_alloc_at w _, fun q => by have := (h.rs.lt q).1; omega, fun q => by have := (h.rm.lt q).1; omega, fun q => by have := (h.ra.lt q).1; omega⟩
variable {g : Nat} {x : Int}
theorem Bt.alloc (h : Bt w g x s m a) (o : Obj) : Bt (w.alloc o) g x s m a := ⟨kp_block h.blk ((Kp.refl _).alloc _), h.ns, h.nm, h.na⟩
theorem turn_ne {v : Value} (hb : w.heap[g]? = some (.cells #[.int .i64 x] 3 (0, 0))) (h : v.ownBlock ≠ some g) (ht : Turn w v v') : v'.ownBlock ≠ some g := by
  rcases ht with e | e
  · rw [e]; exact h
  · rw [e]; intro q; cases q; exact absurd (lt_blk hb) (Nat.lt_irrefl _)
theorem grown_one {v : Value} (hb : w.heap[g]? = some (.cells #[.int .i64 x] 3 (0, 0))) (h : v.ownBlock ≠ some g) (hg : w.grownBy w' v.ownBlock) : w'.heap[g]? = some (.cells #[.int .i64 x] 3 (0, 0)) :=
  (hg.block g (lt_blk hb) (fun q => h q.symm)).trans hb
theorem Bt.ofS (h : Bt w g x s m a) (hg : w.grownBy w' s.ownBlock) (ht : Turn w s v') : Bt w' g x v' m a := ⟨grown_one h.blk h.ns hg, turn_ne h.blk h.ns ht, h.nm, h.na⟩
theorem Bt.ofM (h : Bt w g x s m a) (hg : w.grownBy w' m.ownBlock) (ht : Turn w m v') : Bt w' g x s v' a := ⟨grown_one h.blk h.nm hg, h.ns, turn_ne h.blk h.nm ht, h.na⟩
theorem Bt.ofA (h : Bt w g x s m a) (hg : w.grownBy w' a.ownBlock) (ht : Turn w a v') : Bt w' g x s m v' := ⟨grown_one h.blk h.na hg, h.ns, h.nm, turn_ne h.blk h.na ht⟩
end

theorem news_one {w : World} {g : Nat} {x : Int} (h : w.heap[g]? = some (.cells #[.int .i64 x] 3 (0, 0))) : ∀ j u, ([x].map (Value.int .i64))[j]? = some u → w.cell? ((⟨g, 0, none⟩ : Addr).add j) = some u := by
  intro j u hj
  match j, hj with
  | 0, hj =>
    simp only [List.map_cons, List.map_nil, List.getElem?_cons_zero, Option.some.injEq] at hj
    subst hj
    rw [add_plain]
    simp [World.cell?, h]
  | j + 1, hj => simp at hj

/-- an append of one number, at a step of a region that draws its order -/
theorem step_append_num {P : Program} (w : World) {ops : Array Oper} {o : Oper} {A : Act} {K : Act → World → Prop} {Q : Exit → Act → World → Prop} {E : Prop} (hw : Region.wanted o (yielded ops A.tmps) = true) (s x : Operand) (t : TypeId)
    (ho : o.op = .call { callee := .builtin .append, args := #[s, x], argTypes := #[t, t] })
    (B : Nat) (i : TypeInfo) (ht : P.underlying t = some (.slice 3)) (hi : P.info? 3 = some i) (hz : i.zero = some (.int .i64 0)) (hsize : i.size = 1) (hby : i.bytes = 8)
    (v : Value) (n : Nat) (X : List Int) (hs : A.eval s = v) (hown : Rw B w v n X)
    (g : Nat) (y : Int) (hx : A.eval x = .slice (some ⟨g, 0, none⟩) 1 1) (hg : w.heap[g]? = some (.cells #[.int .i64 y] 3 (0, 0)))
    (hn : n ≤ 64) (hbase : B ≤ w.heap.size)
    (h : ∀ v' w', Rw B w' v' (n + 1) (X ++ [y]) → w.grownBy w' v.ownBlock → Turn w v v' → K (A.put o.dst v') w') :
    if Region.wanted o (yielded ops A.tmps) = true then Oper.wp P o A w K Q else E := by
  rw [if_pos hw]
  obtain ⟨v', w', hr, h2, h3, h4, h5⟩ := run_append_own_at (P := P) w B t o.type 3 i (.int .i64 0) 1 8 ht hi hz hsize hby rfl (by decide) v n _ hown ⟨g, 0, none⟩ 1 1 ([y].map (Value.int .i64)) rfl (news_one hg) (fun u hu => by obtain ⟨q, _, rfl⟩ := List.mem_map.1 hu; rfl) (by unfold maxLen; omega) (by omega) hbase
  unfold Oper.wp execOp
  simp only [ho, resolve, invoke, builtin, Sem.run_bind, Sem.run_pure, Result.andThen_ok, List.map_toArray, List.map_cons, List.map_nil, hs, hx, hr]
  rw [← List.map_append] at h2
  exact h v' w' h2 h3 h5

end Go.Proofs.Ytgecandbbmljbab.AD
