/- A latch beside the statement's list: what each call makes of the two; appends to lists of calls. -/
import Derived.Test.YthhhakglchcfgaaLatRow
namespace Go.Proofs.Ythhhakglchcfgaa.LT
open Go.ChangeShapes Go.WideShapes Go.ChangeAt Go.RowKit Go.Proofs.Ythhhakglchcfgaa.HP Go.Maps Go.Proofs.Ythhhakglchcfgaa.HM Go.Proofs.Ythhhakglchcfgaa.HW Go.Proofs.Ythhhakglchcfgaa.AR

/-! ### appends -/

/-- 'append' of one call to a row that is the call's own -/
theorem wpList_append_quad {P : Program} (w : World) {ops : Array Oper} {rest : List Oper} {o : Oper} {a : Act} {Q : Exit → Act → World → Prop} (hgd : o.guard = none) (s x : Operand) (t e : TypeId)
    (ho : o.op = .call { callee := .builtin .append, args := #[s, x], argTypes := #[t, t] }) (ht : P.underlying t = some (.slice e))
    (hinf : (P.info? e).map (fun i => (i.zero, i.size, i.bytes)) = some (some (.agg #[.int .i64 0, .int .i64 0, .int .i64 0, .int .i64 0]), 4, 32))
    (base : Nat) (v : Value) (L : List O4) (hs : a.eval s = v) (hown : w.ownsRow base e 4 v L.length (flatO L))
    (b : Nat) (y : O4) (hx : a.eval x = .slice (some ⟨b, 0, none⟩) 1 1) (hb : w.heap[b]? = some (.cells #[.int .i64 y.1, .int .i64 y.2.1, .int .i64 y.2.2.1, .int .i64 y.2.2.2] e (0, 0)))
    (hlen : L.length + 1 ≤ 4398046511104) (hbase : base ≤ w.heap.size)
    (h : ∀ g cap w', w'.ownsRow base e 4 (.slice (some ⟨g, 0, none⟩) (L.length + 1) cap) (L.length + 1) (flatO (L ++ [y])) → w.grownBy w' v.ownBlock → (v.ownBlock = some g ∨ g = w.heap.size) → wpList P ops Q rest (a.put o.dst (.slice (some ⟨g, 0, none⟩) (L.length + 1) cap)) w') :
    wpList P ops Q (o :: rest) a w := by
  obtain ⟨i0, hi, hz0, hz1, hz2⟩ := info_parts hinf
  refine wpList_append_own_at _ hgd s x t ho base e i0 _ 4 32 ht hi hz0 hz1 hz2 (by rfl) (by decide) v L.length (flatO L) hs hown ⟨b, 0, none⟩ 1 1 [.int .i64 y.1, .int .i64 y.2.1, .int .i64 y.2.2.1, .int .i64 y.2.2.2] hx (by rfl) ?_ ?_ (by unfold maxLen; omega) (by omega) hbase ?_
  · intro j u hj
    match j, hj with
    | 0, hj => simp at hj; subst hj; simp [Addr.add, World.cell?, hb]
    | 1, hj => simp at hj; subst hj; simp [Addr.add, World.cell?, hb]
    | 2, hj => simp at hj; subst hj; simp [Addr.add, World.cell?, hb]
    | 3, hj => simp at hj; subst hj; simp [Addr.add, World.cell?, hb]
  · intro u hu
    simp at hu
    rcases hu with rfl | rfl | rfl | rfl <;> rfl
  · intro v' w' ho' hg hnil hloc
    rcases ho'.2 with ⟨_, hz⟩ | ⟨g, cap, cur, rfl, hbg, hgg, r⟩
    · omega
    · refine h g cap w' ?_ hg ?_
      · rw [flatO_append]; exact ho'
      · simp only [Value.ownBlock] at hloc
        rcases hloc with hloc | hloc
        · exact Or.inl hloc.symm
        · exact Or.inr (by simpa using hloc)

/-- 'append(s, x...)' of nothing -/
theorem run_append_nought {P : Program} {w : World} (base : Nat) (t ty e : TypeId) (i : TypeInfo) (size : Nat) (ht : P.underlying t = some (.slice e)) (hi : P.info? e = some i)
    (v : Value) (n c : Nat) (xs : List Value) (hown : w.ownsRow base e size v n xs) :
    (Builtin.append_ #[t, t] ty #[v, .slice none 0 c]).run P w = .ok v w := by
  rcases hown.2 with ⟨rfl, rfl⟩ | ⟨g, cap, cur, rfl, _, _, hnc, _⟩
  · simp [Builtin.append_, run_underlying ht, sizeOf, typeInfo, hi, Builtin.lenOf, Builtin.firstCells]
  · simp [Builtin.append_, run_underlying ht, sizeOf, typeInfo, hi, Builtin.lenOf, Builtin.firstCells, hnc, storeCells]

/-- an append of whatever list to a row of the call's own, at a step of a region that draws its order -/
theorem step_append_list {P : Program} (w : World) {ops : Array Oper} {o : Oper} {a : Act} {K : Act → World → Prop} {Q : Exit → Act → World → Prop} {E : Prop} (hgd : o.guard = none) (s x : Operand) (t : TypeId)
    (ho : o.op = .call { callee := .builtin .append, args := #[s, x], argTypes := #[t, t] })
    (base : Nat) (e : TypeId) (i : TypeInfo) (z : Value) (size bytes : Nat) (ht : P.underlying t = some (.slice e)) (hi : P.info? e = some i) (hz : i.zero = some z)
    (hsize : i.size = size) (hby : i.bytes = bytes) (hzs : z.cells.size = size) (hsz : 0 < size)
    (g0 n c0 : Nat) (xs : List Value) (hs : a.eval s = .slice (some ⟨g0, 0, none⟩) n c0) (hown : w.ownsRow base e size (.slice (some ⟨g0, 0, none⟩) n c0) n xs)
    (ao : Option Addr) (m c : Nat) (news : List Value) (hx : a.eval x = .slice ao m c) (hl : news.length = m * size) (hn : ao = none → m = 0) (hnews : ∀ ad, ao = some ad → ∀ j u, news[j]? = some u → w.cell? (ad.add j) = some u) (h1 : ∀ u ∈ news, u.oneCell' = true)
    (h63 : n + m ≤ maxLen) (hbytes : (n + m) * bytes ≤ 140737488355328) (hbase : base ≤ w.heap.size)
    (h : ∀ g cap w', w'.ownsRow base e size (.slice (some ⟨g, 0, none⟩) (n + m) cap) (n + m) (xs ++ news) → w.grownBy w' (some g0) → K (a.put o.dst (.slice (some ⟨g, 0, none⟩) (n + m) cap)) w') :
    if Region.wanted o (yielded ops a.tmps) = true then Oper.wp P o a w K Q else E := by
  rw [if_pos (by simp [Region.wanted, hgd])]
  cases ao with
  | none =>
    obtain rfl : m = 0 := hn rfl
    have hnil : news = [] := List.eq_nil_of_length_eq_zero (by simpa using hl)
    subst hnil
    have hrun := run_append_nought (P := P) (w := w) base t o.type e i size ht hi _ n c xs hown
    unfold Oper.wp execOp
    simp only [ho, resolve, invoke, builtin, Sem.run_bind, Sem.run_pure, Result.andThen_ok, List.map_toArray, List.map_cons, List.map_nil, hs, hx, hrun]
    have := h g0 c0 w (by simpa using hown) ⟨rfl, rfl, rfl, Nat.le_refl _, fun _ _ _ => rfl⟩
    have h' : K (a.put o.dst (.slice (some ⟨g0, 0, none⟩) n c0)) w := by simpa using this
    exact h'
  | some ad =>
    obtain ⟨v', w', hr, h2, h3, h4, h5⟩ := run_append_own_at (P := P) w base t o.type e i z size bytes ht hi hz hsize hby hzs hsz _ n xs hown ad m c news hl (hnews ad rfl) h1 h63 hbytes hbase
    unfold Oper.wp execOp
    simp only [ho, resolve, invoke, builtin, Sem.run_bind, Sem.run_pure, Result.andThen_ok, List.map_toArray, List.map_cons, List.map_nil, hs, hx, hr]
    rcases h2.2 with ⟨q, _⟩ | ⟨g, cap, cur, rfl, r⟩
    · have := (h4.1 q).1
      cases this
    · exact h g cap w' h2 h3

/-- a new list without elements -/
theorem own_nought {w : World} {base : Nat} {e : TypeId} {size : Nat} (g : Nat) (hb : base ≤ g) (hg : w.heap[g]? = some (.cells #[] e (0, 0))) : w.ownsRow base e size (.slice (some ⟨g, 0, none⟩) 0 0) 0 [] :=
  ⟨by simp, .inr ⟨g, 0, #[], rfl, hb, hg, Nat.le_refl _, Nat.zero_le _, by simp, by simp⟩⟩
theorem own_base {w : World} {base : Nat} {e : TypeId} {size g n cap : Nat} {xs : List Value} (h : w.ownsRow base e size (.slice (some ⟨g, 0, none⟩) n cap) n xs) : base ≤ g := (h.lt g rfl).1
/-- what an append leaves, where its row is newer than w -/
theorem step_grown {w V V' : World} {g0 : Nat} (k : Step (fun _ => False) w V) (h : V.grownBy V' (some g0)) (hg : w.heap.size ≤ g0) : Step (fun _ => False) w V' := by
  refine ⟨h.os.trans k.os, h.tape.trans k.tape, h.output.trans k.output, Nat.le_trans k.size h.size, fun b hb _ => ?_⟩
  exact (h.block b (Nat.lt_of_lt_of_le hb k.size) (fun q => by cases q; omega)).trans (k.block b hb (fun q => q))
theorem step_drew (w : World) : Step (fun _ => False) w w.drew := (Step.refl _ w).drew

/-! ### a latch beside a list -/

/-- the slice v has the calls l; its row lies from base on -/
structure LsO (w : World) (base : Nat) (v : Value) (l : List O4) : Prop where
  row : w.ownsRow base 26 4 v l.length (flatO l)
  len : l.length ≤ 4398046511104

theorem lsO_nil (w : World) (base : Nat) : LsO w base (.slice none 0 0) [] := ⟨World.ownsRow_nil _ _ _ _, by simp⟩
theorem LsO.kept {A : Nat → Prop} {w w' : World} {base : Nat} {v : Value} {l : List O4} (h : LsO w base v l) (hs : Step A w w') (hA : ∀ k, v.ownBlock = some k → ¬ A k) : LsO w' base v l := ⟨row_kept hs h.row hA, h.len⟩

theorem row_low {w : World} {base base' : Nat} {e : TypeId} {size : Nat} {v : Value} {n : Nat} {xs : List Value} (h : w.ownsRow base e size v n xs) (hb : base' ≤ base) : w.ownsRow base' e size v n xs := by
  refine ⟨h.1, ?_⟩
  rcases h.2 with q | ⟨g, cap, cur, rfl, hg, r⟩
  · exact .inl q
  · exact .inr ⟨g, cap, cur, rfl, Nat.le_trans hb hg, r⟩

/-- the latch that was made first has L waiting, the slice v the calls l; what was there ahead of them is as it was -/
structure TwA (W w : World) (v : Value) (l : List O4) (L : List T3) (A : Nat → Prop) : Prop where
  rep : LRep w W.heap.size A L
  lst : LsO w W.heap.size v l
  own : ∀ k, A k → W.heap.size ≤ k ∧ k < w.heap.size
  far : ∀ k, v.ownBlock = some k → ¬ A k
  bel : Below W.heap.size W w

def Tw (W w : World) (v : Value) (l : List O4) (L : List T3) : Prop := ∃ A, TwA W w v l L A

theorem tw_new {W w : World} (h : LRep w W.heap.size (fun k => k = W.heap.size) []) (hs : Step (fun _ => False) W w) : Tw W w (.slice none 0 0) [] [] :=
  ⟨_, h, lsO_nil _ _, fun k hk => by have := h.lt; omega, fun k hk => by simp [Value.ownBlock] at hk, hs.below (Nat.le_refl _) (fun _ _ q => q)⟩

theorem lrep_own {w w' : World} {tb n : Nat} {A A' : Nat → Prop} {L : List T3} (h : LRep w' tb A' L) (hA : ∀ k, A k → n ≤ k) (own : ∀ k, k < w.heap.size → A' k → A k) (hn : n ≤ w.heap.size) : LRep w' tb (fun k => A' k ∧ n ≤ k ∧ k < w'.heap.size) L := by
  have hge : ∀ k, A' k → n ≤ k := fun k hk => by
    by_cases e : k < w.heap.size
    · exact hA k (own k e hk)
    · omega
  refine ⟨⟨h.1, hge _ h.1, h.lt⟩, ?_⟩
  rcases h.2 with h2 | ⟨hb, bm, B, D, m, am, aB⟩
  · exact .inl h2
  · refine .inr ⟨hb, bm, fun k => B k ∧ k < w'.heap.size, D, ⟨m.blk, ?_, m.map, m.ties, fun q => m.off.1 q.1, fun q => m.off.2 q.1⟩, ⟨am, hge _ am, m.ltB⟩, fun k hk => ⟨aB k hk.1, hge k (aB k hk.1), hk.2⟩⟩
    refine ⟨⟨m.rep.1, m.rep.lt⟩, ?_⟩
    rcases m.rep.2 with r2 | ⟨g, cap, bm', D', es, mm, ag, ab, ho, hpe⟩
    · exact .inl r2
    · exact .inr ⟨g, cap, bm', D', es, mm, ⟨ag, mm.ltG⟩, ⟨ab, mm.ltB⟩, ho, hpe⟩

/-- the latch has been called -/
theorem TwA.went {W w w' : World} {v : Value} {l : List O4} {L L' : List T3} {A : Nat → Prop} (h : TwA W w v l L A) (hw : LWent w W.heap.size A L' w') : Tw W w' v l L' := by
  obtain ⟨A', r', m'⟩ := hw
  have hz := h.bel.size
  refine ⟨fun k => A' k ∧ W.heap.size ≤ k ∧ k < w'.heap.size, lrep_own r' (fun k hk => (h.own k hk).1) m'.own hz, h.lst.kept m'.stp h.far, fun k hk => hk.2, fun k hk q => ?_, ?_⟩
  · have hlt := (h.lst.row.lt k hk).2
    exact h.far k hk (m'.own k hlt q.1)
  · exact h.bel.trans (m'.stp.below hz (fun k hk q => by have := (h.own k q).1; omega))

/-- nothing has turned -/
theorem TwA.still {W w w' : World} {v : Value} {l : List O4} {L : List T3} {A : Nat → Prop} (h : TwA W w v l L A) (hs : Step (fun _ => False) w w') : TwA W w' v l L A :=
  ⟨h.rep.kept hs (fun _ _ _ q => q), h.lst.kept hs (fun _ _ q => q), fun k hk => ⟨(h.own k hk).1, Nat.lt_of_lt_of_le (h.own k hk).2 hs.size⟩, h.far, h.bel.trans (hs.below h.bel.size (fun _ _ q => q))⟩

theorem Tw.still {W w w' : World} {v : Value} {l : List O4} {L : List T3} (h : Tw W w v l L) (hs : Step (fun _ => False) w w') : Tw W w' v l L := by
  obtain ⟨A, h⟩ := h
  exact ⟨A, h.still hs⟩

/-- another list, in new memory -/
theorem Tw.list {W w w' : World} {v v' : Value} {l l' : List O4} {L : List T3} (h : Tw W w v l L) (hl : LsO w' w.heap.size v' l') (hs : Step (fun _ => False) w w') : Tw W w' v' l' L := by
  obtain ⟨A, h⟩ := h
  have h1 := h.still hs
  exact ⟨A, h1.rep, ⟨row_low hl.row h.bel.size, hl.len⟩, h1.own, fun k hk q => by have := (hl.row.lt k hk).1; have := (h.own k q).2; omega, h1.bel⟩

/-- one more behind the list -/
theorem Tw.more {W w w2 : World} {v : Value} {l : List O4} {L : List T3} {o : Obj} {g cap : Nat} {y : O4} (h : Tw W w v l L) (hl : l.length + 1 ≤ 4398046511104)
    (row : w2.ownsRow W.heap.size 26 4 (.slice (some ⟨g, 0, none⟩) (l.length + 1) cap) (l.length + 1) (flatO (l ++ [y]))) (hg : (w.alloc o).grownBy w2 v.ownBlock) (hloc : v.ownBlock = some g ∨ g = (w.alloc o).heap.size) :
    Tw W w2 (.slice (some ⟨g, 0, none⟩) (l.length + 1) cap) (l ++ [y]) L := by
  obtain ⟨A, h⟩ := h
  have hs : Step (fun k => v.ownBlock = some k) w w2 := ((Step.refl _ w).alloc o).grown hg (fun k hk => hk)
  refine ⟨A, h.rep.kept hs (fun k hk q e => h.far k e q), ⟨by rw [List.length_append]; exact row, by rw [List.length_append]; exact hl⟩, fun k hk => ⟨(h.own k hk).1, Nat.lt_of_lt_of_le (h.own k hk).2 hs.size⟩, fun k hk q => ?_, ?_⟩
  · simp only [Value.ownBlock, Option.some.injEq] at hk
    subst hk
    rcases hloc with e | e
    · exact h.far _ e q
    · have := (h.own _ q).2
      simp at e
      omega
  · exact h.bel.trans (hs.below h.bel.size (fun k hk e => by have := (h.lst.row.lt k e).1; omega))

theorem Tw.bel {W w : World} {v : Value} {l : List O4} {L : List T3} (h : Tw W w v l L) : Below W.heap.size W w := by
  obtain ⟨A, h⟩ := h; exact h.bel
theorem Tw.nodup {W w : World} {v : Value} {l : List O4} {L : List T3} (h : Tw W w v l L) : (idt L).Nodup := by
  obtain ⟨A, h⟩ := h; exact h.rep.nodup
theorem Tw.lst {W w : World} {v : Value} {l : List O4} {L : List T3} (h : Tw W w v l L) : LsO w W.heap.size v l := by
  obtain ⟨A, h⟩ := h; exact h.lst
/-- the list's value, and that it lies there -/
theorem Tw.shape {W w : World} {v : Value} {l : List O4} {L : List T3} (h : Tw W w v l L) : ∃ ao cap, v = .slice ao l.length cap ∧ OAt w ao l.length l ∧ l.length ≤ cap ∧ cap ≤ maxLen := oat_row h.lst.row

/-! ### the calls -/

theorem len2 (W w : World) (v : Value) (l : List O4) (L : List T3) (n : Nat) (h : Tw W w v l L) (hn : L.length = n) :
    Calls Try.prog 12 #[.pointer (some ⟨W.heap.size, 0, none⟩)] w fun e w' => e = .returned (.int .i64 n) ∧ w' = w := by
  obtain ⟨A, h⟩ := h
  subst hn
  exact llen_any W.heap.size A L w h.rep

theorem waits2 (W w : World) (v : Value) (l : List O4) (L : List T3) (id : Int) (h : Tw W w v l L) (hi : W64 id) :
    Calls Try.prog 11 #[.pointer (some ⟨W.heap.size, 0, none⟩), .int .i64 id] w fun e w' => e = .returned (.bool (decide (id ∈ idt L))) ∧ w' = w := by
  obtain ⟨A, h⟩ := h
  exact lwaits_any W.heap.size A L id w h.rep hi

theorem next2_none (W w : World) (v : Value) (l : List O4) (L : List T3) (now : Int) (h : Tw W w v l L) (hn : ∀ t ∈ L, now < t.2.1) :
    Calls Try.prog 15 #[.pointer (some ⟨W.heap.size, 0, none⟩), .int .i64 now] w fun e w' => e = .returned (.tuple #[.int .i64 0, .int .i64 0, .int .i64 0, .bool false]) ∧ Tw W w' v l L := by
  obtain ⟨A, h⟩ := h
  refine (lnext_none W.heap.size A L now w h.rep hn).mono ?_
  rintro e w' ⟨rfl, hs⟩
  exact ⟨rfl, A, h.still hs⟩

theorem next2_some (W w : World) (v : Value) (l : List O4) (L : List T3) (t : T3) (now : Int) (h : Tw W w v l L) (ht : Least L t) (hd : t.2.1 ≤ now) :
    Calls Try.prog 15 #[.pointer (some ⟨W.heap.size, 0, none⟩), .int .i64 now] w fun e w' => e = .returned (.tuple #[.int .i64 t.1, .int .i64 t.2.1, .int .i64 t.2.2, .bool true]) ∧ Tw W w' v l (dropT L t.1) := by
  obtain ⟨A, h⟩ := h
  refine (lnext_some W.heap.size A L t now w h.rep ht hd).mono ?_
  rintro e w' ⟨rfl, hw⟩
  exact ⟨rfl, h.went hw⟩

theorem answers2 (W w : World) (v : Value) (l : List O4) (L : List T3) (h : Tw W w v l L) :
    Calls Try.prog 13 #[] w fun e w' => e = .returned (.bool true) ∧ Tw W w' v l L := by
  refine (lanswers_any w).mono ?_
  rintro e w' ⟨rfl, hs⟩
  exact ⟨rfl, h.still hs⟩

/-- .. and a block of another one's, which stays -/
def TwB (W w : World) (v : Value) (l : List O4) (L : List T3) (b : Nat) (o : Obj) : Prop := ∃ A, TwA W w v l L A ∧ w.heap[b]? = some o ∧ ¬ A b

theorem twB_alloc {W w : World} {v : Value} {l : List O4} {L : List T3} (h : Tw W w v l L) (c : Array Value) (t : TypeId) : TwB W (w.alloc (.cells c t)) v l L w.heap.size (.cells c t (0, 0)) := by
  obtain ⟨A, h⟩ := h
  exact ⟨A, h.still ((Step.refl _ w).alloc _), heap_alloc_new w _, fun q => by have := (h.own _ q).2; omega⟩
theorem TwB.two {W w : World} {v : Value} {l : List O4} {L : List T3} {b : Nat} {o : Obj} (h : TwB W w v l L b o) : Tw W w v l L := by
  obtain ⟨A, h, _⟩ := h; exact ⟨A, h⟩
theorem TwB.blk {W w : World} {v : Value} {l : List O4} {L : List T3} {b : Nat} {o : Obj} (h : TwB W w v l L b o) : w.heap[b]? = some o := by
  obtain ⟨A, _, h, _⟩ := h; exact h
theorem TwB.still {W w w' : World} {v : Value} {l : List O4} {L : List T3} {b : Nat} {o : Obj} (h : TwB W w v l L b o) (hs : Step (fun _ => False) w w') : TwB W w' v l L b o := by
  obtain ⟨A, h, hb, hn⟩ := h
  exact ⟨A, h.still hs, (hs.block b (lt_of_block hb) (fun q => q)).trans hb, hn⟩

theorem put2b (W w : World) (v : Value) (l : List O4) (L : List T3) (id a c : Int) (b : Nat) (o : Obj) (h : TwB W w v l L b o) (hi : W64 id) (ha : W64 a) (hc : W64 c) (hl : L.length + 1 ≤ 8796093022208) :
    Calls Try.prog 9 #[.pointer (some ⟨W.heap.size, 0, none⟩), .int .i64 id, .int .i64 a, .int .i64 c] w fun e w' => e = .returned (.bool (!decide (id ∈ idt L))) ∧ Tw W w' v l (putT L id a c) ∧ w'.heap[b]? = some o := by
  obtain ⟨A, h, hb, hn⟩ := h
  refine (lput_any W.heap.size A L id a c w h.rep hi ha hc hl).mono ?_
  rintro e w' ⟨rfl, hw⟩
  refine ⟨rfl, h.went hw, ?_⟩
  obtain ⟨A', _, m'⟩ := hw
  rw [m'.stp.block b (lt_of_block hb) hn]; exact hb

theorem put2 (W w : World) (v : Value) (l : List O4) (L : List T3) (id a c : Int) (h : Tw W w v l L) (hi : W64 id) (ha : W64 a) (hc : W64 c) (hl : L.length + 1 ≤ 8796093022208) :
    Calls Try.prog 9 #[.pointer (some ⟨W.heap.size, 0, none⟩), .int .i64 id, .int .i64 a, .int .i64 c] w fun e w' => e = .returned (.bool (!decide (id ∈ idt L))) ∧ Tw W w' v l (putT L id a c) := by
  obtain ⟨A, h⟩ := h
  refine (lput_any W.heap.size A L id a c w h.rep hi ha hc hl).mono ?_
  rintro e w' ⟨rfl, hw⟩
  exact ⟨rfl, h.went hw⟩

/-! ### one cut out -/

def less (M : List O4) (j : Nat) : List O4 := M.take j ++ M.drop (j + 1)
theorem less_len {M : List O4} {j : Nat} (h : j < M.length) : (less M j).length = j + (M.length - (j + 1)) := by
  unfold less
  rw [List.length_append, List.length_take, List.length_drop]
  omega

/-- all but its task -/
theorem tl_less {M : List O4} {j : Nat} (h : j < M.length) (hn : (idt (tl M)).Nodup) : tl (less M j) = dropT (tl M) (atO M j).2.1 := by
  have e : M = M.take j ++ (atO M j :: M.drop (j + 1)) := by
    rw [atO_get h, ← List.drop_eq_getElem_cons h, List.take_append_drop]
  have hx : ∀ t ∈ tl (less M j), t.1 ≠ (atO M j).2.1 := by
    intro t ht q
    rw [e] at hn
    simp only [tl, idt, List.map_append, List.map_cons, List.map_map] at hn
    rw [List.nodup_append] at hn
    obtain ⟨_, h2, h3⟩ := hn
    rw [List.nodup_cons] at h2
    simp only [less, tl, List.map_append, List.mem_append, List.mem_map] at ht
    rcases ht with ⟨x, hx, rfl⟩ | ⟨x, hx, rfl⟩
    · exact h3 x.2.1 (List.mem_map.2 ⟨x, hx, rfl⟩) (atO M j).2.1 (by simp) q
    · exact h2.1 (List.mem_map.2 ⟨x, hx, q⟩)
  have hd : ∀ z, (atO M j).2.1 = z → dropT (tl M) z = dropT (tl (less M j)) z := by
    intro z hz
    have e2 : tl M = tl (M.take j) ++ (atO M j).2 :: tl (M.drop (j + 1)) := by
      conv => lhs; rw [e]
      simp [tl]
    rw [e2]
    unfold dropT less
    rw [List.filter_append, List.filter_cons, if_neg (by simp [hz]), ← List.filter_append]
    simp [tl]
  rw [hd _ rfl]
  unfold dropT
  exact (List.filter_eq_self.2 fun t ht => by simpa using hx t ht).symm

/-- what first answers, about what waits -/
theorem fi_least {M : List O4} {now : Int} {j : Nat} (hj : j < M.length) (hd : (atO M j).2.2.1 ≤ now) (hm : ∀ i, i < M.length → (atO M i).2.2.1 ≤ now → ltB (pr (atO M i).2) (pr (atO M j).2) = false) : Least (tl M) (atO M j).2 := by
  refine ⟨List.mem_map_of_mem (atO_mem hj), fun u hu => ?_⟩
  obtain ⟨x, hx, rfl⟩ := List.mem_map.1 hu
  obtain ⟨i, hi, rfl⟩ := mem_atO hx
  by_cases c : (atO M i).2.2.1 ≤ now
  · exact hm i hi c
  · rw [ltB_false]
    simp only [pr]
    omega
theorem fi_none {M : List O4} {now : Int} (h : ∀ i, i < M.length → now < (atO M i).2.2.1) : ∀ t ∈ tl M, now < t.2.1 := fun u hu => by
  obtain ⟨x, hx, rfl⟩ := List.mem_map.1 hu
  obtain ⟨i, hi, rfl⟩ := mem_atO hx
  exact h i hi

end Go.Proofs.Ythhhakglchcfgaa.LT
