/- What the heap's calls do, in terms of the entries that it has. -/
import Derived.Test.YthhhakglchcfgaaLoops
import Derived.Maps.AppendAt
namespace Go.Proofs.Ythhhakglchcfgaa.HW
open Go.ChangeShapes Go.WideShapes Go.ChangeAt Go.RowKit Go.Proofs.Ythhhakglchcfgaa.HP Go.Maps Go.Proofs.Ythhhakglchcfgaa.HM

theorem ent_info : (Try.prog.info? 52).map (fun i => (i.zero, i.size, i.bytes)) = some (some (.agg #[.int .i64 0, .int .i64 0]), 2, 16) := by kernel_rfl

/-- 'append' of one pair of numbers to a row that is the call's own -/
theorem wpList_append_pair {P : Program} (w : World) {ops : Array Oper} {rest : List Oper} {o : Oper} {a : Act} {Q : Exit → Act → World → Prop} (hgd : o.guard = none) (s x : Operand) (t e : TypeId)
    (ho : o.op = .call { callee := .builtin .append, args := #[s, x], argTypes := #[t, t] }) (ht : P.underlying t = some (.slice e))
    (hinf : (P.info? e).map (fun i => (i.zero, i.size, i.bytes)) = some (some (.agg #[.int .i64 0, .int .i64 0]), 2, 16))
    (base : Nat) (v : Value) (es : List E) (hs : a.eval s = v) (hown : w.ownsRow base e 2 v es.length (flat es))
    (b : Nat) (id key : Int) (hx : a.eval x = .slice (some ⟨b, 0, none⟩) 1 1) (hb : w.heap[b]? = some (.cells #[.int .i64 id, .int .i64 key] e (0, 0)))
    (hlen : es.length + 1 ≤ 8796093022208) (hbase : base ≤ w.heap.size)
    (h : ∀ g cap w', w'.ownsRow base e 2 (.slice (some ⟨g, 0, none⟩) (es.length + 1) cap) (es.length + 1) (flat (es ++ [(id, key)])) → w.grownBy w' v.ownBlock → (v.ownBlock = some g ∨ g = w.heap.size) → wpList P ops Q rest (a.put o.dst (.slice (some ⟨g, 0, none⟩) (es.length + 1) cap)) w') :
    wpList P ops Q (o :: rest) a w := by
  obtain ⟨i0, hi, hz0, hz1, hz2⟩ := info_parts hinf
  refine wpList_append_own_at _ hgd s x t ho base e i0 _ 2 16 ht hi hz0 hz1 hz2 (by rfl) (by decide) v es.length (flat es) hs hown ⟨b, 0, none⟩ 1 1 [.int .i64 id, .int .i64 key] hx (by rfl) ?_ ?_ (by unfold maxLen; omega) (by omega) hbase ?_
  · intro j u hj
    match j, hj with
    | 0, hj => simp at hj; subst hj; simp [Addr.add, World.cell?, hb]
    | 1, hj => simp at hj; subst hj; simp [Addr.add, World.cell?, hb]
  · intro u hu
    simp at hu
    rcases hu with rfl | rfl <;> rfl
  · intro v' w' ho' hg hnil hloc
    rcases ho'.2 with ⟨_, hz⟩ | ⟨g, cap, cur, rfl, hbg, hgg, r⟩
    · omega
    · refine h g cap w' ?_ hg ?_
      · rw [flat_append]; exact ho'
      · simp only [Value.ownBlock] at hloc
        rcases hloc with hloc | hloc
        · exact Or.inl hloc.symm
        · exact Or.inr (by simpa using hloc)

theorem wpList_lookup_hit (w : World) {ops : Array Oper} {rest : List Oper} {o : Oper} {a : Act} {Q : Exit → Act → World → Prop} (hg : o.guard = none) (mm x : Operand) (hop : o.op = Op.lookup 40 mm x true)
    (bm n : Nat) (D : DataW Unit) (hm : a.eval mm = .map (some bm)) (hown : w.ownsMap Try.prog 3 (plainElem Try.prog 3) bm n D) (id : Int) (hx : a.eval x = .int .i64 id) (hid : W64 id) (i : Int)
    (hhas : Maps.has D (ky id) = true) (hat : D.atKey (ky id) (di 0) = di i)
    (hK : wpList Try.prog ops Q rest (a.put o.dst (.tuple #[.int .i64 i, .bool true])) w) : wpList Try.prog ops Q (o :: rest) a w := by
  refine wpList_lookup_own_ok_int _ hg mm x 40 hop 3 3 .i64 law3 Try.underlying40 Try.underlying3 (zero3 _) bm n D hm hown _ _ hx (keyOf_int_mk Try.underlying3 hid.wf) ?_
  intro c hc _
  rw [hat] at hc
  simp only [di, DataW.lit.injEq, Lit.int.injEq, true_and] at hc
  subst hc
  rw [hhas]
  exact hK

theorem wpList_lookup_miss (w : World) {ops : Array Oper} {rest : List Oper} {o : Oper} {a : Act} {Q : Exit → Act → World → Prop} (hg : o.guard = none) (mm x : Operand) (hop : o.op = Op.lookup 40 mm x true)
    (bm n : Nat) (D : DataW Unit) (hm : a.eval mm = .map (some bm)) (hown : w.ownsMap Try.prog 3 (plainElem Try.prog 3) bm n D) (id : Int) (hx : a.eval x = .int .i64 id) (hid : W64 id)
    (hhas : Maps.has D (ky id) = false)
    (hK : wpList Try.prog ops Q rest (a.put o.dst (.tuple #[.int .i64 0, .bool false])) w) : wpList Try.prog ops Q (o :: rest) a w := by
  refine wpList_lookup_own_ok_int _ hg mm x 40 hop 3 3 .i64 law3 Try.underlying40 Try.underlying3 (zero3 _) bm n D hm hown _ _ hx (keyOf_int_mk Try.underlying3 hid.wf) ?_
  intro c hc _
  rw [atKey_of_not_has hhas] at hc
  simp only [DataW.lit.injEq, Lit.int.injEq, true_and] at hc
  subst hc
  rw [hhas]
  exact hK

/-- a heap that has the entries l; A: the blocks that are its own -/
def Rep (w : World) (hb : Nat) (A : Nat → Prop) (l : List E) : Prop :=
  A hb ∧ ((l = [] ∧ w.heap[hb]? = some (.cells #[.slice none 0 0, .map none] 50 (0, 0))) ∨
    ∃ g cap bm D es, Mem w hb g cap bm D es ∧ A g ∧ A bm ∧ Ord es ∧ es.Perm l)

/-- a step that touches the heap's own blocks alone; what is its own now was its own, or is new -/
structure Moved (A : Nat → Prop) (w : World) (A' : Nat → Prop) (w' : World) : Prop where
  stp : Step A w w'
  own : ∀ k, k < w.heap.size → A' k → A k

theorem Rep.lt {w : World} {hb : Nat} {A : Nat → Prop} {l : List E} (h : Rep w hb A l) : hb < w.heap.size := by
  rcases h.2 with ⟨_, h2⟩ | ⟨g, cap, bm, D, es, m, _⟩
  · exact lt_of_block h2
  · exact m.ltH

theorem Rep.perm {w : World} {hb : Nat} {A : Nat → Prop} {l l' : List E} (h : Rep w hb A l) (hp : l.Perm l') : Rep w hb A l' := by
  refine ⟨h.1, ?_⟩
  rcases h.2 with ⟨rfl, h2⟩ | ⟨g, cap, bm, D, es, m, ag, ab, ho, hpe⟩
  · exact .inl ⟨List.Perm.eq_nil hp.symm, h2⟩
  · exact .inr ⟨g, cap, bm, D, es, m, ag, ab, ho, hpe.trans hp⟩

theorem Rep.kept {w w' : World} {hb : Nat} {A B : Nat → Prop} {l : List E} (h : Rep w hb A l) (hs : Step B w w') (hd : ∀ k, k < w.heap.size → A k → ¬ B k) : Rep w' hb A l := by
  refine ⟨h.1, ?_⟩
  rcases h.2 with ⟨rfl, h2⟩ | ⟨g, cap, bm, D, es, m, ag, ab, ho, hpe⟩
  · exact .inl ⟨rfl, by rw [hs.block hb (lt_of_block h2) (hd hb (lt_of_block h2) h.1)]; exact h2⟩
  · exact .inr ⟨g, cap, bm, D, es, m.kept hs (hd hb m.ltH h.1) (hd g m.ltG ag) (hd bm m.ltB ab), ag, ab, ho, hpe⟩

theorem Rep.nodup {w : World} {hb : Nat} {A : Nat → Prop} {l : List E} (h : Rep w hb A l) : (ids l).Nodup := by
  rcases h.2 with ⟨rfl, _⟩ | ⟨g, cap, bm, D, es, m, _, _, _, hpe⟩
  · exact List.nodup_nil
  · exact (hpe.map _).nodup_iff.1 m.ties.nodup

theorem Rep.wf {w : World} {hb : Nat} {A : Nat → Prop} {l : List E} (h : Rep w hb A l) : ∀ e ∈ l, W64 e.1 ∧ W64 e.2 := by
  rcases h.2 with ⟨rfl, _⟩ | ⟨g, cap, bm, D, es, m, _, _, _, hpe⟩
  · intro e he; simp at he
  · intro e he; exact m.wf e (hpe.mem_iff.2 he)

theorem new_any (w : World) :
    Calls Try.prog 16 #[] w fun e w' => e = .returned (.pointer (some ⟨w.heap.size, 0, none⟩)) ∧ Rep w' w.heap.size (fun k => k = w.heap.size) [] ∧ Step (fun _ => False) w w' := by
  have hr : ∀ w', w' = w.alloc (.cells #[.slice none 0 0, .map none] 50) → Rep w' w.heap.size (fun k => k = w.heap.size) [] ∧ Step (fun _ => False) w w' := by
    intro w' e
    subst e
    exact ⟨⟨rfl, .inl ⟨rfl, heap_alloc_new w _⟩⟩, (Step.refl _ w).alloc _⟩
  go_enter Try.func16, Try.ntmps16
  go_wp2
  go_ret
  exact ⟨rfl, hr _ rfl⟩

theorem len_any (hb : Nat) (A : Nat → Prop) (l : List E) (w : World) (h : Rep w hb A l) :
    Calls Try.prog 18 #[.pointer (some ⟨hb, 0, none⟩)] w fun e w' => e = .returned (.int .i64 l.length) ∧ w' = w := by
  rcases h.2 with ⟨rfl, h2⟩ | ⟨g, cap, bm, D, es, m, ag, ab, ho, hpe⟩
  · have h0 : w.cell? ⟨hb, 0, none⟩ = some (.slice none 0 0) := by simp [World.cell?, h2]
    go_enter Try.func18, Try.ntmps18
    go_wp2
    go_ret
    exact ⟨rfl, rfl⟩
  · have h0 := m.h0
    have hl := m.len
    rw [← hpe.length_eq]
    go_enter Try.func18, Try.ntmps18
    go_wp2
    go_ret
    exact ⟨rfl, rfl⟩

end Go.Proofs.Ythhhakglchcfgaa.HW
