/- How a heap lies in memory: its block, the row of its entries, the map of their places; and what a store into them makes of it. -/
import Derived.Test.YthhhakglchcfgaaRows
import Derived.Test.YthhhakglchcfgaaPlain
import Derived.WalkKit
import Derived.ProofKit
import Derived.OpenShut
import Derived.Maps.OwnSet
namespace Go.Proofs.Ythhhakglchcfgaa.HM
open Go.RowKit Go.Proofs.Ythhhakglchcfgaa.HP Go.Maps

/-- the bounds of an int -/
def W64 (x : Int) : Prop := -9223372036854775808 ≤ x ∧ x ≤ 9223372036854775807
theorem W64.wf {x : Int} (h : W64 x) : (Lit.int .i64 x).wf = true := WalkArith.wf_i64 h

theorem law3 : Keyed Try.prog 3 := int_keyed Try.underlying3
theorem zero3 (w : World) : (zeroValue 3).run Try.prog w = .ok (.int .i64 0) w := by kernel_rfl

abbrev ky (x : Int) : Lit := .int .i64 x
abbrev di (x : Int) : DataW Unit := .lit (.int .i64 x)

theorem ik (x : Int) : WideAt.IsKeyLit (ky x) := trivial
theorem ky_ne {x y : Int} (h : x ≠ y) : ky x ≠ ky y := by intro e; simp [ky] at e; exact h e

/-- the cells of a row of entries -/
def flat : List E → List Value
  | [] => []
  | e :: r => .int .i64 e.1 :: .int .i64 e.2 :: flat r

theorem flat_len : ∀ es : List E, (flat es).length = es.length * 2
  | [] => rfl
  | e :: r => by simp [flat, flat_len r]; omega
theorem flat_append : ∀ (es fs : List E), flat (es ++ fs) = flat es ++ flat fs
  | [], fs => rfl
  | e :: r, fs => by simp [flat, flat_append r fs]
theorem flat_get : ∀ (es : List E) (i : Nat), i < es.length → (flat es)[i * 2]? = some (.int .i64 (at' es i).1) ∧ (flat es)[i * 2 + 1]? = some (.int .i64 (at' es i).2)
  | [], i, h => by simp at h
  | e :: r, 0, _ => by simp [flat, at']
  | e :: r, i + 1, h => by
    have := flat_get r i (by simpa using h)
    rw [show (i + 1) * 2 = i * 2 + 1 + 1 from by omega]
    simp only [flat, List.getElem?_cons_succ]
    simpa [at'] using this
theorem flat_set : ∀ (es : List E) (i : Nat) (x : E), i < es.length → ((flat es).set (i * 2) (.int .i64 x.1)).set (i * 2 + 1) (.int .i64 x.2) = flat (es.set i x)
  | [], i, x, h => by simp at h
  | e :: r, 0, x, _ => by simp [flat]
  | e :: r, i + 1, x, h => by
    have := flat_set r i x (by simpa using h)
    rw [show (i + 1) * 2 = i * 2 + 1 + 1 from by omega]
    simp only [flat, List.set_cons_succ]
    rw [this]
theorem flat_set_key : ∀ (es : List E) (i : Nat) (k : Int), i < es.length → (flat es).set (i * 2 + 1) (.int .i64 k) = flat (es.set i ((at' es i).1, k))
  | [], i, x, h => by simp at h
  | e :: r, 0, x, _ => by simp [flat, at']
  | e :: r, i + 1, x, h => by
    have := flat_set_key r i x (by simpa using h)
    rw [show (i + 1) * 2 + 1 = (i * 2 + 1) + 1 + 1 from by omega]
    simp only [flat, List.set_cons_succ]
    rw [this]
    simp [at']
theorem flat_take : ∀ (es : List E) (n : Nat), (flat es).take (n * 2) = flat (es.take n)
  | [], n => by simp [flat]
  | e :: r, 0 => by simp [flat]
  | e :: r, n + 1 => by
    rw [show (n + 1) * 2 = n * 2 + 1 + 1 from by omega]
    simp only [flat, List.take_succ_cons]
    rw [flat_take r n]

/-- the map has of each id its place, and nothing else -/
structure Ties (D : DataW Unit) (es : List E) : Prop where
  tidy : Tidy D
  size : Maps.size D = es.length
  get : ∀ i, i < es.length → Maps.has D (ky (at' es i).1) = true ∧ D.atKey (ky (at' es i).1) (di 0) = di i
  back : ∀ x, Maps.has D (ky x) = true → ∃ i, i < es.length ∧ (at' es i).1 = x

theorem Ties.inj {D : DataW Unit} {es : List E} (h : Ties D es) {i j : Nat} (hi : i < es.length) (hj : j < es.length) (e : (at' es i).1 = (at' es j).1) : i = j := by
  have h1 := (h.get i hi).2
  have h2 := (h.get j hj).2
  rw [e, h2] at h1
  simp [di] at h1
  omega

theorem Ties.nodup {D : DataW Unit} {es : List E} (h : Ties D es) : (ids es).Nodup := by
  rw [List.nodup_iff_pairwise_ne, List.pairwise_iff_getElem]
  intro i j hi hj hij e
  simp [ids] at hi hj e
  have := h.inj hi hj (by rw [at_get hi, at_get hj]; exact e)
  omega

theorem Ties.mem {D : DataW Unit} {es : List E} (h : Ties D es) (x : Int) : Maps.has D (ky x) = true ↔ x ∈ ids es := by
  constructor
  · intro q
    obtain ⟨i, hi, rfl⟩ := h.back x q
    exact List.mem_map_of_mem (at_mem hi)
  · intro q
    obtain ⟨e, he, rfl⟩ := List.mem_map.1 q
    obtain ⟨i, hi, rfl⟩ := List.getElem_of_mem he
    have := (h.get i hi).1
    rwa [at_get hi] at this

theorem ties_nil : Ties (.map []) [] := ⟨tidy_empty, rfl, fun i h => by simp at h, fun x h => by simp [Maps.has] at h⟩

theorem Ties.append {D : DataW Unit} {es : List E} (h : Ties D es) {x : E} (hx : x.1 ∉ ids es) : Ties (D.put (ky x.1) (di es.length)) (es ++ [x]) := by
  have hno : Maps.has D (ky x.1) = false := by
    cases q : Maps.has D (ky x.1) with
    | false => rfl
    | true => exact absurd ((h.mem x.1).1 q) hx
  refine ⟨h.tidy.put (ik _) _, ?_, fun i hi => ?_, fun y hy => ?_⟩
  · rw [size_put h.tidy, hno]; simp [h.size]
  · by_cases e : i = es.length
    · subst e
      rw [at_append_eq]
      exact ⟨has_put_same h.tidy.isMap (ik _) _, atKey_put_same h.tidy.isMap (ik _) _ _⟩
    · have hi' : i < es.length := by simp at hi; omega
      rw [at_append_lt hi']
      have hne : ky (at' es i).1 ≠ ky x.1 := ky_ne (fun q => hx (by rw [← q]; exact List.mem_map_of_mem (at_mem hi')))
      rw [has_put_other hne, atKey_put_other hne]
      exact h.get i hi'
  · by_cases e : y = x.1
    · exact ⟨es.length, by simp, by rw [at_append_eq, e]⟩
    · rw [has_put_other (ky_ne e)] at hy
      obtain ⟨i, hi, q⟩ := h.back y hy
      exact ⟨i, by simp; omega, by rw [at_append_lt hi]; exact q⟩

theorem Ties.setKey {D : DataW Unit} {es : List E} (h : Ties D es) {p : Nat} (hp : p < es.length) (k : Int) : Ties D (es.set p ((at' es p).1, k)) := by
  have ha : ∀ i, (at' (es.set p ((at' es p).1, k)) i).1 = (at' es i).1 := by
    intro i
    rw [at_set hp]
    split
    · rename_i e; rw [e]
    · rfl
  refine ⟨h.tidy, by rw [List.length_set]; exact h.size, fun i hi => ?_, fun y hy => ?_⟩
  · rw [List.length_set] at hi; rw [ha]; exact h.get i hi
  · obtain ⟨i, hi, q⟩ := h.back y hy
    exact ⟨i, by rw [List.length_set]; exact hi, by rw [ha]; exact q⟩

theorem Ties.put_size {D : DataW Unit} (ht : Tidy D) {x : Int} (hx : Maps.has D (ky x) = true) (d : DataW Unit) : Maps.size (D.put (ky x) d) = Maps.size D := by
  rw [size_put ht, if_pos hx]

theorem has_put_keep {D : DataW Unit} (ht : Tidy D) {x y : Int} (hx : Maps.has D (ky x) = true) (d : DataW Unit) : Maps.has (D.put (ky y) d) (ky x) = true := by
  by_cases e : x = y
  · subst e; exact has_put_same ht.isMap (ik _) _
  · rw [has_put_other (ky_ne e)]; exact hx

theorem Ties.swp {D : DataW Unit} {es : List E} (h : Ties D es) {a b : Nat} (ha : a < es.length) (hb : b < es.length) : Ties ((D.put (ky (at' es b).1) (di a)).put (ky (at' es a).1) (di b)) (swp es a b) := by
  have hA := (h.get a ha).1
  have hB := (h.get b hb).1
  have hA' := has_put_keep h.tidy (y := (at' es b).1) hA (di a)
  have t1 : Tidy (D.put (ky (at' es b).1) (di a)) := h.tidy.put (ik _) _
  refine ⟨t1.put (ik _) _, ?_, fun i hi => ?_, fun y hy => ?_⟩
  · rw [Ties.put_size t1 hA', Ties.put_size h.tidy hB, swp_len]; exact h.size
  · rw [swp_len] at hi
    rw [at_swp ha hb]
    by_cases e1 : i = b
    · subst e1
      rw [if_pos rfl]
      exact ⟨has_put_same t1.isMap (ik _) _, atKey_put_same t1.isMap (ik _) _ _⟩
    · rw [if_neg e1]
      by_cases e2 : i = a
      · subst e2
        rw [if_pos rfl]
        have hne : ky (at' es b).1 ≠ ky (at' es i).1 := ky_ne (fun q => e1 (h.inj hb hi q).symm)
        rw [has_put_other hne, atKey_put_other hne]
        exact ⟨has_put_same h.tidy.isMap (ik _) _, atKey_put_same h.tidy.isMap (ik _) _ _⟩
      · rw [if_neg e2]
        have n1 : ky (at' es i).1 ≠ ky (at' es a).1 := ky_ne (fun q => e2 (h.inj hi ha q))
        have n2 : ky (at' es i).1 ≠ ky (at' es b).1 := ky_ne (fun q => e1 (h.inj hi hb q))
        rw [has_put_other n1, atKey_put_other n1, has_put_other n2, atKey_put_other n2]
        exact h.get i hi
  · have hall : ∃ i, i < es.length ∧ (at' es i).1 = y := by
      by_cases e1 : y = (at' es a).1
      · exact ⟨a, ha, e1.symm⟩
      · rw [has_put_other (ky_ne e1)] at hy
        by_cases e2 : y = (at' es b).1
        · exact ⟨b, hb, e2.symm⟩
        · rw [has_put_other (ky_ne e2)] at hy
          exact h.back y hy
    obtain ⟨i, hi, q⟩ := hall
    by_cases e1 : i = a
    · exact ⟨b, by rw [swp_len]; exact hb, by rw [at_swp ha hb, if_pos rfl, ← e1]; exact q⟩
    · by_cases e2 : i = b
      · refine ⟨a, by rw [swp_len]; exact ha, ?_⟩
        rw [at_swp ha hb]
        by_cases e3 : a = b
        · rw [if_pos e3]; rw [e2, ← e3] at q; exact q
        · rw [if_neg e3, if_pos rfl, ← e2]; exact q
      · exact ⟨i, by rw [swp_len]; exact hi, by rw [at_swp ha hb, if_neg e2, if_neg e1]; exact q⟩

theorem Ties.pop {D : DataW Unit} {es : List E} (h : Ties D es) (hl : 0 < es.length) : Ties (D.del (ky (at' es (es.length - 1)).1)) (es.take (es.length - 1)) := by
  have hlen : (es.take (es.length - 1)).length = es.length - 1 := by simp
  have hlast := (h.get (es.length - 1) (by omega)).1
  refine ⟨h.tidy.del _, ?_, fun i hi => ?_, fun y hy => ?_⟩
  · have := size_del (k := ky (at' es (es.length - 1)).1) h.tidy
    rw [if_pos hlast, h.size] at this
    rw [hlen]; omega
  · rw [hlen] at hi
    rw [at_take hi]
    have hne : ky (at' es i).1 ≠ ky (at' es (es.length - 1)).1 := ky_ne (fun q => by have := h.inj (show i < es.length by omega) (show es.length - 1 < es.length by omega) q; omega)
    rw [has_del_other hne, atKey_del_other hne]
    exact h.get i (by omega)
  · by_cases e : y = (at' es (es.length - 1)).1
    · subst e; rw [has_del_same] at hy; cases hy
    · rw [has_del_other (ky_ne e)] at hy
      obtain ⟨i, hi, q⟩ := h.back y hy
      have : i ≠ es.length - 1 := fun q2 => e (by rw [← q2]; exact q.symm)
      exact ⟨i, by rw [hlen]; omega, by rw [at_take (by omega)]; exact q⟩

theorem own_tight {w : World} {P : Program} {k : TypeId} {R : Value → Option (DataW Unit × List MemPlace)} {b n : Nat} {D : DataW Unit} (h : w.ownsMap P k R b n D) : w.ownsMap P k R b (Maps.size D) D := by
  obtain ⟨es, clock, hb, F, _, rfl⟩ := h
  exact ⟨es, clock, hb, F, by simp [Maps.size, length_sorted], rfl⟩

theorem own_to {w : World} {P : Program} {k : TypeId} {R : Value → Option (DataW Unit × List MemPlace)} {b n m : Nat} {D : DataW Unit} (h : w.ownsMap P k R b n D) (hm : Maps.size D = m) : w.ownsMap P k R b m D := hm ▸ own_tight h

/-- what was there is as it was, but for the blocks that A names -/
structure Step (A : Nat → Prop) (w w' : World) : Prop where
  os : w'.os = w.os
  tape : w'.tape = w.tape
  output : w'.output = w.output
  size : w.heap.size ≤ w'.heap.size
  block : ∀ k, k < w.heap.size → ¬ A k → w'.heap[k]? = w.heap[k]?

theorem Step.refl (A : Nat → Prop) (w : World) : Step A w w := ⟨rfl, rfl, rfl, Nat.le_refl _, fun _ _ _ => rfl⟩
theorem Step.trans {A : Nat → Prop} {a b c : World} (h : Step A a b) (k : Step A b c) : Step A a c :=
  ⟨k.os.trans h.os, k.tape.trans h.tape, k.output.trans h.output, Nat.le_trans h.size k.size, fun i hi hA => (k.block i (Nat.lt_of_lt_of_le hi h.size) hA).trans (h.block i hi hA)⟩
theorem Step.mono {A B : Nat → Prop} {a b : World} (h : Step A a b) (hAB : ∀ k, k < a.heap.size → A k → B k) : Step B a b :=
  ⟨h.os, h.tape, h.output, h.size, fun i hi hB => h.block i hi (fun q => hB (hAB i hi q))⟩
theorem Step.drew {A : Nat → Prop} {a b : World} (h : Step A a b) : Step A a b.drew := ⟨h.os, h.tape, h.output, h.size, h.block⟩
theorem Step.alloc {A : Nat → Prop} {a b : World} (h : Step A a b) (o : Obj) : Step A a (b.alloc o) :=
  h.trans ⟨rfl, rfl, rfl, by simp, fun k hk _ => Below.heap_alloc _ _ _ hk⟩
theorem Step.setCell {A : Nat → Prop} {a b : World} (h : Step A a b) {p : Addr} (hp : A p.block) (u : Value) : Step A a (b.setCell p u) :=
  h.trans ⟨rfl, rfl, rfl, by simp [World.setCell], fun k _ hk => Below.heap_setCell _ _ _ _ (fun e => hk (e ▸ hp))⟩
theorem Step.grown {A : Nat → Prop} {a b c : World} {row : Option Nat} (h : Step A a b) (hg : b.grownBy c row) (hr : ∀ k, row = some k → A k) : Step A a c :=
  h.trans ⟨hg.os, hg.tape, hg.output, hg.size, fun k hk hA => hg.block k hk (fun e => hA (hr k e.symm))⟩
theorem Step.none {A : Nat → Prop} {w w' : World} (h : Step (fun _ => False) w.drew w') : Step A w w' := ⟨h.os, h.tape, h.output, h.size, fun k hk _ => h.block k hk id⟩
theorem Step.below {A : Nat → Prop} {a b : World} (h : Step A a b) {B : Nat} (hB : B ≤ a.heap.size) (hA : ∀ k, k < B → ¬ A k) : Below B a b :=
  ⟨h.os, h.tape, h.output, h.size, fun k hk => h.block k (by omega) (hA k hk)⟩
theorem Step.grownBy {A : Nat → Prop} {a b : World} (h : Step A a b) {row : Option Nat} (hA : ∀ k, A k → row = some k) : a.grownBy b row :=
  ⟨h.os, h.tape, h.output, h.size, fun k hk hne => h.block k hk (fun q => hne (hA k q).symm)⟩

/-- a row that nobody has touched -/
theorem row_kept {A : Nat → Prop} {w w' : World} (h : Step A w w') {base : Nat} {e : TypeId} {size : Nat} {v : Value} {n : Nat} {xs : List Value} (ho : w.ownsRow base e size v n xs) (hA : ∀ k, v.ownBlock = some k → ¬ A k) : w'.ownsRow base e size v n xs := by
  refine ⟨ho.1, ?_⟩
  rcases ho.2 with hn | ⟨g, cap, cur, rfl, hb, hgg, rest⟩
  · exact .inl hn
  · exact .inr ⟨g, cap, cur, rfl, hb, by rw [h.block g (Array.getElem?_eq_some_iff.1 hgg).1 (hA g rfl)]; exact hgg, rest⟩
theorem map_kept {A : Nat → Prop} {w w' : World} (h : Step A w w') {P : Program} {k : TypeId} {R : Value → Option (DataW Unit × List MemPlace)} {b n : Nat} {D : DataW Unit} (ho : w.ownsMap P k R b n D) (hA : ¬ A b) : w'.ownsMap P k R b n D := by
  obtain ⟨es, clock, hb, r⟩ := ho
  exact ⟨es, clock, by rw [h.block b (Array.getElem?_eq_some_iff.1 hb).1 hA]; exact hb, r⟩

/-- the heap's block, its row and its map -/
structure Mem (w : World) (hb g cap bm : Nat) (D : DataW Unit) (es : List E) : Prop where
  blk : w.heap[hb]? = some (.cells #[.slice (some ⟨g, 0, none⟩) es.length cap, .map (some bm)] 50 (0, 0))
  row : w.ownsRow (hb + 1) 52 2 (.slice (some ⟨g, 0, none⟩) es.length cap) es.length (flat es)
  map : w.ownsMap Try.prog 3 (plainElem Try.prog 3) bm es.length D
  wf : ∀ e ∈ es, W64 e.1 ∧ W64 e.2
  ties : Ties D es
  len : es.length ≤ 8796093022208

section
variable {w : World} {hb g cap bm : Nat} {D : DataW Unit} {es : List E}

theorem Mem.h0 (m : Mem w hb g cap bm D es) : w.cell? ⟨hb, 0, none⟩ = some (.slice (some ⟨g, 0, none⟩) es.length cap) := by simp [World.cell?, m.blk]
theorem Mem.h1 (m : Mem w hb g cap bm D es) : w.cell? ⟨hb, 1, none⟩ = some (.map (some bm)) := by simp [World.cell?, m.blk]
theorem Mem.f0 (m : Mem w hb g cap bm D es) (i : Nat) : w.frozen? ⟨hb, i, none⟩ = false := by simp [World.frozen?, m.blk]
theorem Mem.c0 (m : Mem w hb g cap bm D es) {i : Nat} (h : i < es.length) : w.cell? ⟨g, i * 2, none⟩ = some (.int .i64 (at' es i).1) := by
  rw [m.row.cellAt (i * 2) (by omega)]; exact (flat_get es i h).1
theorem Mem.c1 (m : Mem w hb g cap bm D es) {i : Nat} (h : i < es.length) : w.cell? ⟨g, i * 2 + 1, none⟩ = some (.int .i64 (at' es i).2) := by
  rw [m.row.cellAt (i * 2 + 1) (by omega)]; exact (flat_get es i h).2
theorem Mem.fr (m : Mem w hb g cap bm D es) (i : Nat) : w.frozen? ⟨g, i, none⟩ = false := m.row.frozenAt i
theorem Mem.gh (m : Mem w hb g cap bm D es) : hb < g := by
  have := (m.row.lt g rfl).1; omega
theorem Mem.row_at (m : Mem w hb g cap bm D es) : ∃ cur, w.heap[g]? = some (.cells cur 52 (0, 0)) := by
  rcases m.row.2 with ⟨h, _⟩ | ⟨g', cap', cur, h, _, hg, _⟩
  · simp at h
  · simp only [Value.slice.injEq, Option.some.injEq, Addr.mk.injEq, and_true, true_and] at h
    obtain ⟨rfl, rfl⟩ := h
    exact ⟨cur, hg⟩
theorem Mem.bg (m : Mem w hb g cap bm D es) : bm ≠ g := by
  intro e
  obtain ⟨cur, hc⟩ := m.row_at
  obtain ⟨es', clock, hm, _⟩ := m.map
  rw [e, hc] at hm; simp at hm
theorem Mem.bh (m : Mem w hb g cap bm D es) : bm ≠ hb := by
  intro e
  have hc := m.blk
  obtain ⟨es', clock, hm, _⟩ := m.map
  rw [e, hc] at hm; simp at hm
theorem Mem.ltH (m : Mem w hb g cap bm D es) : hb < w.heap.size := lt_of_block m.blk
theorem Mem.ltG (m : Mem w hb g cap bm D es) : g < w.heap.size := (m.row.lt g rfl).2
theorem Mem.ltB (m : Mem w hb g cap bm D es) : bm < w.heap.size := m.map.lt
theorem Mem.wfi (m : Mem w hb g cap bm D es) {i : Nat} (h : i < es.length) : W64 (at' es i).1 ∧ W64 (at' es i).2 := m.wf _ (at_mem h)

/-- whatever happens elsewhere -/
theorem Mem.kept {A : Nat → Prop} {w' : World} (m : Mem w hb g cap bm D es) (h : Step A w w') (a1 : ¬ A hb) (a2 : ¬ A g) (a3 : ¬ A bm) : Mem w' hb g cap bm D es :=
  ⟨by rw [h.block hb m.ltH a1]; exact m.blk, row_kept h m.row (fun k hk => by simp [Value.ownBlock] at hk; subst hk; exact a2), map_kept h m.map a3, m.wf, m.ties, m.len⟩

end

end Go.Proofs.Ythhhakglchcfgaa.HM
