/- Lists of numbers in memory of their own; a copy of one. -/
import Derived.Test.YtilafcplijgjjaaTskUse
import Derived.Laws.CopyOwn
import Derived.WalkSpells
namespace Go.Proofs.Ytilafcplijgjjaa.TK
open Go.ChangeShapes Go.WideShapes Go.ChangeAt Go.RowKit Go.Proofs.Ytilafcplijgjjaa.AR Go.Proofs.Ytilafcplijgjjaa.TB

/-- a list of numbers in a block of its own, from base on -/
structure Row (w : World) (base : Nat) (ao : Option Addr) (len : Nat) (zs : List Int) : Prop where
  ln : zs.length = len
  ok : ∀ z ∈ zs, I64 z
  by' : len * 8 ≤ 140737488351232
  lie : len = 0 ∨ ∃ g, ao = some ⟨g, 0, none⟩ ∧ base ≤ g ∧ w.heap[g]? = some (.cells (zs.map (Value.int .i64)).toArray 3 (0, 0))

theorem lt_blk {w : World} {g : Nat} {o : Obj} (h : w.heap[g]? = some o) : g < w.heap.size := (Array.getElem?_eq_some_iff.1 h).1
theorem kp_block {w w' : World} {g : Nat} {o : Obj} (h : w.heap[g]? = some o) (k : Kp w w') : w'.heap[g]? = some o := (k.block g (lt_blk h)).trans h
theorem set_other (w : World) (p : Addr) (v : Value) {g : Nat} (h : g ≠ p.block) : (w.setCell p v).heap[g]? = w.heap[g]? := by
  obtain ⟨b, i, s⟩ := p
  cases s with
  | none => simp [World.setCell, Array.getElem?_modify, Ne.symm h]
  | some q => simp [World.setCell, Array.getElem?_modify, Ne.symm h]

theorem Row.kept {w w' : World} {base : Nat} {ao : Option Addr} {len : Nat} {zs : List Int} (h : Row w base ao len zs) (k : Kp w w') : Row w' base ao len zs :=
  ⟨h.ln, h.ok, h.by', h.lie.imp (fun q => q) (fun ⟨g, e, hb, hg⟩ => ⟨g, e, hb, kp_block hg k⟩)⟩
theorem Row.low {w : World} {base base' : Nat} {ao : Option Addr} {len : Nat} {zs : List Int} (h : Row w base ao len zs) (hb : base' ≤ base) : Row w base' ao len zs :=
  ⟨h.ln, h.ok, h.by', h.lie.imp (fun q => q) (fun ⟨g, e, h1, hg⟩ => ⟨g, e, Nat.le_trans hb h1, hg⟩)⟩
theorem Row.other {w : World} {base : Nat} {ao : Option Addr} {len : Nat} {zs : List Int} (h : Row w base ao len zs) {p : Addr} (hp : p.block < base) (v : Value) : Row (w.setCell p v) base ao len zs :=
  ⟨h.ln, h.ok, h.by', h.lie.imp (fun q => q) (fun ⟨g, e, h1, hg⟩ => ⟨g, e, h1, (set_other w p v (by omega)).trans hg⟩)⟩
theorem Row.nat {w : World} {base : Nat} {ao : Option Addr} {len : Nat} {zs : List Int} (h : Row w base ao len zs) : NAt w ao len zs := by
  refine ⟨⟨h.ln, h.ok, ?_⟩, h.by'⟩
  rcases h.lie with h0 | ⟨g, e, h1, hg⟩
  · exact .inl h0
  · refine .inr ⟨g, 0, e, lt_blk hg, fun i hi => ?_⟩
    have hl : i < zs.length := by rw [h.ln]; exact hi
    simp [World.cell?, hg, List.getD_eq_getElem?_getD, List.getElem?_eq_getElem hl]

theorem int_info : (Try.prog.info? 3).map (fun i => (i.zero, i.size, i.bytes)) = some (some (.int .i64 0), 1, 8) := by kernel_rfl

theorem splice_all {α : Type} (L cs : List α) (h : cs.length = L.length) : splice L 0 cs = cs := by simp [splice, h]

theorem row_block {w : World} {base : Nat} {e : TypeId} {g n cap : Nat} {xs : List Value} (h : w.ownsRow base e 1 (.slice (some ⟨g, 0, none⟩) n cap) n xs) (hc : cap = n) :
    Hid (w.heap[g]? = some (.cells xs.toArray e (0, 0))) ∧ xs.length = n := by
  obtain ⟨hl, ⟨h0, _⟩ | ⟨g', cap', cur, hv, _, hg, _, _, hs, ht⟩⟩ := h
  · cases h0
  · simp only [Value.slice.injEq, Option.some.injEq, Addr.mk.injEq, and_true, true_and] at hv
    obtain ⟨rfl, rfl⟩ := hv
    subst hc
    have hx : cur.toList = xs := by
      rw [← ht, List.take_of_length_le]
      simp [hs]
    refine ⟨?_, by omega⟩
    have : xs.toArray = cur := by rw [← hx]
    rw [this]
    exact hg

theorem copy_pos {w1 : World} {a : Addr} {len : Nat} {zs : List Int} (HN : NAt w1 (some a) len zs) (d : Addr) : 0 < (zs.map (Value.int .i64)).length → some d = some d ∧ ∃ ad, some a = some ad ∧ ∀ j v, (zs.map (Value.int .i64))[j]? = some v → w1.cell? (ad.add j) = some v := by
  intro _
  refine ⟨rfl, a, rfl, fun j v hj => ?_⟩
  have hjl : j < len := by
    have := (List.getElem?_eq_some_iff.1 hj).1
    rw [List.length_map, HN.at'.1] at this
    exact this
  obtain ⟨b, off, e, hb, hc⟩ := HN.one hjl
  cases e
  have hzl : j < zs.length := by rw [HN.at'.1]; exact hjl
  rw [List.getElem?_map, List.getElem?_eq_getElem hzl] at hj
  simp only [Option.map_some, Option.some.injEq] at hj
  subst hj
  rw [add_plain, hc]
  simp [List.getD_eq_getElem?_getD, List.getElem?_eq_getElem hzl]

/-! ### a block with a task in it -/

structure B4 (w : World) (g : Nat) (a b c d : Value) : Prop where
  blk : w.heap[g]? = some (.cells #[a, b, c, d] 39 (0, 0))
theorem B4.lt {w : World} {g : Nat} {a b c d : Value} (h : B4 w g a b c d) : g < w.heap.size := lt_blk h.blk
theorem B4.all {w : World} {g : Nat} {a b c d : Value} (h : B4 w g a b c d) : w.cell? ⟨g, 0, none⟩ = some a ∧ w.cell? ⟨g, 1, none⟩ = some b ∧ w.cell? ⟨g, 2, none⟩ = some c ∧ w.cell? ⟨g, 3, none⟩ = some d := by simp [World.cell?, h.blk]
theorem B4.fr {w : World} {g : Nat} {a b c d : Value} (h : B4 w g a b c d) (j : Nat) : w.frozen? ⟨g, j, none⟩ = false := by simp [World.frozen?, h.blk]
theorem B4.kp {w w' : World} {g : Nat} {a b c d : Value} (h : B4 w g a b c d) (k : Kp w w') : B4 w' g a b c d := ⟨kp_block h.blk k⟩
theorem b4_new {w w' : World} {a b c d : Value} (k : Kp (w.alloc (.cells #[a, b, c, d] 39)) w') : B4 w' w.heap.size a b c d := B4.kp ⟨heap_alloc_at w _⟩ k
theorem B4.other {w : World} {g : Nat} {a b c d : Value} (h : B4 w g a b c d) {p : Addr} (hp : g ≠ p.block) (v : Value) : B4 (w.setCell p v) g a b c d := ⟨(set_other w p v hp).trans h.blk⟩
theorem B4.set2 {w : World} {g : Nat} {a b c d : Value} (h : B4 w g a b c d) (v : Value) : B4 (w.setCell ⟨g, 2, none⟩ v) g a b v d := ⟨(heap_setCell_same w g 2 _ _ v h.blk).trans rfl⟩
theorem B4.set3 {w : World} {g : Nat} {a b c d : Value} (h : B4 w g a b c d) (v : Value) : B4 (w.setCell ⟨g, 3, none⟩ v) g a b c v := ⟨(heap_setCell_same w g 3 _ _ v h.blk).trans rfl⟩
theorem B4.set0 {w : World} {g : Nat} {a b c d : Value} (h : B4 w g a b c d) (v : Value) : B4 (w.setCell ⟨g, 0, none⟩ v) g v b c d := ⟨(heap_setCell_same w g 0 _ _ v h.blk).trans rfl⟩
theorem B4.set1 {w : World} {g : Nat} {a b c d : Value} (h : B4 w g a b c d) (v : Value) : B4 (w.setCell ⟨g, 1, none⟩ v) g a v c d := ⟨(heap_setCell_same w g 1 _ _ v h.blk).trans rfl⟩
theorem B4.setAll {w : World} {g : Nat} {a b c d : Value} (h : B4 w g a b c d) (x y z u : Value) : B4 ((((w.setCell ⟨g, 0, none⟩ x).setCell ⟨g, 1, none⟩ y).setCell ⟨g, 2, none⟩ z).setCell ⟨g, 3, none⟩ u) g x y z u := (((h.set0 x).set1 y).set2 z).set3 u
theorem tkp_drewN (w : World) (n : Nat) : Kp w (w.drewN n) := ⟨rfl, rfl, rfl, Nat.le_refl _, fun _ _ => rfl⟩
theorem tkp_drew (w : World) : Kp w w.drew := (Kp.refl w).drew

/-- the world when Own's lists are copied and stored -/
theorem own_stored {w W0 w1 w2 : World} {sa da : Option Addr} {sl dl : Nat} {sz dz : List Int} {p c s d z0 z1 z2 z3 : Value} (K0 : Kp w W0) (X0 : B4 W0 w.heap.size p c s d) (Y0 : B4 W0 (w.heap.size + 1) z0 z1 z2 z3)
    (k1 : Kp W0 w1) (k2 : Kp w1 w2) {b1 b2 : Nat} (hb1 : w.heap.size + 1 < b1) (hb2 : w.heap.size + 1 < b2) (rS : Row w1 b1 sa sl sz) (rD : Row w2 b2 da dl dz) (x y : Value) :
    ∃ W3, Hid (W3 = (w2.setCell ⟨w.heap.size, 2, none⟩ x).setCell ⟨w.heap.size, 3, none⟩ y) ∧ Kp w W3 ∧ B4 W3 w.heap.size p c x y ∧ B4 W3 (w.heap.size + 1) z0 z1 z2 z3 ∧ Row W3 (w.heap.size + 2) sa sl sz ∧ Row W3 (w.heap.size + 2) da dl dz := by
  refine ⟨_, rfl, ?_, ?_, ?_, ?_, ?_⟩
  · exact ((((K0.trans k1).trans k2).setCell (p := ⟨w.heap.size, 2, none⟩) (Nat.le_refl _) x).setCell (p := ⟨w.heap.size, 3, none⟩) (Nat.le_refl _) y)
  · exact ((((X0.kp k1).kp k2).set2 x).set3 y)
  · exact (((Y0.kp k1).kp k2).other (p := ⟨w.heap.size, 2, none⟩) (by simp) x).other (p := ⟨w.heap.size, 3, none⟩) (by simp) y
  · exact (((rS.kept k2).low hb1).other (p := ⟨w.heap.size, 2, none⟩) (by simp; omega) x).other (p := ⟨w.heap.size, 3, none⟩) (by simp; omega) y
  · exact ((rD.low hb2).other (p := ⟨w.heap.size, 2, none⟩) (by simp; omega) x).other (p := ⟨w.heap.size, 3, none⟩) (by simp; omega) y

/-- and when the task is stored where it is answered -/
theorem own_last {w W3 : World} {sa da : Option Addr} {sl dl : Nat} {sz dz : List Int} {z0 z1 z2 z3 : Value} (K3 : Kp w W3) (Y3 : B4 W3 (w.heap.size + 1) z0 z1 z2 z3)
    (rS : Row W3 (w.heap.size + 2) sa sl sz) (rD : Row W3 (w.heap.size + 2) da dl dz) (x y z u : Value) :
    ∃ W4, Hid (W4 = (((W3.setCell ⟨w.heap.size + 1, 0, none⟩ x).setCell ⟨w.heap.size + 1, 1, none⟩ y).setCell ⟨w.heap.size + 1, 2, none⟩ z).setCell ⟨w.heap.size + 1, 3, none⟩ u) ∧ Kp w W4 ∧ B4 W4 (w.heap.size + 1) x y z u ∧ Row W4 w.heap.size sa sl sz ∧ Row W4 w.heap.size da dl dz := by
  have hh : w.heap.size ≤ w.heap.size + 1 := Nat.le_succ _
  have hr : ∀ {ao : Option Addr} {len : Nat} {zs : List Int}, Row W3 (w.heap.size + 2) ao len zs → Row ((((W3.setCell ⟨w.heap.size + 1, 0, none⟩ x).setCell ⟨w.heap.size + 1, 1, none⟩ y).setCell ⟨w.heap.size + 1, 2, none⟩ z).setCell ⟨w.heap.size + 1, 3, none⟩ u) w.heap.size ao len zs := fun r =>
    ((((r.other (p := ⟨w.heap.size + 1, 0, none⟩) (by simp) x).other (p := ⟨w.heap.size + 1, 1, none⟩) (by simp) y).other (p := ⟨w.heap.size + 1, 2, none⟩) (by simp) z).other (p := ⟨w.heap.size + 1, 3, none⟩) (by simp) u).low (by omega)
  exact ⟨_, rfl, (((K3.setCell (p := ⟨w.heap.size + 1, 0, none⟩) hh x).setCell (p := ⟨w.heap.size + 1, 1, none⟩) hh y).setCell (p := ⟨w.heap.size + 1, 2, none⟩) hh z).setCell (p := ⟨w.heap.size + 1, 3, none⟩) hh u, Y3.setAll x y z u, hr rS, hr rD⟩

end Go.Proofs.Ytilafcplijgjjaa.TK
