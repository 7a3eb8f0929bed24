/- Any intervals, one behind the other: what lies in memory; and the document's Min. -/
import Derived.Test.YtoinbdjjimfdgaaMetOneP
namespace Go.Proofs.Ytoinbdjjimfdgaa.MT
open Go.ChangeShapes Go.WideShapes Go.ChangeAt Go.RowKit Go.Proofs.Ytoinbdjjimfdgaa.AR Go.Proofs.Ytoinbdjjimfdgaa.TB

/-- a machine's box, and a meter's and an array's block, beside what was there -/
structure AW (w W : World) (gm gw : Nat) (c0 c1 c2 : Value) (idle crit sw swe sems hor a b c d a' b' c' d' : Int) : Prop where
  kp : Kp w W
  pb : W.heap[w.heap.size]? = some (.cells #[c0, c1, c2, .int .i64 idle, .int .i64 crit, .int .i64 sw, .int .i64 swe, .int .i64 sems, .int .i64 hor] 26 (0, 0))
  m : B4 W gm 36 a b c d
  v : B4 W gw 37 a' b' c' d'
  gm0 : w.heap.size < gm
  gw0 : gm < gw

theorem AW.cells {w W : World} {gm gw : Nat} {c0 c1 c2 : Value} {idle crit sw swe sems hor a b c d a' b' c' d' : Int} (h : AW w W gm gw c0 c1 c2 idle crit sw swe sems hor a b c d a' b' c' d') :
    W.cell? ⟨w.heap.size, 0, none⟩ = some c0 ∧ W.cell? ⟨w.heap.size, 1, none⟩ = some c1 ∧ W.cell? ⟨w.heap.size, 2, none⟩ = some c2 ∧ W.cell? ⟨w.heap.size, 3, none⟩ = some (.int .i64 idle) ∧ W.cell? ⟨w.heap.size, 4, none⟩ = some (.int .i64 crit) ∧
      W.cell? ⟨w.heap.size, 5, none⟩ = some (.int .i64 sw) ∧ W.cell? ⟨w.heap.size, 6, none⟩ = some (.int .i64 swe) ∧ W.cell? ⟨w.heap.size, 7, none⟩ = some (.int .i64 sems) ∧ W.cell? ⟨w.heap.size, 8, none⟩ = some (.int .i64 hor) := by
  refine ⟨?_, ?_, ?_, ?_, ?_, ?_, ?_, ?_, ?_⟩ <;> simp [World.cell?, h.pb]

theorem AW.still {w W W' : World} {gm gw : Nat} {c0 c1 c2 : Value} {idle crit sw swe sems hor a b c d a' b' c' d' : Int} (h : AW w W gm gw c0 c1 c2 idle crit sw swe sems hor a b c d a' b' c' d') (k : Kp W W') : AW w W' gm gw c0 c1 c2 idle crit sw swe sems hor a b c d a' b' c' d' :=
  ⟨h.kp.trans k, (k.block _ (Nat.lt_trans h.gm0 h.m.lt)).trans h.pb, h.m.kept k, h.v.kept k, h.gm0, h.gw0⟩

/-- a store into the meter -/
theorem AW.setM {w W : World} {gm gw : Nat} {c0 c1 c2 : Value} {idle crit sw swe sems hor a b c d a' b' c' d' : Int} (h : AW w W gm gw c0 c1 c2 idle crit sw swe sems hor a b c d a' b' c' d') (x y z u : Int) :
    ∀ W2, ((((W.setCell ⟨gm, 0, none⟩ (.int .i64 x)).setCell ⟨gm, 1, none⟩ (.int .i64 y)).setCell ⟨gm, 2, none⟩ (.int .i64 z)).setCell ⟨gm, 3, none⟩ (.int .i64 u)) = W2 → AW w W2 gm gw c0 c1 c2 idle crit sw swe sems hor x y z u a' b' c' d' := by
  intro W2 e
  subst e
  have g0 := h.gm0
  have g1 := h.gw0
  have o : ∀ (X : World) i (v : Value), (X.setCell ⟨gm, i, none⟩ v).heap[w.heap.size]? = X.heap[w.heap.size]? := fun X i v => heap_setCell_other X ⟨gm, i, none⟩ w.heap.size v (by show w.heap.size ≠ gm; omega)
  refine ⟨?_, ?_, ?_, ?_, g0, g1⟩
  · exact (((h.kp.setCell (p := ⟨gm, 0, none⟩) (Nat.le_of_lt g0) _).setCell (p := ⟨gm, 1, none⟩) (Nat.le_of_lt g0) _).setCell (p := ⟨gm, 2, none⟩) (Nat.le_of_lt g0) _).setCell (p := ⟨gm, 3, none⟩) (Nat.le_of_lt g0) _
  · rw [o, o, o, o]; exact h.pb
  · exact (((h.m.set0 x).set1 y).set2 z).set3 u
  · have n : ∀ i, (⟨gm, i, none⟩ : Addr).block ≠ gw := fun i => by show gm ≠ gw; omega
    exact (((h.v.other (n 0) _).other (n 1) _).other (n 2) _).other (n 3) _

theorem B4.setBump {W : World} {g : Nat} {t : TypeId} {a b c d : Int} (h : B4 W g t a b c d) {kind co x : Int} {q : Nat} (hp : place kind = q) (hq : q < 4) (hx : x = wrap64 (nth a b c d q + co)) :
    B4 (W.setCell ⟨g, q, none⟩ (.int .i64 x)) g t (bump kind co 0 a) (bump kind co 1 b) (bump kind co 2 c) (bump kind co 3 d) := by
  subst hx
  unfold bump
  rw [hp]
  match q, hq with
  | 0, _ => exact h.set0 _
  | 1, _ => exact h.set1 _
  | 2, _ => exact h.set2 _
  | 3, _ => exact h.set3 _

theorem B4.frz {W : World} {g : Nat} {t : TypeId} {a b c d : Int} (h : B4 W g t a b c d) {k : Nat} (hk : k < 4) : W.frozen? ⟨g, k, none⟩ = false := by
  match k, hk with
  | 0, _ => exact h.f0
  | 1, _ => exact h.f1
  | 2, _ => exact h.f2
  | 3, _ => exact h.f3

/-- a store into the array -/
theorem AW.setV {w W : World} {gm gw : Nat} {c0 c1 c2 : Value} {idle crit sw swe sems hor a b c d a' b' c' d' : Int} (h : AW w W gm gw c0 c1 c2 idle crit sw swe sems hor a b c d a' b' c' d') {kind co x : Int} {q : Nat} (hp : place kind = q) (hq : q < 4) (hx : x = wrap64 (nth a' b' c' d' q + co)) :
    AW w (W.setCell ⟨gw, q, none⟩ (.int .i64 x)) gm gw c0 c1 c2 idle crit sw swe sems hor a b c d (bump kind co 0 a') (bump kind co 1 b') (bump kind co 2 c') (bump kind co 3 d') := by
  have g0 := h.gm0
  have g1 := h.gw0
  refine ⟨h.kp.setCell (p := ⟨gw, q, none⟩) (by show w.heap.size ≤ gw; omega) _, ?_, ?_, h.v.setBump hp hq hx, g0, g1⟩
  · rw [heap_setCell_other W ⟨gw, q, none⟩ w.heap.size _ (by show w.heap.size ≠ gw; omega)]; exact h.pb
  · exact h.m.other (p := ⟨gw, q, none⟩) (by show gw ≠ gm; omega) _

theorem aw_new {w w1 W : World} {c0 c1 c2 : Value} {idle crit sw swe sems hor : Int} (k : Kp (w.alloc (.cells #[c0, c1, c2, .int .i64 idle, .int .i64 crit, .int .i64 sw, .int .i64 swe, .int .i64 sems, .int .i64 hor] 26)) w1)
    (e : W = (w1.alloc (.cells #[.int .i64 0, .int .i64 0, .int .i64 0, .int .i64 0] 36)).alloc (.cells #[.int .i64 0, .int .i64 0, .int .i64 0, .int .i64 0] 37)) :
    AW w W w1.heap.size (w1.heap.size + 1) c0 c1 c2 idle crit sw swe sems hor 0 0 0 0 0 0 0 0 := by
  subst e
  have hs := k.size
  simp only [World.size_alloc] at hs
  have kk := ((Kp.refl w1).alloc (.cells #[.int .i64 0, .int .i64 0, .int .i64 0, .int .i64 0] 36)).alloc (.cells #[.int .i64 0, .int .i64 0, .int .i64 0, .int .i64 0] 37)
  refine ⟨((Kp.refl w).alloc _).trans (k.trans kk), ?_, new4 ((Kp.refl _).alloc _), ?_, by omega, by omega⟩
  · rw [(k.trans kk).block w.heap.size (by simp)]
    exact heap_alloc_at w _
  · have q := new4 (Kp.refl ((w1.alloc (.cells #[.int .i64 0, .int .i64 0, .int .i64 0, .int .i64 0] 36)).alloc (.cells #[.int .i64 0, .int .i64 0, .int .i64 0, .int .i64 0] 37)))
    simp only [World.size_alloc] at q
    exact q

theorem place_in {kind : Int} (h : 1 ≤ kind ∧ kind ≤ 6) : (place kind : Int) = if kind - 1 < 3 then kind - 1 else 3 := by
  unfold place
  repeat' split
  all_goals omega

theorem place_out {kind : Int} (h : ¬ (1 ≤ kind ∧ kind ≤ 6)) : place kind = 4 := by
  unfold place
  rw [if_neg (by omega), if_neg (by omega), if_neg (by omega), if_neg (by omega), if_neg (by omega), if_neg (by omega)]

theorem bump_out {kind co a : Int} {j : Nat} (h : ¬ (1 ≤ kind ∧ kind ≤ 6)) (hj : j < 4) : bump kind co j a = a := by
  unfold bump
  rw [place_out h, if_neg (by omega)]

theorem min_any (a b : Int) (w : World) :
    Calls Try.prog 13 #[.int .i64 a, .int .i64 b] w fun e w' => e = .returned (.int .i64 (if a < b then a else b)) ∧ w = w' := by
  by_cases h : a < b
  · rw [if_pos h]
    go_enter Try.func13, Try.ntmps13
    go_wp2
    go_ret
    exact ⟨rfl, rfl⟩
  · rw [if_neg h]
    go_enter Try.func13, Try.ntmps13
    go_wp2
    go_ret
    exact ⟨rfl, rfl⟩

theorem min_place {kind : Int} (h : 1 ≤ kind ∧ kind ≤ 6) (w : World) :
    Calls Try.prog 13 #[.int .i64 (kind - 1), .int .i64 3] w fun e w' => e = .returned (.int .i64 (place kind : Int)) ∧ w = w' := by
  rw [place_in h]
  exact min_any _ _ w

/-- an interval of a list lies there, in every world to come -/
theorem rec_cells6 {w : World} {ao : Option Addr} {len : Nat} {rows : List (List Int)} {k : Nat} (h : RecAt w 6 ao len rows) (hk : k < len) :
    ∃ b off, ao = some ⟨b, off, none⟩ ∧ b < w.heap.size ∧ ∃ x0 x1 x2 x3 x4 x5 : Int, ∀ W', Kp w W' → W'.cell? ⟨b, off + k * 6, none⟩ = some (.int .i64 x0) ∧ W'.cell? ⟨b, off + k * 6 + 1, none⟩ = some (.int .i64 x1) ∧ W'.cell? ⟨b, off + k * 6 + 2, none⟩ = some (.int .i64 x2) ∧
      W'.cell? ⟨b, off + k * 6 + 3, none⟩ = some (.int .i64 x3) ∧ W'.cell? ⟨b, off + k * 6 + 4, none⟩ = some (.int .i64 x4) ∧ W'.cell? ⟨b, off + k * 6 + 5, none⟩ = some (.int .i64 x5) := by
  obtain ⟨b, off, e, hb, hc⟩ := fd_at h hk (Kp.refl w)
  refine ⟨b, off, e, hb, fd rows k 0, fd rows k 1, fd rows k 2, fd rows k 3, fd rows k 4, fd rows k 5, fun W' kp => ?_⟩
  have q : ∀ j, W'.cell? ⟨b, j, none⟩ = w.cell? ⟨b, j, none⟩ := fun j => kp.cell hb
  exact ⟨(q _).trans (hc 0 (by omega)), (q _).trans (hc 1 (by omega)), (q _).trans (hc 2 (by omega)), (q _).trans (hc 3 (by omega)), (q _).trans (hc 4 (by omega)), (q _).trans (hc 5 (by omega))⟩

end Go.Proofs.Ytoinbdjjimfdgaa.MT
