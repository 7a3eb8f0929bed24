/- What the document's own Due answers. -/
import Derived.Test.YtbicaknenphcbaaTRef
import Derived.Deep.RegionHeld3
namespace Go.Proofs.Ytbicaknenphcbaa.HW
open Go.ChangeShapes Go.WideShapes Go.ChangeAt Go.RowKit Go.Proofs.Ytbicaknenphcbaa.HP Go.Maps Go.Proofs.Ytbicaknenphcbaa.HM

/-- of the first k timers the first one that is due stands at b, or none is due -/
def BestT (L : List T3) (now : Int) (k : Nat) (b : Int) : Prop :=
  (b = -1 ∧ ∀ j, j < k → now < (at3 L j).2.1) ∨ ∃ q : Nat, q < k ∧ b = q ∧ (at3 L q).2.1 ≤ now ∧ ∀ j, j < k → (at3 L j).2.1 ≤ now → ltB (pr (at3 L j)) (pr (at3 L q)) = false

theorem best_start (L : List T3) (now : Int) : BestT L now 0 (-1) := .inl ⟨rfl, fun j hj => by omega⟩

theorem best_late {L : List T3} {now : Int} {k : Nat} {b : Int} (h : BestT L now k b) (hl : now < (at3 L k).2.1) : BestT L now (k + 1) b := by
  rcases h with ⟨rfl, h⟩ | ⟨q, hq, rfl, h1, h2⟩
  · refine .inl ⟨rfl, fun j hj => ?_⟩
    by_cases e : j = k
    · subst e; exact hl
    · exact h j (by omega)
  · refine .inr ⟨q, by omega, rfl, h1, fun j hj hd => ?_⟩
    by_cases e : j = k
    · subst e; omega
    · exact h2 j (by omega) hd

theorem best_first {L : List T3} {now : Int} {k : Nat} (h : BestT L now k (-1)) (hl : (at3 L k).2.1 ≤ now) : BestT L now (k + 1) k := by
  rcases h with ⟨_, h⟩ | ⟨q, hq, e, h1, h2⟩
  · refine .inr ⟨k, by omega, rfl, hl, fun j hj hd => ?_⟩
    by_cases e : j = k
    · subst e; exact ltB_irrefl _
    · have := h j (by omega); omega
  · omega

theorem best_turn {L : List T3} {now : Int} {k q : Nat} (h : BestT L now k q) (hl : (at3 L k).2.1 ≤ now) (hlt : ltB (pr (at3 L k)) (pr (at3 L q)) = true) : BestT L now (k + 1) k := by
  rcases h with ⟨e, h⟩ | ⟨q', hq, e, h1, h2⟩
  · omega
  · obtain rfl : q = q' := by omega
    refine .inr ⟨k, by omega, rfl, hl, fun j hj hd => ?_⟩
    by_cases e : j = k
    · subst e; exact ltB_irrefl _
    · exact lt_ge_trans hlt (h2 j (by omega) hd)

theorem best_stay {L : List T3} {now : Int} {k q : Nat} (h : BestT L now k q) (hlt : ltB (pr (at3 L k)) (pr (at3 L q)) = false) : BestT L now (k + 1) q := by
  rcases h with ⟨e, h⟩ | ⟨q', hq, e, h1, h2⟩
  · omega
  · obtain rfl : q = q' := by omega
    refine .inr ⟨q, by omega, rfl, h1, fun j hj hd => ?_⟩
    by_cases e : j = k
    · subst e; exact hlt
    · exact h2 j (by omega) hd

theorem BestT.cases {L : List T3} {now : Int} {k : Nat} {b : Int} (h : BestT L now k b) : b = -1 ∨ ∃ q : Nat, b = q ∧ q < k := by
  rcases h with ⟨e, _⟩ | ⟨q, hq, e, _⟩
  · exact .inl e
  · exact .inr ⟨q, e, hq⟩

theorem best_none {L : List T3} {now : Int} (h : BestT L now L.length (-1)) : ∀ t ∈ L, now < t.2.1 := by
  rcases h with ⟨_, h⟩ | ⟨q, hq, e, _⟩
  · intro t ht
    obtain ⟨i, hi, rfl⟩ := List.getElem_of_mem ht
    have := h i hi
    rwa [at3_get hi] at this
  · omega

theorem best_some {L : List T3} {now : Int} {q : Nat} (h : BestT L now L.length q) : Least L (at3 L q) ∧ (at3 L q).2.1 ≤ now := by
  rcases h with ⟨e, _⟩ | ⟨q', hq, e, h1, h2⟩
  · omega
  · obtain rfl : q = q' := by omega
    refine ⟨⟨at3_mem hq, fun u hu => ?_⟩, h1⟩
    obtain ⟨i, hi, rfl⟩ := List.getElem_of_mem hu
    by_cases c : (at3 L i).2.1 ≤ now
    · have := h2 i hi c
      rwa [at3_get hi] at this
    · rw [at3_get hi] at c
      rw [ltB_false]; simp only [pr]; omega

/-- while the document's Due goes through the list -/
structure DueAt (w wr : World) : Prop where
  stp : Step (fun _ => False) w wr
  blk : wr.heap[w.heap.size]? = some (.cells #[.int .i64 0, .int .i64 0, .int .i64 0] 41 (0, 0))

theorem DueAt.drewN {w wr : World} (h : DueAt w wr) (n : Nat) : DueAt w (wr.drewN n) := ⟨⟨h.stp.os, h.stp.tape, h.stp.output, h.stp.size, h.stp.block⟩, h.blk⟩

theorem dueAt_start (w : World) : DueAt w (w.alloc (.cells #[.int .i64 0, .int .i64 0, .int .i64 0] 41)) := ⟨(Step.refl _ w).alloc _, heap_alloc_new w _⟩

/-- what the document's Due leaves: nothing is due -/
def DueNone (L : List T3) (now : Int) (w : World) (v : Value) (e : Ending) (w' : World) : Prop :=
  e = .returned (.tuple #[v, .agg #[.int .i64 0, .int .i64 0, .int .i64 0], .bool false]) ∧ (∀ t ∈ L, now < t.2.1) ∧ Step (fun _ => False) w w'
/-- .. or t is due -/
def DueSome (L : List T3) (now : Int) (w : World) (e : Ending) (w' : World) : Prop :=
  ∃ v' t, e = .returned (.tuple #[v', .agg #[.int .i64 t.1, .int .i64 t.2.1, .int .i64 t.2.2], .bool true]) ∧ Least L t ∧ t.2.1 ≤ now ∧ Lst3 w' w.heap.size v' (nextT L t) ∧ Step (fun _ => False) w w'

theorem results_due (tmps : Array Value) (w : World) (b : Nat) (x y z : Int) (hp : tmps[5]?.getD undef = .pointer (some ⟨b, 0, none⟩)) (hb : w.heap[b]? = some (.cells #[.int .i64 x, .int .i64 y, .int .i64 z] 41 (0, 0))) :
    (results Try.f20 tmps).run Try.prog w = .ok (.tuple #[tmps[4]?.getD undef, .agg #[.int .i64 x, .int .i64 y, .int .i64 z], tmps[6]?.getD undef]) w := by
  have z0 : w.cell? ⟨b, 0, none⟩ = some (.int .i64 x) := by simp [World.cell?, hb]
  have z1 : w.cell? ⟨b, 1, none⟩ = some (.int .i64 y) := by simp [World.cell?, hb]
  have z2 : w.cell? ⟨b, 2, none⟩ = some (.int .i64 z) := by simp [World.cell?, hb]
  simp [results, Try.results20, go_sem, hp, z0, z1, z2]

theorem due_store {w : World} {b : Nat} {p q r : Value} (h : w.heap[b]? = some (.cells #[p, q, r] 41 (0, 0))) (x y z : Value) :
    ∀ W2, (((w.setCell ⟨b, 0, none⟩ x).setCell ⟨b, 1, none⟩ y).setCell ⟨b, 2, none⟩ z) = W2 → W2.heap[b]? = some (.cells #[x, y, z] 41 (0, 0)) ∧ Step (fun k => k = b) w W2 := by
  intro W2 e
  subst e
  have b1 := heap_setCell_same w b 0 _ _ x h
  have b2 := heap_setCell_same _ b 1 _ _ y b1
  have b3 := heap_setCell_same _ b 2 _ _ z b2
  exact ⟨by rw [b3]; rfl, ((((Step.refl (fun k => k = b) w).setCell (p := ⟨b, 0, none⟩) rfl _).setCell (p := ⟨b, 1, none⟩) rfl _).setCell (p := ⟨b, 2, none⟩) rfl _)⟩

/-- a step that touches what is new alone -/
theorem step_new {w w1 w2 : World} {b : Nat} (h : Step (fun _ => False) w w1) (hb : w.heap.size ≤ b) (k : Step (fun k => k = b) w1 w2) : Step (fun _ => False) w w2 :=
  ⟨k.os.trans h.os, k.tape.trans h.tape, k.output.trans h.output, Nat.le_trans h.size k.size, fun i hi _ => (k.block i (Nat.lt_of_lt_of_le hi h.size) (by omega)).trans (h.block i hi (fun q => q))⟩

/-- .. and has found one: the results' block at w.heap.size, the one that was found at wb -/
structure DueMid (w W1 : World) (wb : Nat) (t1 t2 t3 : Int) : Prop where
  stp : Step (fun _ => False) w W1
  res : W1.heap[w.heap.size]? = some (.cells #[.int .i64 0, .int .i64 0, .int .i64 0] 41 (0, 0))
  blk : W1.heap[wb]? = some (.cells #[.int .i64 t1, .int .i64 t2, .int .i64 t3] 41 (0, 0))
  c0 : W1.cell? ⟨wb, 0, none⟩ = some (.int .i64 t1)
  c1 : W1.cell? ⟨wb, 1, none⟩ = some (.int .i64 t2)
  c2 : W1.cell? ⟨wb, 2, none⟩ = some (.int .i64 t3)
  r0 : W1.cell? ⟨w.heap.size, 0, none⟩ = some (.int .i64 0)
  r1 : W1.cell? ⟨w.heap.size, 1, none⟩ = some (.int .i64 0)
  r2 : W1.cell? ⟨w.heap.size, 2, none⟩ = some (.int .i64 0)
  f0 : W1.frozen? ⟨w.heap.size, 0, none⟩ = false
  f1 : W1.frozen? ⟨w.heap.size, 1, none⟩ = false
  f2 : W1.frozen? ⟨w.heap.size, 2, none⟩ = false

theorem dueMid_mk {w W1 : World} {wb : Nat} {t1 t2 t3 : Int} (stp : Step (fun _ => False) w W1) (res : W1.heap[w.heap.size]? = some (.cells #[.int .i64 0, .int .i64 0, .int .i64 0] 41 (0, 0)))
    (blk : W1.heap[wb]? = some (.cells #[.int .i64 t1, .int .i64 t2, .int .i64 t3] 41 (0, 0))) : DueMid w W1 wb t1 t2 t3 :=
  ⟨stp, res, blk, by simp [World.cell?, blk], by simp [World.cell?, blk], by simp [World.cell?, blk], by simp [World.cell?, res], by simp [World.cell?, res], by simp [World.cell?, res], by simp [World.frozen?, res], by simp [World.frozen?, res], by simp [World.frozen?, res]⟩

theorem dueMid_start {w wr W1 : World} {c : Array Value} (h : DueAt w wr) (e : W1 = wr.alloc (.cells c 41)) (t1 t2 t3 : Int) (hc : c = #[.int .i64 t1, .int .i64 t2, .int .i64 t3]) : DueMid w W1 wr.heap.size t1 t2 t3 := by
  subst hc
  subst e
  exact dueMid_mk (h.stp.alloc _) ((Below.heap_alloc _ _ _ (lt_of_block h.blk)).trans h.blk) (heap_alloc_new wr _)

theorem DueMid.still {w W1 w2 : World} {wb : Nat} {t1 t2 t3 : Int} (h : DueMid w W1 wb t1 t2 t3) (s : Step (fun _ => False) W1.drew w2) : DueMid w w2 wb t1 t2 t3 := by
  have s' : Step (fun _ => False) W1 w2 := ⟨s.os, s.tape, s.output, s.size, s.block⟩
  exact dueMid_mk (h.stp.trans s') ((s'.block _ (lt_of_block h.res) (fun q => q)).trans h.res) ((s'.block _ (lt_of_block h.blk) (fun q => q)).trans h.blk)

theorem row_base {w : World} {base base' : Nat} {e : TypeId} {size n : Nat} {v : Value} {xs : List Value} (h : w.ownsRow base e size v n xs) (hb : base' ≤ base) : w.ownsRow base' e size v n xs := by
  refine ⟨h.1, ?_⟩
  rcases h.2 with hn | ⟨g, cap, cur, rfl, hbg, r⟩
  · exact .inl hn
  · exact .inr ⟨g, cap, cur, rfl, Nat.le_trans hb hbg, r⟩

theorem due_end {w w2 : World} {wb B : Nat} {t1 t2 t3 : Int} {v2 : Value} {X : List T3} (D : DueMid w w2 wb t1 t2 t3) (l2 : Lst3 w2 B v2 X) (hB : w.heap.size < B) :
    ∀ W3, (((w2.setCell ⟨w.heap.size, 0, none⟩ (.int .i64 t1)).setCell ⟨w.heap.size, 1, none⟩ (.int .i64 t2)).setCell ⟨w.heap.size, 2, none⟩ (.int .i64 t3)) = W3 →
      W3.heap[w.heap.size]? = some (.cells #[.int .i64 t1, .int .i64 t2, .int .i64 t3] 41 (0, 0)) ∧ Lst3 W3 w.heap.size v2 X ∧ Step (fun _ => False) w W3 := by
  intro W3 e
  obtain ⟨b3, s3⟩ := due_store D.res (.int .i64 t1) (.int .i64 t2) (.int .i64 t3) W3 e
  have l3 : Lst3 W3 B v2 X := l2.kept s3 (fun k hk e => by have := (l2.row.lt k hk).1; omega)
  exact ⟨b3, ⟨row_base l3.row (by omega), l3.len⟩, step_new D.stp (Nat.le_refl _) s3⟩

set_option maxHeartbeats 8000000 in
set_option maxRecDepth 100000 in
theorem refdue_any (v : Value) (L : List T3) (now : Int) (base : Nat) (w : World) (h : Lst3 w base v L) (hn : (idt L).Nodup) (hm : Mom L) (hwf : ∀ t ∈ L, W64 t.1 ∧ W64 t.2.1 ∧ W64 t.2.2) :
    Calls Try.prog 20 #[v, .int .i64 now] w fun e w' => DueNone L now w v e w' ∨ DueSome L now w e w' := by
  rcases h.cases with ⟨rfl, rfl⟩ | ⟨g, cap, rfl, _, hg, hc⟩
  · have hd0 := dueAt_start w
    go_enter Try.func20, Try.ntmps20
    go_wp2_with fail
    refine wp_loop_rounds 1 ?_
    rw [rounds_succ]
    go_wp2
    refine bodyPost_ret (results_due _ _ w.heap.size 0 0 0 rfl (by exact hd0.blk)) rfl (.inl ⟨rfl, fun t ht => by simp at ht, hd0.stp⟩)
  · have hlen := h.len
    have hd0 := dueAt_start w
    go_enter Try.func20, Try.ntmps20
    go_wp2_with fail
    go_loopw [7, 8] (fun b i wr => ∃ (k : Nat) (bb : Int), k ≤ L.length ∧ i = .int .i64 k ∧ b = .int .i64 bb ∧ Hid (BestT L now k bb) ∧ DueAt w wr) (fun _ i _ => L.length - (intOf i).toNat)
    case atStart => exact ⟨0, -1, Nat.zero_le _, rfl, rfl, best_start L now, hd0⟩
    case round =>
      obtain ⟨k, bb, hk, rfl, rfl, hbest, hst⟩ := hrel
      by_cases hlt : k < L.length
      · have hlt' : (k : Int) < (L.length : Int) := by omega
        have cc := hc k hlt
        have c0 : wr.cell? ⟨g, k * 3, none⟩ = some (.int .i64 (at3 L k).1) := by rw [World.cell?_of_block (w := w) (hst.stp.block g hg (fun q => q))]; exact cc.1
        have c1 : wr.cell? ⟨g, k * 3 + 1, none⟩ = some (.int .i64 (at3 L k).2.1) := by rw [World.cell?_of_block (w := w) (hst.stp.block g hg (fun q => q))]; exact cc.2.1
        clear cc
        have HL : Hid (now < (at3 L k).2.1 → BestT L now (k + 1) bb) := fun e => best_late hbest.out e
        by_cases hd : (at3 L k).2.1 ≤ now
        · have d1 : decide ((at3 L k).2.1 ≤ now) = true := decide_eq_true hd
          rcases hbest.out.cases with rfl | ⟨q, rfl, hq⟩
          · have HB : Hid (BestT L now (k + 1) k) := best_first hbest.out hd
            clear HL hbest
            go_wp2_with fail
            go_quiet (fail)
            go_wp2
            go_roundw
            case rel => exact ⟨k + 1, k, by omega, by go_num, rfl, HB, hst.drewN _⟩
            case measure => simp [intOf]; omega
          · have hql : q < L.length := by omega
            have hq' : (q : Int) < (L.length : Int) := by omega
            have hq0 : decide ((q : Int) < 0) = false := decide_eq_false (by omega)
            have cq := hc q hql
            have e0 : wr.cell? ⟨g, q * 3, none⟩ = some (.int .i64 (at3 L q).1) := by rw [World.cell?_of_block (w := w) (hst.stp.block g hg (fun q => q))]; exact cq.1
            have e1 : wr.cell? ⟨g, q * 3 + 1, none⟩ = some (.int .i64 (at3 L q).2.1) := by rw [World.cell?_of_block (w := w) (hst.stp.block g hg (fun q => q))]; exact cq.2.1
            have HT : Hid (ltB (pr (at3 L k)) (pr (at3 L q)) = true → BestT L now (k + 1) k) := fun e => best_turn hbest.out hd e
            have HS : Hid (ltB (pr (at3 L k)) (pr (at3 L q)) = false → BestT L now (k + 1) q) := fun e => best_stay hbest.out e
            have HV : Hid (ltB (pr (at3 L k)) (pr (at3 L q)) = decide ((at3 L k).2.1 < (at3 L q).2.1 ∨ ((at3 L k).2.1 = (at3 L q).2.1 ∧ (at3 L k).1 < (at3 L q).1))) := rfl
            clear cq HL hbest
            generalize ltB (pr (at3 L k)) (pr (at3 L q)) = bt at HT HS HV
            generalize (at3 L k).1 = k1 at c0 HV
            generalize (at3 L k).2.1 = k2 at c1 HV d1 hd
            generalize (at3 L q).1 = q1 at e0 HV
            generalize (at3 L q).2.1 = q2 at e1 HV
            by_cases g1 : k2 < q2
            · have HB : Hid (BestT L now (k + 1) k) := HT.out (by rw [HV.out]; exact decide_eq_true (.inl g1))
              have d2 : decide (k2 < q2) = true := decide_eq_true g1
              clear HT HS HV
              go_wp2_with fail
              go_quiet (fail)
              go_wp2
              go_roundw
              case rel => exact ⟨k + 1, k, by omega, by go_num, rfl, HB, hst.drewN _⟩
              case measure => simp [intOf]; omega
            · have d2 : decide (k2 < q2) = false := decide_eq_false g1
              by_cases g2 : k2 = q2
              · have d3 : (k2 == q2) = true := by simp [g2]
                have G2 : Hid (k2 = q2) := g2
                clear g2
                by_cases g3 : k1 < q1
                · have HB : Hid (BestT L now (k + 1) k) := HT.out (by rw [HV.out]; exact decide_eq_true (.inr ⟨G2.out, g3⟩))
                  have d4 : decide (k1 < q1) = true := decide_eq_true g3
                  clear HT HS HV
                  go_wp2_with fail
                  go_quiet (fail)
                  go_wp2
                  go_roundw
                  case rel => exact ⟨k + 1, k, by omega, by go_num, rfl, HB, hst.drewN _⟩
                  case measure => simp [intOf]; omega
                · have HB : Hid (BestT L now (k + 1) q) := HS.out (by rw [HV.out]; exact decide_eq_false (fun e => e.elim g1 (fun e => g3 e.2)))
                  have d4 : decide (k1 < q1) = false := decide_eq_false g3
                  clear HT HS HV
                  go_wp2_with fail
                  go_quiet (fail)
                  go_wp2
                  go_roundw
                  case rel => exact ⟨k + 1, q, by omega, by go_num, rfl, HB, hst.drewN _⟩
                  case measure => simp [intOf]; omega
              · have d3 : (k2 == q2) = false := by simpa using g2
                have HB : Hid (BestT L now (k + 1) q) := HS.out (by rw [HV.out]; exact decide_eq_false (fun e => e.elim g1 (fun e => g2 e.1)))
                clear HT HS HV
                go_wp2_with fail
                go_quiet (fail)
                go_wp2
                go_roundw
                case rel => exact ⟨k + 1, q, by omega, by go_num, rfl, HB, hst.drewN _⟩
                case measure => simp [intOf]; omega
        · have HB : Hid (BestT L now (k + 1) bb) := HL.out (by omega)
          have d1 : decide ((at3 L k).2.1 ≤ now) = false := decide_eq_false hd
          clear HL
          go_wp2_with fail
          go_quiet (fail)
          go_wp2
          go_roundw
          case rel => exact ⟨k + 1, bb, by omega, by go_num, rfl, HB, hst.drewN _⟩
          case measure => simp [intOf]; omega
      · have hlt' : ¬ (k : Int) < (L.length : Int) := by omega
        obtain rfl : k = L.length := by omega
        rcases hbest.out.cases with rfl | ⟨q, rfl, hq⟩
        · have HN : Hid (∀ t ∈ L, now < t.2.1) := best_none hbest.out
          have hblk := hst.blk
          have z0 : wr.cell? ⟨w.heap.size, 0, none⟩ = some (.int .i64 0) := by simp [World.cell?, hblk]
          have z1 : wr.cell? ⟨w.heap.size, 1, none⟩ = some (.int .i64 0) := by simp [World.cell?, hblk]
          have z2 : wr.cell? ⟨w.heap.size, 2, none⟩ = some (.int .i64 0) := by simp [World.cell?, hblk]
          have y0 : ∀ i, wr.frozen? ⟨w.heap.size, i, none⟩ = false := fun i => by simp [World.frozen?, hblk]
          have y1 := y0 0
          have y2 := y0 1
          have y3 := y0 2
          go_wp2_with fail
          obtain ⟨b2, s2⟩ := due_store hblk (.int .i64 0) (.int .i64 0) (.int .i64 0) _ rfl
          refine bodyPost_ret (results_due _ _ w.heap.size 0 0 0 rfl b2) rfl (.inl ⟨rfl, HN.out, step_new hst.stp (Nat.le_refl _) s2⟩)
        · have HN : Hid (Least L (at3 L q) ∧ (at3 L q).2.1 ≤ now) := best_some hbest.out
          have hq' : (q : Int) < (L.length : Int) := by omega
          have hq0 : decide ((q : Int) < 0) = false := decide_eq_false (by omega)
          have cq := hc q hq
          have e0 : wr.cell? ⟨g, q * 3, none⟩ = some (.int .i64 (at3 L q).1) := by rw [World.cell?_of_block (w := w) (hst.stp.block g hg (fun q => q))]; exact cq.1
          have e1 : wr.cell? ⟨g, q * 3 + 1, none⟩ = some (.int .i64 (at3 L q).2.1) := by rw [World.cell?_of_block (w := w) (hst.stp.block g hg (fun q => q))]; exact cq.2.1
          have e2 : wr.cell? ⟨g, q * 3 + 2, none⟩ = some (.int .i64 (at3 L q).2.2) := by rw [World.cell?_of_block (w := w) (hst.stp.block g hg (fun q => q))]; exact cq.2.2
          obtain ⟨wf1, wf2, wf3⟩ := hwf _ HN.out.1.1
          obtain ⟨mo1, mo2⟩ := hm _ HN.out.1.1
          have hz := hst.stp.size
          have hz' := lt_of_block hst.blk
          obtain ⟨W1, hW⟩ : ∃ W1, W1 = wr.alloc (.cells #[.int .i64 (at3 L q).1, .int .i64 (at3 L q).2.1, .int .i64 (at3 L q).2.2] 41) := ⟨_, rfl⟩
          have D1 := dueMid_start hst hW (at3 L q).1 (at3 L q).2.1 (at3 L q).2.2 rfl
          have hl1 : Lst3 W1 base _ L := h.kept D1.stp (fun _ _ q => q)
          have hne1 : wr.heap.size ≠ w.heap.size := by omega
          have hne2 : w.heap.size ≠ wr.heap.size := by omega
          have hmem : (at3 L q).1 ∈ idt L := least_mem HN.out.1
          have hw1 : W1.heap.size = wr.heap.size + 1 := by rw [hW]; simp
          have HX : Hid (nextT L (at3 L q) = if 0 < (at3 L q).2.2 then setT L (at3 L q).1 (latN (at3 L q).2.1 (at3 L q).2.2) (at3 L q).2.2 else dropT L (at3 L q).1) := rfl
          have HE : Hid (∀ v' w', Lst3 w' w.heap.size v' (nextT L (at3 L q)) → Step (fun _ => False) w w' → DueSome L now w (.returned (.tuple #[v', .agg #[.int .i64 (at3 L q).1, .int .i64 (at3 L q).2.1, .int .i64 (at3 L q).2.2], .bool true])) w') := fun v' w' h1 h2 => ⟨v', at3 L q, rfl, HN.out.1, HN.out.2, h1, h2⟩
          generalize nextT L (at3 L q) = NX at HX HE
          generalize (at3 L q).1 = t1 at *
          generalize (at3 L q).2.1 = t2 at *
          generalize (at3 L q).2.2 = t3 at *
          have hblk := hst.blk
          clear cq hbest
          by_cases c3 : t3 ≤ 0
          · have HX' : Hid (NX = dropT L t1) := by show NX = _; rw [HX.out, if_neg (by omega)]
            clear HX
            go_wp2_with fail
            rw [← hW]
            clear hW
            have d0 := D1.c0
            have d1 := D1.c1
            have d2 := D1.c2
            have r0 := D1.r0
            have r1 := D1.r1
            have r2 := D1.r2
            have f0 := D1.f0
            have f1 := D1.f1
            have f2 := D1.f2
            go_region_held3 (fun w' => w'.cell? ⟨wr.heap.size, 0, none⟩ = some (.int .i64 t1) ∧ w'.cell? ⟨wr.heap.size, 1, none⟩ = some (.int .i64 t2) ∧ w'.cell? ⟨wr.heap.size, 2, none⟩ = some (.int .i64 t3)) (go_keep) (first
              | (go_at_call 12; refine (without_any _ L t1 base _ ?_).mono ?_; exact (hl1.kept (A := fun _ => False) ⟨rfl, rfl, rfl, Nat.le_refl _, fun _ _ _ => rfl⟩ (fun _ _ q => q)); rintro e w2 ⟨v2, rfl, l2, s2⟩; have D2 := D1.still (w2 := w2) s2; have d0 := D2.c0; have d1 := D2.c1; have d2 := D2.c2; have r0 := D2.r0; have r1 := D2.r1; have r2 := D2.r2; have f0 := D2.f0; have f1 := D2.f1; have f2 := D2.f2)
              | fail)
            all_goals
              go_wp2
              obtain ⟨b3, l3, s3⟩ := due_end D2 l2 (by show w.heap.size < W1.heap.size; omega) _ rfl
              refine bodyPost_ret (results_due _ _ w.heap.size t1 t2 t3 rfl b3) rfl (.inr ?_)
              exact HE.out _ _ (by rw [HX'.out]; exact l3) s3
          · have c3' : 0 < t3 := by omega
            have hsl : (dropT L t1).length + 1 ≤ 5864062014805 := by rw [dropT_len hn hmem]; exact hlen
            by_cases c4 : 1099511627776 - t2 < t3
            · have HX' : Hid (NX = setT L t1 1099511627776 t3) := by show NX = _; rw [HX.out, if_pos c3']; unfold latN; rw [if_pos c4]
              clear HX
              go_wp2_with fail
              rw [← hW]
              clear hW
              have d0 := D1.c0
              have d1 := D1.c1
              have d2 := D1.c2
              have r0 := D1.r0
              have r1 := D1.r1
              have r2 := D1.r2
              have f0 := D1.f0
              have f1 := D1.f1
              have f2 := D1.f2
              go_region_held3 (fun w' => w'.cell? ⟨wr.heap.size, 0, none⟩ = some (.int .i64 t1) ∧ w'.cell? ⟨wr.heap.size, 1, none⟩ = some (.int .i64 t2) ∧ w'.cell? ⟨wr.heap.size, 2, none⟩ = some (.int .i64 t3)) (go_keep) (first
                | (go_at_call 11; refine (refset_any _ L t1 1099511627776 t3 base _ ?_ hsl).mono ?_; exact (hl1.kept (A := fun _ => False) ⟨rfl, rfl, rfl, Nat.le_refl _, fun _ _ _ => rfl⟩ (fun _ _ q => q)); rintro e w2 ⟨v2, rfl, l2, s2⟩; have D2 := D1.still (w2 := w2) s2; have d0 := D2.c0; have d1 := D2.c1; have d2 := D2.c2; have r0 := D2.r0; have r1 := D2.r1; have r2 := D2.r2; have f0 := D2.f0; have f1 := D2.f1; have f2 := D2.f2)
                | fail)
              all_goals
                go_wp2
                obtain ⟨b3, l3, s3⟩ := due_end D2 l2 (by show w.heap.size < W1.heap.size; omega) _ rfl
                refine bodyPost_ret (results_due _ _ w.heap.size t1 t2 t3 rfl b3) rfl (.inr ?_)
                exact HE.out _ _ (by rw [HX'.out]; exact l3) s3
            · have wC : IntKind.i64.wrap (t2 + t3) = t2 + t3 := wrapI ⟨by omega, by omega⟩
              have HX' : Hid (NX = setT L t1 (t2 + t3) t3) := by show NX = _; rw [HX.out, if_pos c3']; unfold latN; rw [if_neg c4]
              clear HX
              go_wp2_with fail
              rw [← hW]
              clear hW
              have d0 := D1.c0
              have d1 := D1.c1
              have d2 := D1.c2
              have r0 := D1.r0
              have r1 := D1.r1
              have r2 := D1.r2
              have f0 := D1.f0
              have f1 := D1.f1
              have f2 := D1.f2
              go_region_held3 (fun w' => w'.cell? ⟨wr.heap.size, 0, none⟩ = some (.int .i64 t1) ∧ w'.cell? ⟨wr.heap.size, 1, none⟩ = some (.int .i64 t2) ∧ w'.cell? ⟨wr.heap.size, 2, none⟩ = some (.int .i64 t3)) (go_keep) (first
                | (go_at_call 11; refine (refset_any _ L t1 (t2 + t3) t3 base _ ?_ hsl).mono ?_; exact (hl1.kept (A := fun _ => False) ⟨rfl, rfl, rfl, Nat.le_refl _, fun _ _ _ => rfl⟩ (fun _ _ q => q)); rintro e w2 ⟨v2, rfl, l2, s2⟩; have D2 := D1.still (w2 := w2) s2; have d0 := D2.c0; have d1 := D2.c1; have d2 := D2.c2; have r0 := D2.r0; have r1 := D2.r1; have r2 := D2.r2; have f0 := D2.f0; have f1 := D2.f1; have f2 := D2.f2)
                | fail)
              all_goals
                go_wp2
                obtain ⟨b3, l3, s3⟩ := due_end D2 l2 (by show w.heap.size < W1.heap.size; omega) _ rfl
                refine bodyPost_ret (results_due _ _ w.heap.size t1 t2 t3 rfl b3) rfl (.inr ?_)
                exact HE.out _ _ (by rw [HX'.out]; exact l3) s3

end Go.Proofs.Ytbicaknenphcbaa.HW
