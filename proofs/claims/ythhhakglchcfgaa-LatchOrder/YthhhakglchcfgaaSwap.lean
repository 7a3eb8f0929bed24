/- What the comparison of two entries and the swap of two of them do. -/
import Derived.Test.YthhhakglchcfgaaMem
import Derived.BigRegion
import Derived.BigQuiet
import Derived.StillTailTactics
import Derived.Deep.LoopGhost
namespace Go.Proofs.Ythhhakglchcfgaa.HW
open Go.ChangeShapes Go.WideShapes Go.ChangeAt Go.RowKit Go.Proofs.Ythhhakglchcfgaa.HP Go.Maps Go.Proofs.Ythhhakglchcfgaa.HM

set_option maxHeartbeats 1000000 in
theorem before_any (a1 a2 b1 b2 : Int) (w : World) :
    Calls Try.prog 26 #[.agg #[.int .i64 a1, .int .i64 a2], .agg #[.int .i64 b1, .int .i64 b2]] w fun e w' => e = .returned (.bool (ltB (a1, a2) (b1, b2))) ∧ Step (fun _ => False) w w' := by
  have hs : ∀ o1 o2, Step (fun _ => False) w ((w.alloc o1).alloc o2) := fun o1 o2 => ((Step.refl _ w).alloc o1).alloc o2
  by_cases c : a2 = b2
  · have e : ltB (a1, a2) (b1, b2) = decide (a1 < b1) := by simp [ltB, c]
    rw [e]
    subst c
    have hb : (a2 == a2) = true := by simp
    go_enter Try.func26, Try.ntmps26
    go_wp2
    go_ret
    exact ⟨rfl, hs _ _⟩
  · have e : ltB (a1, a2) (b1, b2) = decide (a2 < b2) := by simp [ltB, c]
    have hb : (a2 == b2) = false := by simpa using c
    rw [e]
    go_enter Try.func26, Try.ntmps26
    go_wp2
    go_ret
    exact ⟨rfl, hs _ _⟩

/-- what is left of a heap while two entries are swapped: its row is swapped, its map is not yet -/
structure Mid (w w1 : World) (hb g cap bm : Nat) (D : DataW Unit) (es : List E) : Prop where
  h0 : w1.cell? ⟨hb, 0, none⟩ = some (.slice (some ⟨g, 0, none⟩) es.length cap)
  h1 : w1.cell? ⟨hb, 1, none⟩ = some (.map (some bm))
  blk : w1.heap[hb]? = some (.cells #[.slice (some ⟨g, 0, none⟩) es.length cap, .map (some bm)] 50 (0, 0))
  row : w1.ownsRow (hb + 1) 52 2 (.slice (some ⟨g, 0, none⟩) es.length cap) es.length (flat es)
  map : w1.ownsMap Try.prog 3 (plainElem Try.prog 3) bm es.length D
  stp : Step (fun k => k = g ∨ k = bm) w w1

theorem Mid.c0 {w w1 : World} {hb g cap bm : Nat} {D : DataW Unit} {es : List E} (m : Mid w w1 hb g cap bm D es) {i : Nat} (h : i < es.length) : w1.cell? ⟨g, i * 2, none⟩ = some (.int .i64 (at' es i).1) := by
  rw [m.row.cellAt (i * 2) (by omega)]; exact (flat_get es i h).1

/-- another map in the block bm; nothing else -/
theorem Mid.turn {w w1 w2 : World} {hb g cap bm n : Nat} {D D' : DataW Unit} {es : List E} (m : Mid w w1 hb g cap bm D es) (bg : bm ≠ g) (bh : bm ≠ hb)
    (ho : w2.ownsMap Try.prog 3 (plainElem Try.prog 3) bm n D') (hs : Maps.size D' = es.length) (hg : w1.grownBy w2 (some bm)) : Mid w w2 hb g cap bm D' es := by
  have hst : Step (fun k => k = bm) w1 w2 := (Step.refl _ w1).grown hg (fun k hk => by simp at hk; exact hk.symm)
  have hblk : w2.heap[hb]? = some (.cells #[.slice (some ⟨g, 0, none⟩) es.length cap, .map (some bm)] 50 (0, 0)) := by
    rw [hst.block hb (lt_of_block m.blk) (fun e => bh e.symm)]; exact m.blk
  refine ⟨by simp [World.cell?, hblk], by simp [World.cell?, hblk], hblk, row_kept hst m.row (fun k hk => by simp [Value.ownBlock] at hk; subst hk; exact fun e => bg e.symm), own_to ho hs, m.stp.trans (hst.mono (fun k _ hk => Or.inr hk))⟩

theorem Mid.drew {w w1 : World} {hb g cap bm : Nat} {D : DataW Unit} {es : List E} (m : Mid w w1 hb g cap bm D es) : Mid w w1.drew hb g cap bm D es :=
  ⟨m.h0, m.h1, m.blk, m.row, m.map, m.stp.drew⟩

theorem swap_world {w : World} {hb g cap bm : Nat} {D : DataW Unit} {es : List E} (m : Mem w hb g cap bm D es) {a b : Nat} (ha : a < es.length) (hb' : b < es.length) (w1 : World)
    (e : ((((w.setCell ⟨g, a * 2, none⟩ (.int .i64 (at' es b).1)).setCell ⟨g, a * 2 + 1, none⟩ (.int .i64 (at' es b).2)).setCell ⟨g, b * 2, none⟩ (.int .i64 (at' es a).1)).setCell ⟨g, b * 2 + 1, none⟩ (.int .i64 (at' es a).2)).drew = w1) :
    Mid w w1 hb g cap bm D (swp es a b) := by
  subst e
  refine Mid.drew ?_
  have s1 := (m.row.stored (a * 2) (.int .i64 (at' es b).1)).1
  have s2 := (s1.stored (a * 2 + 1) (.int .i64 (at' es b).2)).1
  have s3 := (s2.stored (b * 2) (.int .i64 (at' es a).1)).1
  have s4 := (s3.stored (b * 2 + 1) (.int .i64 (at' es a).2)).1
  rw [flat_set es a (at' es b) ha, flat_set (es.set a (at' es b)) b (at' es a) (by simpa using hb')] at s4
  have st : Step (fun k => k = g) w ((((w.setCell ⟨g, a * 2, none⟩ (.int .i64 (at' es b).1)).setCell ⟨g, a * 2 + 1, none⟩ (.int .i64 (at' es b).2)).setCell ⟨g, b * 2, none⟩ (.int .i64 (at' es a).1)).setCell ⟨g, b * 2 + 1, none⟩ (.int .i64 (at' es a).2)) :=
    ((((Step.refl (fun k => k = g) w).setCell (p := ⟨g, a * 2, none⟩) rfl _).setCell (p := ⟨g, a * 2 + 1, none⟩) rfl _).setCell (p := ⟨g, b * 2, none⟩) rfl _).setCell (p := ⟨g, b * 2 + 1, none⟩) rfl _
  have gh := m.gh
  have hblk := (st.block hb m.ltH (by omega)).trans m.blk
  have hl := swp_len es a b
  refine ⟨by simp [World.cell?, hblk, hl], by simp [World.cell?, hblk], by rw [hl]; exact hblk, by rw [hl]; exact s4, by rw [hl]; exact map_kept st m.map (fun q => m.bg q), st.mono (fun k _ hk => Or.inl hk)⟩

theorem Mid.mem {w w1 : World} {hb g cap bm : Nat} {D D' : DataW Unit} {es es' : List E} (m : Mid w w1 hb g cap bm D' es') (m0 : Mem w hb g cap bm D es) (hp : es'.Perm es) (ht : Ties D' es') : Mem w1 hb g cap bm D' es' :=
  ⟨m.blk, m.row, m.map, fun e he => m0.wf e (hp.mem_iff.1 he), ht, by rw [hp.length_eq]; exact m0.len⟩

theorem swap_ties {w : World} {hb g cap bm a b : Nat} {D : DataW Unit} {es : List E} (m : Mem w hb g cap bm D es) (ha : a < es.length) (hb' : b < es.length) :
    Maps.size (D.put (ky (at' es b).1) (di a)) = (swp es a b).length ∧ Ties ((D.put (ky (at' es b).1) (di a)).put (ky (at' es a).1) (di b)) (swp es a b) ∧ (swp es a b).Perm es ∧ (at' (swp es a b) a).1 = (at' es b).1 ∧ (at' (swp es a b) b).1 = (at' es a).1 ∧ (swp es a b).length = es.length := by
  refine ⟨?_, m.ties.swp ha hb', swp_perm ha hb', ?_, ?_, swp_len es a b⟩
  · rw [Ties.put_size m.ties.tidy (m.ties.get b hb').1, swp_len]; exact m.ties.size
  · rw [at_swp ha hb']; split
    · rename_i e; rw [e]
    · simp
  · rw [at_swp ha hb', if_pos rfl]

set_option maxHeartbeats 4000000 in
set_option maxRecDepth 100000 in
theorem swap_ne (hb g cap bm a b : Nat) (D : DataW Unit) (es : List E) (w : World) (m : Mem w hb g cap bm D es) (ha : a < es.length) (hb' : b < es.length) (hne : ¬ a = b) :
    Calls Try.prog 25 #[.pointer (some ⟨hb, 0, none⟩), .int .i64 a, .int .i64 b] w fun e w' => e = .returned (.tuple #[]) ∧ (∃ D', Mem w' hb g cap bm D' (swp es a b)) ∧ Step (fun k => k = g ∨ k = bm) w w' := by
  have iA : (a : Int) < (es.length : Int) := by omega
  have iB : (b : Int) < (es.length : Int) := by omega
  have h0 := m.h0
  have h1 := m.h1
  have ca0 := m.c0 ha
  have ca1 := m.c1 ha
  have fa0 := m.fr (a * 2)
  have fa1 := m.fr (a * 2 + 1)
  have cb0 := m.c0 hb'
  have cb1 := m.c1 hb'
  have fb0 := m.fr (b * 2)
  have fb1 := m.fr (b * 2 + 1)
  have hlen := m.len
  have wA := (m.wfi ha).1
  have kA := keyOf_int_mk Try.underlying3 wA.wf
  have wB := (m.wfi hb').1
  have kB := keyOf_int_mk Try.underlying3 wB.wf
  have H1 : Hid (∀ w1, ((((w.setCell ⟨g, a * 2, none⟩ (.int .i64 (at' es b).1)).setCell ⟨g, a * 2 + 1, none⟩ (.int .i64 (at' es b).2)).setCell ⟨g, b * 2, none⟩ (.int .i64 (at' es a).1)).setCell ⟨g, b * 2 + 1, none⟩ (.int .i64 (at' es a).2)).drew = w1 → Mid w w1 hb g cap bm D (swp es a b)) := fun w1 e => swap_world m ha hb' w1 e
  have HT : Hid (Maps.size (D.put (ky (at' es b).1) (di a)) = (swp es a b).length ∧ Ties ((D.put (ky (at' es b).1) (di a)).put (ky (at' es a).1) (di b)) (swp es a b) ∧ (swp es a b).Perm es ∧ (at' (swp es a b) a).1 = (at' es b).1 ∧ (at' (swp es a b) b).1 = (at' es a).1 ∧ (swp es a b).length = es.length) :=
    swap_ties m ha hb'
  have bg := m.bg
  have bh := m.bh
  generalize hx1 : (at' es a).1 = x1 at ca0 wA kA H1 HT
  generalize hx2 : (at' es a).2 = x2 at ca1 H1
  generalize hy1 : (at' es b).1 = y1 at cb0 wB kB H1 HT
  generalize hy2 : (at' es b).2 = y2 at cb1 H1
  clear hx1 hx2 hy1 hy2
  go_enter Try.func25, Try.ntmps25
  go_wp2
  go_region
  generalize hw1 : World.drew _ = w1
  have M1 := H1.out w1 hw1
  clear hw1 H1 ca0 ca1 fa0 fa1 h0 h1 cb0 cb1 fb0 fb1
  obtain ⟨hs1, hT, hP, ea, eb, hl⟩ := HT.out
  have g0 := M1.h0
  have g1 := M1.h1
  have ga := M1.c0 (i := a) (by omega)
  rw [ea] at ga
  rw [hl] at g0
  have gb := M1.c0 (i := b) (by omega)
  rw [eb] at gb
  have HT2 : Hid (Maps.size (D.put (ky y1) (di a)) = (swp es a b).length ∧ Ties ((D.put (ky y1) (di a)).put (ky x1) (di b)) (swp es a b) ∧ (swp es a b).Perm es ∧ (swp es a b).length = es.length) := ⟨hs1, hT, hP, hl⟩
  have HE : Hid ((at' (swp es a b) b).1 = x1) := eb
  clear hs1 hT hP ea eb HT
  go_wp2_with fail
  go_still_tail 13, (by kernel_rfl)
  refine wpList_mapUpdate_own _ rfl _ _ _ 40 rfl 3 3 law3 Try.underlying40 _ bm _ D rfl (by exact M1.map) (by rw [hl]; unfold maxLen; omega) _ _ _ rfl rfl kB _ [] (plainElem_int Try.underlying3 (W64.wf (x := a) ⟨by omega, by omega⟩)) ?_
  intro w2 ho2 hg2
  have M2 := M1.turn bg bh ho2 HT2.out.1 ⟨hg2.os, hg2.tape, hg2.output, hg2.size, hg2.block⟩
  clear ho2 hg2 M1 g0 g1 ga gb
  have g0 := M2.h0
  have g1 := M2.h1
  have ga := M2.c0 (i := b) (by omega)
  rw [HE.out] at ga
  rw [hl] at g0
  go_wp2_with fail
  go_still_tail 13, (by kernel_rfl)
  refine wpList_mapUpdate_own _ rfl _ _ _ 40 rfl 3 3 law3 Try.underlying40 _ bm _ _ rfl (by exact M2.map) (by rw [hl]; unfold maxLen; omega) _ _ _ rfl rfl kA _ [] (plainElem_int Try.underlying3 (W64.wf (x := b) ⟨by omega, by omega⟩)) ?_
  intro w3 ho3 hg3
  have M3 := M2.turn bg bh ho3 HT2.out.2.1.size ⟨hg3.os, hg3.tape, hg3.output, hg3.size, hg3.block⟩
  clear ho3 hg3 g0 g1 ga
  go_wp2
  go_end0
  exact ⟨rfl, ⟨_, M3.mem m HT2.out.2.2.1 HT2.out.2.1⟩, M3.stp⟩

set_option maxHeartbeats 4000000 in
set_option maxRecDepth 100000 in
theorem swap_eq (hb g cap bm a : Nat) (D : DataW Unit) (es : List E) (w : World) (m : Mem w hb g cap bm D es) (ha : a < es.length) :
    Calls Try.prog 25 #[.pointer (some ⟨hb, 0, none⟩), .int .i64 a, .int .i64 a] w fun e w' => e = .returned (.tuple #[]) ∧ (∃ D', Mem w' hb g cap bm D' (swp es a a)) ∧ Step (fun k => k = g ∨ k = bm) w w' := by
  have iA : (a : Int) < (es.length : Int) := by omega
  have h0 := m.h0
  have h1 := m.h1
  have ca0 := m.c0 ha
  have ca1 := m.c1 ha
  have fa0 := m.fr (a * 2)
  have fa1 := m.fr (a * 2 + 1)
  have hlen := m.len
  have wA := (m.wfi ha).1
  have kA := keyOf_int_mk Try.underlying3 wA.wf
  have H1 : Hid (∀ w1, ((((w.setCell ⟨g, a * 2, none⟩ (.int .i64 (at' es a).1)).setCell ⟨g, a * 2 + 1, none⟩ (.int .i64 (at' es a).2)).setCell ⟨g, a * 2, none⟩ (.int .i64 (at' es a).1)).setCell ⟨g, a * 2 + 1, none⟩ (.int .i64 (at' es a).2)).drew = w1 → Mid w w1 hb g cap bm D (swp es a a)) := fun w1 e => swap_world m ha ha w1 e
  have HT : Hid (Maps.size (D.put (ky (at' es a).1) (di a)) = (swp es a a).length ∧ Ties ((D.put (ky (at' es a).1) (di a)).put (ky (at' es a).1) (di a)) (swp es a a) ∧ (swp es a a).Perm es ∧ (at' (swp es a a) a).1 = (at' es a).1 ∧ (at' (swp es a a) a).1 = (at' es a).1 ∧ (swp es a a).length = es.length) :=
    swap_ties m ha ha
  have bg := m.bg
  have bh := m.bh
  generalize hx1 : (at' es a).1 = x1 at ca0 wA kA H1 HT
  generalize hx2 : (at' es a).2 = x2 at ca1 H1
  clear hx1 hx2
  go_enter Try.func25, Try.ntmps25
  go_wp2
  go_region
  generalize hw1 : World.drew _ = w1
  have M1 := H1.out w1 hw1
  clear hw1 H1 ca0 ca1 fa0 fa1 h0 h1
  obtain ⟨hs1, hT, hP, ea, eb, hl⟩ := HT.out
  have g0 := M1.h0
  have g1 := M1.h1
  have ga := M1.c0 (i := a) (by omega)
  rw [ea] at ga
  rw [hl] at g0
  have HT2 : Hid (Maps.size (D.put (ky x1) (di a)) = (swp es a a).length ∧ Ties ((D.put (ky x1) (di a)).put (ky x1) (di a)) (swp es a a) ∧ (swp es a a).Perm es ∧ (swp es a a).length = es.length) := ⟨hs1, hT, hP, hl⟩
  have HE : Hid ((at' (swp es a a) a).1 = x1) := eb
  clear hs1 hT hP ea eb HT
  go_wp2_with fail
  go_still_tail 13, (by kernel_rfl)
  refine wpList_mapUpdate_own _ rfl _ _ _ 40 rfl 3 3 law3 Try.underlying40 _ bm _ D rfl (by exact M1.map) (by rw [hl]; unfold maxLen; omega) _ _ _ rfl rfl kA _ [] (plainElem_int Try.underlying3 (W64.wf (x := a) ⟨by omega, by omega⟩)) ?_
  intro w2 ho2 hg2
  have M2 := M1.turn bg bh ho2 HT2.out.1 ⟨hg2.os, hg2.tape, hg2.output, hg2.size, hg2.block⟩
  clear ho2 hg2 M1 g0 g1 ga
  have g0 := M2.h0
  have g1 := M2.h1
  have ga := M2.c0 (i := a) (by omega)
  rw [HE.out] at ga
  rw [hl] at g0
  go_wp2_with fail
  go_still_tail 13, (by kernel_rfl)
  refine wpList_mapUpdate_own _ rfl _ _ _ 40 rfl 3 3 law3 Try.underlying40 _ bm _ _ rfl (by exact M2.map) (by rw [hl]; unfold maxLen; omega) _ _ _ rfl rfl kA _ [] (plainElem_int Try.underlying3 (W64.wf (x := a) ⟨by omega, by omega⟩)) ?_
  intro w3 ho3 hg3
  have M3 := M2.turn bg bh ho3 HT2.out.2.1.size ⟨hg3.os, hg3.tape, hg3.output, hg3.size, hg3.block⟩
  clear ho3 hg3 g0 g1 ga
  go_wp2
  go_end0
  exact ⟨rfl, ⟨_, M3.mem m HT2.out.2.2.1 HT2.out.2.1⟩, M3.stp⟩

theorem swap_any (hb g cap bm a b : Nat) (D : DataW Unit) (es : List E) (w : World) (m : Mem w hb g cap bm D es) (ha : a < es.length) (hb' : b < es.length) :
    Calls Try.prog 25 #[.pointer (some ⟨hb, 0, none⟩), .int .i64 a, .int .i64 b] w fun e w' => e = .returned (.tuple #[]) ∧ (∃ D', Mem w' hb g cap bm D' (swp es a b)) ∧ Step (fun k => k = g ∨ k = bm) w w' := by
  by_cases h : a = b
  · subst h; exact swap_eq hb g cap bm a D es w m ha
  · exact swap_ne hb g cap bm a b D es w m ha hb' h

theorem swap_i (hb g cap bm : Nat) (a b : Int) (na nb : Nat) (D : DataW Unit) (es : List E) (w : World) (ea : a = na) (eb : b = nb) (m : Mem w hb g cap bm D es) (ha : na < es.length) (hb' : nb < es.length) :
    Calls Try.prog 25 #[.pointer (some ⟨hb, 0, none⟩), .int .i64 a, .int .i64 b] w fun e w' => e = .returned (.tuple #[]) ∧ (∃ D', Mem w' hb g cap bm D' (swp es na nb)) ∧ Step (fun k => k = g ∨ k = bm) w w' := by
  subst ea eb
  exact swap_any hb g cap bm na nb D es w m ha hb'

end Go.Proofs.Ythhhakglchcfgaa.HW
