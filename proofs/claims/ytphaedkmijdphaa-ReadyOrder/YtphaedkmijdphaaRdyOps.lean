/- How a set of jobs lies in memory: its block, its heap, the map of its jobs; what New, Put and Drop do. -/
import Derived.Test.YtphaedkmijdphaaRdyMap
import Derived.Test.YtphaedkmijdphaaRest
namespace Go.Proofs.Ytphaedkmijdphaa.HW
open Go.Proofs.Ytphaedkmijdphaa.HM

theorem Moved.trans {A B C : Nat → Prop} {a b c : World} (h : Moved A a B b) (k : Moved B b C c) : Moved A a C c :=
  ⟨⟨k.stp.os.trans h.stp.os, k.stp.tape.trans h.stp.tape, k.stp.output.trans h.stp.output, Nat.le_trans h.stp.size k.stp.size, fun i hi hA =>
      (k.stp.block i (Nat.lt_of_lt_of_le hi h.stp.size) (fun q => hA (h.own i hi q))).trans (h.stp.block i hi hA)⟩,
    fun i hi hC => h.own i hi (k.own i (Nat.lt_of_lt_of_le hi h.stp.size) hC)⟩
theorem Moved.kp {A : Nat → Prop} {a b : World} (h : Step (fun _ => False) a b) : Moved A a A b := ⟨h.mono (fun _ _ q => q.elim), fun _ _ q => q⟩

end Go.Proofs.Ytphaedkmijdphaa.HW
namespace Go.Proofs.Ytphaedkmijdphaa.RD
open Go.ChangeShapes Go.WideShapes Go.ChangeAt Go.RowKit Go.Proofs.Ytphaedkmijdphaa.AR Go.Proofs.Ytphaedkmijdphaa.HP Go.Maps Go.Proofs.Ytphaedkmijdphaa.HM Go.Proofs.Ytphaedkmijdphaa.HW

/-- its task and its deadline are ints -/
def WJ (j : Jb) : Prop := W64 j.t ∧ W64 j.d

/-- a set that has had jobs: its block, its heap's own blocks B, its map -/
structure SMem (w : World) (sb hb bm : Nat) (B : Nat → Prop) (D : DataW Unit) (L : List Jb) : Prop where
  blk : w.heap[sb]? = some (.cells #[.pointer (some ⟨hb, 0, none⟩), .map (some bm)] 51 (0, 0))
  rep : Rep w hb B (prs L)
  map : w.ownsMap Try.prog 3 jobElem bm L.length D
  ties : TiesJ D L
  off : ¬ B sb ∧ ¬ B bm
  sj : SJ L

section
variable {w : World} {sb hb bm : Nat} {B : Nat → Prop} {D : DataW Unit} {L : List Jb}

theorem SMem.h0 (m : SMem w sb hb bm B D L) : w.cell? ⟨sb, 0, none⟩ = some (.pointer (some ⟨hb, 0, none⟩)) := by simp [World.cell?, m.blk]
theorem SMem.h1 (m : SMem w sb hb bm B D L) : w.cell? ⟨sb, 1, none⟩ = some (.map (some bm)) := by simp [World.cell?, m.blk]
theorem SMem.ltT (m : SMem w sb hb bm B D L) : sb < w.heap.size := lt_of_block m.blk
theorem SMem.ltB (m : SMem w sb hb bm B D L) : bm < w.heap.size := m.map.lt
theorem SMem.bt (m : SMem w sb hb bm B D L) : bm ≠ sb := by
  intro e
  have hc := m.blk
  obtain ⟨es', clock, hm, _⟩ := m.map
  rw [e, hc] at hm; simp at hm
theorem SMem.nodup (m : SMem w sb hb bm B D L) : (tks L).Nodup := by rw [← ids_prs]; exact m.rep.nodup
theorem SMem.wf (m : SMem w sb hb bm B D L) : ∀ j ∈ L, WJ j := fun j hj => m.rep.wf (pr j) (List.mem_map_of_mem hj)

theorem SMem.kept {A : Nat → Prop} {w' : World} (m : SMem w sb hb bm B D L) (h : Step A w w') (a1 : ¬ A sb) (a2 : ¬ A bm) (a3 : ∀ k, k < w.heap.size → B k → ¬ A k) : SMem w' sb hb bm B D L :=
  ⟨by rw [h.block sb m.ltT a1]; exact m.blk, m.rep.kept h a3, map_kept h m.map a2, m.ties, m.off, m.sj⟩
theorem SMem.kp {w' : World} (m : SMem w sb hb bm B D L) (h : Kp w w') : SMem w' sb hb bm B D L := m.kept h (fun q => q) (fun q => q) (fun _ _ _ q => q)

end

/-- a set that has the jobs L, sorted; A: the blocks that are its own -/
def SRep (w : World) (sb : Nat) (A : Nat → Prop) (L : List Jb) : Prop :=
  A sb ∧ ((L = [] ∧ w.heap[sb]? = some (.cells #[.pointer none, .map none] 51 (0, 0))) ∨
    ∃ hb bm B D, SMem w sb hb bm B D L ∧ A bm ∧ ∀ k, B k → A k)

/-- the set has now the jobs L'; nothing but its own blocks has turned -/
def SWent (w : World) (sb : Nat) (A : Nat → Prop) (L' : List Jb) (w' : World) : Prop := ∃ A', SRep w' sb A' L' ∧ Moved A w A' w'

theorem SRep.lt {w : World} {sb : Nat} {A : Nat → Prop} {L : List Jb} (h : SRep w sb A L) : sb < w.heap.size := by
  rcases h.2 with ⟨_, h2⟩ | ⟨hb, bm, B, D, m, _⟩
  · exact lt_of_block h2
  · exact m.ltT
theorem SRep.nodup {w : World} {sb : Nat} {A : Nat → Prop} {L : List Jb} (h : SRep w sb A L) : (tks L).Nodup := by
  rcases h.2 with ⟨rfl, _⟩ | ⟨hb, bm, B, D, m, _⟩
  · exact List.nodup_nil
  · exact m.nodup
theorem SRep.sj {w : World} {sb : Nat} {A : Nat → Prop} {L : List Jb} (h : SRep w sb A L) : SJ L := by
  rcases h.2 with ⟨rfl, _⟩ | ⟨hb, bm, B, D, m, _⟩
  · exact List.Pairwise.nil
  · exact m.sj
theorem SRep.wf {w : World} {sb : Nat} {A : Nat → Prop} {L : List Jb} (h : SRep w sb A L) : ∀ j ∈ L, WJ j := by
  rcases h.2 with ⟨rfl, _⟩ | ⟨hb, bm, B, D, m, _⟩
  · intro t ht; simp at ht
  · exact m.wf
theorem SRep.kept {w w' : World} {sb : Nat} {A B : Nat → Prop} {L : List Jb} (h : SRep w sb A L) (hs : Step B w w') (hd : ∀ k, k < w.heap.size → A k → ¬ B k) : SRep w' sb A L := by
  refine ⟨h.1, ?_⟩
  rcases h.2 with ⟨rfl, h2⟩ | ⟨hb, bm, B', D, m, am, aB⟩
  · exact .inl ⟨rfl, by rw [hs.block sb (lt_of_block h2) (hd sb (lt_of_block h2) h.1)]; exact h2⟩
  · exact .inr ⟨hb, bm, B', D, m.kept hs (hd sb m.ltT h.1) (hd bm m.ltB am) (fun k hk q => hd k hk (aB k q)), am, aB⟩
theorem SRep.kp {w w' : World} {sb : Nat} {A : Nat → Prop} {L : List Jb} (h : SRep w sb A L) (hs : Kp w w') : SRep w' sb A L := h.kept hs (fun _ _ _ q => q)
theorem SWent.refl {w : World} {sb : Nat} {A : Nat → Prop} {L : List Jb} (h : SRep w sb A L) : SWent w sb A L w := ⟨A, h, Step.refl _ _, fun _ _ h => h⟩
theorem SWent.of_kp {w w1 w2 : World} {sb : Nat} {A : Nat → Prop} {L : List Jb} (k : Kp w w1) (h : SWent w1 sb A L w2) : SWent w sb A L w2 := by
  obtain ⟨A', r, m⟩ := h
  exact ⟨A', r, (Moved.kp k).trans m⟩

theorem jmap_not_nil (bm : Nat) (w : World) : (binOp .eql 49 (.map (some bm)) (.map none)).run Try.prog w = .ok (.bool false) w := by kernel_rfl
theorem jmap_nil (w : World) : (binOp .eql 49 (.map none) (.map none)).run Try.prog w = .ok (.bool true) w := by kernel_rfl

theorem new_set (w : World) :
    Calls Try.prog 8 #[] w fun e w' => e = .returned (.pointer (some ⟨w.heap.size, 0, none⟩)) ∧ SRep w' w.heap.size (fun k => k = w.heap.size) [] ∧ Kp w w' := by
  have hr : ∀ w', w' = w.alloc (.cells #[.pointer none, .map none] 51) → SRep w' w.heap.size (fun k => k = w.heap.size) [] ∧ Kp w w' := by
    intro w' e
    subst e
    exact ⟨⟨rfl, .inl ⟨rfl, heap_alloc_new w _⟩⟩, (Step.refl _ w).alloc _⟩
  go_enter Try.func8, Try.ntmps8
  go_wp2
  go_ret
  exact ⟨rfl, hr _ rfl⟩

/-- the set's own heap and map have been told of one more, or one less -/
def SSet (w : World) (sb hb bm : Nat) (B : Nat → Prop) (L' : List Jb) (w' : World) : Prop := ∃ B' D', SMem w' sb hb bm B' D' L' ∧ Step (fun k => B k ∨ k = bm) w w' ∧ ∀ k, k < w.heap.size → B' k → B k

theorem SSet.of_kp {w w1 w2 : World} {sb hb bm : Nat} {B : Nat → Prop} {L : List Jb} (k : Kp w w1) (h : SSet w1 sb hb bm B L w2) : SSet w sb hb bm B L w2 := by
  obtain ⟨B', D', m, s, o⟩ := h
  exact ⟨B', D', m, (Kp.any k).trans s, fun i hi q => o i (Nat.lt_of_lt_of_le hi k.size) q⟩

theorem swent_of {w w' : World} {sb hb bm : Nat} {A B : Nat → Prop} {L L' : List Jb} (h : SRep w sb A L) (am : A bm) (aB : ∀ k, B k → A k) (hs : SSet w sb hb bm B L' w') : SWent w sb A L' w' := by
  obtain ⟨B', D', m, hs, ho⟩ := hs
  refine ⟨fun k => A k ∨ B' k, ⟨.inl h.1, .inr ⟨hb, bm, B', D', m, .inl am, fun k hk => .inr hk⟩⟩, hs.mono (fun k _ q => q.elim (aB k) (fun e => e ▸ am)), fun k hk q => q.elim (fun q => q) (fun q => aB k (ho k hk q))⟩

/-- the heap has been called: the block and the map are as they were -/
theorem smem_went {w w2 : World} {sb hb bm : Nat} {B : Nat → Prop} {D : DataW Unit} {L : List Jb} {l' : List E} (m : SMem w sb hb bm B D L) (hw : Went w hb B l' w2) :
    w2.cell? ⟨sb, 1, none⟩ = some (.map (some bm)) ∧ w2.ownsMap Try.prog 3 jobElem bm L.length D := by
  obtain ⟨B', r', mv⟩ := hw
  have hb2 := (mv.stp.block sb m.ltT m.off.1).trans m.blk
  exact ⟨by simp [World.cell?, hb2], map_kept mv.stp m.map m.off.2⟩

/-- behind the heap's Push and the map's update -/
theorem smem_put {w w2 w3 : World} {sb hb bm n : Nat} {B : Nat → Prop} {D : DataW Unit} {L : List Jb} {j : Jb} (m : SMem w sb hb bm B D L)
    (hw : Went w hb B ((j.t, j.d) :: HP.drop (prs L) j.t) w2) (ho : w3.ownsMap Try.prog 3 jobElem bm n (D.put (ky j.t) j.dat)) (hg : Step (fun k => k = bm) w2 w3) :
    SSet w sb hb bm B (putL L j) w3 := by
  obtain ⟨B', r', mv⟩ := hw
  have oB : ¬ B' bm := fun q => m.off.2 (mv.own bm m.ltB q)
  have oT : ¬ B' sb := fun q => m.off.1 (mv.own sb m.ltT q)
  have t2 := m.ties.put m.nodup j
  have hp : (prs (putL L j)).Perm ((j.t, j.d) :: HP.drop (prs L) j.t) := by
    rw [← prs_drop]
    exact (insJ_perm j _).map pr
  refine ⟨B', _, ⟨?_, ?_, own_to ho t2.size, t2, ⟨oT, oB⟩, sj_put m.sj⟩, (mv.stp.mono (fun _ _ h => .inl h)).trans (hg.mono (fun _ _ h => .inr h)), mv.own⟩
  · rw [hg.block sb (Nat.lt_of_lt_of_le m.ltT mv.stp.size) (fun e => m.bt e.symm), mv.stp.block sb m.ltT m.off.1]; exact m.blk
  · exact (r'.kept hg (fun k _ hB e => oB (e ▸ hB))).perm hp.symm

/-- the parameter's box -/
theorem box_new {w W0 : World} {j : Jb} (h : W0 = w.alloc (.cells #[.int .i64 j.t, .int .i64 j.r, .int .i64 j.d, .int .i64 j.l, .int .i64 j.x, .bool j.s] 27)) : BJ W0 w.heap.size j ∧ Kp w W0 := by
  subst h
  exact ⟨bj_new w j, (Step.refl _ w).alloc _⟩

set_option maxHeartbeats 4000000 in
theorem put_old (sb hb bm : Nat) (B : Nat → Prop) (D : DataW Unit) (L : List Jb) (j : Jb) (w : World) (m : SMem w sb hb bm B D L) (hB : ∀ k, B k → k < w.heap.size) (hj : WJ j) (hl : L.length + 1 ≤ 8796093022208) :
    Calls Try.prog 9 #[.pointer (some ⟨sb, 0, none⟩), .agg #[.int .i64 j.t, .int .i64 j.r, .int .i64 j.d, .int .i64 j.l, .int .i64 j.x, .bool j.s]] w fun e w' => e = .returned (.tuple #[]) ∧ SSet w sb hb bm B (putL L j) w' := by
  have hkey := keyOf_int_mk Try.underlying3 hj.1.wf
  have hpl : (prs L).length + 1 ≤ 8796093022208 := by rw [prs_len]; exact hl
  have hmn := jmap_not_nil bm
  obtain ⟨W0, HW⟩ : ∃ W0, Hid (W0 = w.alloc (.cells #[.int .i64 j.t, .int .i64 j.r, .int .i64 j.d, .int .i64 j.l, .int .i64 j.x, .bool j.s] 27)) := ⟨_, rfl⟩
  obtain ⟨bj, k0⟩ := box_new HW.out
  have m0 := m.kp k0
  have z0 := m.ltT
  have g1 := m.h1
  go_enter Try.func9, Try.ntmps9
  go_wp2_with fail
  rw [← HW.out]
  obtain ⟨p0, p1, p2, p3, p4, p5⟩ := bj.all
  have q0 := m0.h0
  go_still_tail 8, (by kernel_rfl)
  go_wp2_with (first
    | (go_at_call 23; refine (push_any hb B (prs L) j.t j.d _ (m0.rep.kept (Step.drew (Step.refl (fun _ => False) _)) (fun _ _ _ q => q)) hj.1 hj.2 hpl).mono ?_; rintro e w2 ⟨rfl, hw⟩)
    | fail)
  have s0 : Kp W0 W0.drew := Step.drew (Step.refl _ _)
  have sm := smem_went (m0.kp s0) hw
  have g2 := sm.1
  have g3 := sm.2
  clear sm
  have bj2 : BJ w2 w.heap.size j := by
    obtain ⟨B', _, mv⟩ := hw
    exact (bj.kp s0).kept mv.stp (fun q => by have := hB _ q; omega)
  have n2 : sb < w2.heap.size := by
    obtain ⟨B', _, mv⟩ := hw
    exact Nat.lt_of_lt_of_le m0.ltT mv.stp.size
  clear p0 p1 p2 p3 p4 p5 q0
  obtain ⟨p0, p1, p2, p3, p4, p5⟩ := bj2.all
  go_still_tail 7, (by kernel_rfl)
  go_wp2_with (first
    | (at_mapUpdate; refine wpList_mapUpdate_own _ rfl _ _ _ 49 rfl 3 27 law3 Try.underlying49 jobElem bm _ D rfl (by exact g3) (by unfold maxLen; omega) _ _ _ rfl rfl hkey _ [] (jobElem_mk j) ?_; intro w3 ho3 hg3)
    | fail)
  have hs3 : Step (fun k => k = bm) w2 w3 := (Step.drew (Step.refl _ w2)).grown hg3 (fun k hk => by simp at hk; exact hk.symm)
  go_end0
  exact ⟨rfl, SSet.of_kp (Step.trans k0 s0) (smem_put (m0.kp s0) hw ho3 hs3)⟩

/-- its own blocks are there -/
theorem SMem.clip {w : World} {sb hb bm : Nat} {B : Nat → Prop} {D : DataW Unit} {L : List Jb} (m : SMem w sb hb bm B D L) : SMem w sb hb bm (fun k => B k ∧ k < w.heap.size) D L := by
  refine ⟨m.blk, ⟨⟨m.rep.1, m.rep.lt⟩, ?_⟩, m.map, m.ties, ⟨fun q => m.off.1 q.1, fun q => m.off.2 q.1⟩, m.sj⟩
  rcases m.rep.2 with q | ⟨g, cap, b, D, es, mm, ag, ab, ho, hp⟩
  · exact .inl q
  · exact .inr ⟨g, cap, b, D, es, mm, ⟨ag, mm.ltG⟩, ⟨ab, mm.ltB⟩, ho, hp⟩

/-- the first one of all: a heap and a map have been made -/
theorem smem_first {w w1 : World} {sb : Nat} (blk : w.heap[sb]? = some (.cells #[.pointer none, .map none] 51 (0, 0))) (r1 : Rep w1 w.heap.size (fun k => k = w.heap.size) []) (s1 : Step (fun _ => False) w w1) :
    ∀ W2, ((w1.setCell ⟨sb, 0, none⟩ (.pointer (some ⟨w.heap.size, 0, none⟩))).setCell ⟨sb, 1, none⟩ (.map (some w1.heap.size))).alloc (.map #[] 0) = W2 →
      SMem W2 sb w.heap.size w1.heap.size (fun k => k = w.heap.size) (.map []) [] ∧ Step (fun k => k = sb) w W2 := by
  intro W2 e
  subst e
  have hlt := lt_of_block blk
  have blk1 := (s1.block sb hlt (fun q => q)).trans blk
  have hr := r1.lt
  have hs : Step (fun k => k = sb) w1 (((w1.setCell ⟨sb, 0, none⟩ (.pointer (some ⟨w.heap.size, 0, none⟩))).setCell ⟨sb, 1, none⟩ (.map (some w1.heap.size))).alloc (.map #[] 0)) :=
    ((((Step.refl (fun k => k = sb) w1).setCell (p := ⟨sb, 0, none⟩) rfl _).setCell (p := ⟨sb, 1, none⟩) rfl _).alloc _)
  have hz : ((w1.setCell ⟨sb, 0, none⟩ (.pointer (some ⟨w.heap.size, 0, none⟩))).setCell ⟨sb, 1, none⟩ (.map (some w1.heap.size))).heap.size = w1.heap.size := by simp [World.setCell]
  have b1 := heap_setCell_same w1 sb 0 _ _ (.pointer (some ⟨w.heap.size, 0, none⟩)) blk1
  have b2 := heap_setCell_same _ sb 1 _ _ (.map (some w1.heap.size)) b1
  refine ⟨⟨?_, r1.kept hs (fun k _ q => by omega), ?_, tiesJ_nil, ⟨by omega, by omega⟩, List.Pairwise.nil⟩, (s1.mono (fun _ _ q => q.elim)).trans hs⟩
  · rw [Below.heap_alloc _ _ _ (by rw [hz]; exact lt_of_block blk1), b2]; rfl
  · have := World.ownsMap_made (H := Unit) ((w1.setCell ⟨sb, 0, none⟩ (.pointer (some ⟨w.heap.size, 0, none⟩))).setCell ⟨sb, 1, none⟩ (.map (some w1.heap.size))) Try.prog 3 jobElem
    rw [hz] at this
    exact this

def SFirst (w : World) (sb : Nat) (L' : List Jb) (w' : World) : Prop := ∃ w1 hb bm B, Step (fun k => k = sb) w w1 ∧ w.heap.size ≤ bm ∧ (∀ k, B k → w.heap.size ≤ k) ∧ SSet w1 sb hb bm B L' w'

set_option maxHeartbeats 4000000 in
theorem put_fresh (sb : Nat) (j : Jb) (w : World) (blk : w.heap[sb]? = some (.cells #[.pointer none, .map none] 51 (0, 0))) (hj : WJ j) :
    Calls Try.prog 9 #[.pointer (some ⟨sb, 0, none⟩), .agg #[.int .i64 j.t, .int .i64 j.r, .int .i64 j.d, .int .i64 j.l, .int .i64 j.x, .bool j.s]] w fun e w' => e = .returned (.tuple #[]) ∧ SFirst w sb (putL [] j) w' := by
  have hkey := keyOf_int_mk Try.underlying3 hj.1.wf
  have hmn := jmap_nil
  have hmm := @run_makeMap Try.prog
  obtain ⟨W0, HW⟩ : ∃ W0, Hid (W0 = w.alloc (.cells #[.int .i64 j.t, .int .i64 j.r, .int .i64 j.d, .int .i64 j.l, .int .i64 j.x, .bool j.s] 27)) := ⟨_, rfl⟩
  obtain ⟨bj, k0⟩ := box_new HW.out
  have z0 := lt_of_block blk
  have blk0 := (k0.block sb z0 (fun q => q)).trans blk
  have g0 : w.cell? ⟨sb, 0, none⟩ = some (.pointer none) := by simp [World.cell?, blk]
  have g1 : w.cell? ⟨sb, 1, none⟩ = some (.map none) := by simp [World.cell?, blk]
  have y0 : sb < W0.heap.size := lt_of_block blk0
  have y1 := bj.lt
  go_enter Try.func9, Try.ntmps9
  go_wp2_with fail
  rw [← HW.out]
  refine (new_any _).mono ?_
  rintro e w1 ⟨rfl, r1, s1⟩
  have blk1 := (s1.block sb y0 (fun q => q)).trans blk0
  have f0 : w1.frozen? ⟨sb, 0, none⟩ = false := by simp [World.frozen?, blk1]
  have f1 : w1.frozen? ⟨sb, 1, none⟩ = false := by simp [World.frozen?, blk1]
  have c0 : w1.cell? ⟨sb, 0, none⟩ = some (.pointer none) := by simp [World.cell?, blk1]
  have c1 : w1.cell? ⟨sb, 1, none⟩ = some (.map none) := by simp [World.cell?, blk1]
  have hlt1 : sb < w1.heap.size := lt_of_block blk1
  have hz1 := s1.size
  have hr := r1.lt
  have nb : w.heap.size ≠ sb := by omega
  have nb' : ¬ sb = w.heap.size := by omega
  have bj1 := bj.kp s1
  obtain ⟨d0, d1, d2, d3, d4, d5⟩ := bj1.all
  have hlb1 := bj1.lt
  go_wp2_with fail
  obtain ⟨m, st⟩ := smem_first blk0 r1 s1 _ rfl
  have e2 : Hid (w1.heap.size < (World.alloc (World.setCell (World.setCell w1 ⟨sb, 0, none⟩ (.pointer (some ⟨W0.heap.size, 0, none⟩))) ⟨sb, 1, none⟩ (.map (some w1.heap.size))) (.map #[] 0)).heap.size) := by
    show w1.heap.size < _
    simp [World.setCell]
  generalize World.alloc (World.setCell (World.setCell w1 _ _) _ _) _ = W2 at m st e2 ⊢
  have bj2 : BJ W2 w.heap.size j := bj.kept st nb
  clear d0 d1 d2 d3 d4 d5 c0 c1 f0 f1 bj1
  obtain ⟨p0, p1, p2, p3, p4, p5⟩ := bj2.all
  have q0 := m.h0
  have s0 : Kp W2 W2.drew := Step.drew (Step.refl _ _)
  have u0 := m.ltT
  go_still_tail 8, (by kernel_rfl)
  go_wp2_with (first
    | (go_at_call 23; refine (push_any W0.heap.size _ (prs []) j.t j.d _ (m.rep.kept s0 (fun _ _ _ q => q)) hj.1 hj.2 (by simp [prs])).mono ?_; rintro e w2 ⟨rfl, hw⟩)
    | fail)
  have sm := smem_went (m.kp s0) hw
  have g2 := sm.1
  have g3 := sm.2
  clear sm
  have bj3 : BJ w2 w.heap.size j := by
    obtain ⟨B', _, mv⟩ := hw
    exact (bj2.kp s0).kept mv.stp (fun q => by omega)
  have n2 : sb < w2.heap.size := by
    obtain ⟨B', _, mv⟩ := hw
    exact Nat.lt_of_lt_of_le m.ltT mv.stp.size
  clear p0 p1 p2 p3 p4 p5 q0
  obtain ⟨p0, p1, p2, p3, p4, p5⟩ := bj3.all
  go_still_tail 7, (by kernel_rfl)
  go_wp2_with (first
    | (at_mapUpdate; refine wpList_mapUpdate_own _ rfl _ _ _ 49 rfl 3 27 law3 Try.underlying49 jobElem w1.heap.size _ (.map []) rfl (by exact g3) (by unfold maxLen; simp) _ _ _ rfl rfl hkey _ [] (jobElem_mk j) ?_; intro w3 ho3 hg3)
    | fail)
  have hs3 : Step (fun k => k = w1.heap.size) w2 w3 := (Step.drew (Step.refl _ w2)).grown hg3 (fun k hk => by simp at hk; exact hk.symm)
  have S3 := SSet.of_kp s0 (smem_put (m.kp s0) hw ho3 hs3)
  have hk0 := k0.size
  go_end0
  exact ⟨rfl, W2, _, _, _, (Kp.any k0).trans st, by omega, fun k hk => by omega, S3⟩

/-- Put, whatever there is -/
theorem put_any (sb : Nat) (A : Nat → Prop) (L : List Jb) (j : Jb) (w : World) (h : SRep w sb A L) (hj : WJ j) (hl : L.length + 1 ≤ 8796093022208) :
    Calls Try.prog 9 #[.pointer (some ⟨sb, 0, none⟩), .agg #[.int .i64 j.t, .int .i64 j.r, .int .i64 j.d, .int .i64 j.l, .int .i64 j.x, .bool j.s]] w fun e w' => e = .returned (.tuple #[]) ∧ SWent w sb A (putL L j) w' := by
  rcases h.2 with ⟨rfl, h2⟩ | ⟨hb, bm, B, D, m, am, aB⟩
  · refine (put_fresh sb j w h2 hj).mono ?_
    rintro e w' ⟨rfl, w1, hb, bm, B, s1, hbm, hB, B', D', m', s', o'⟩
    refine ⟨rfl, fun k => A k ∨ k = bm ∨ B' k, ⟨.inl h.1, .inr ⟨hb, bm, B', D', m', .inr (.inl rfl), fun k hk => .inr (.inr hk)⟩⟩, ?_, fun k hk q => ?_⟩
    · refine ⟨s'.os.trans s1.os, s'.tape.trans s1.tape, s'.output.trans s1.output, Nat.le_trans s1.size s'.size, fun k hk hA => ?_⟩
      rw [s'.block k (Nat.lt_of_lt_of_le hk s1.size) (fun q => by rcases q with q | q; exact absurd (hB k q) (by omega); omega)]
      exact s1.block k hk (fun e => hA (e ▸ h.1))
    · rcases q with q | q | q
      · exact q
      · omega
      · have := hB k (o' k (Nat.lt_of_lt_of_le hk s1.size) q); omega
  · refine (put_old sb hb bm _ D L j w m.clip (fun k q => q.2) hj hl).mono ?_
    rintro e w' ⟨rfl, hs⟩
    exact ⟨rfl, swent_of h am (fun k q => aB k q.1) hs⟩

/-! ### Drop -/

set_option maxHeartbeats 2000000 in
theorem drop_fresh (sb : Nat) (x : Int) (w : World) (blk : w.heap[sb]? = some (.cells #[.pointer none, .map none] 51 (0, 0))) (hi : W64 x) :
    Calls Try.prog 12 #[.pointer (some ⟨sb, 0, none⟩), .int .i64 x] w fun e w' => e = .returned (.bool false) ∧ w' = w := by
  have h0 : w.cell? ⟨sb, 0, none⟩ = some (.pointer none) := by simp [World.cell?, blk]
  have h1 : w.cell? ⟨sb, 1, none⟩ = some (.map none) := by simp [World.cell?, blk]
  have hdel := fun ty => Maps.drop_nil (w := w) law3 Try.underlying49 (keyOf_int_mk Try.underlying3 hi.wf) ty
  go_enter Try.func12, Try.ntmps12
  go_wp2_with (go_at_call 24; refine (remove_none _ _).mono ?_; rintro e w1 ⟨rfl, rfl⟩)
  go_ret
  exact ⟨rfl, rfl⟩

theorem smem_del {w w1 : World} {sb hb bm n : Nat} {B : Nat → Prop} {D : DataW Unit} {L : List Jb} {x : Int} (m : SMem w sb hb bm B D L)
    (ho : w1.ownsMap Try.prog 3 jobElem bm n (D.del (ky x))) (hg : w.grownBy w1 (some bm)) :
    w1.cell? ⟨sb, 0, none⟩ = some (.pointer (some ⟨hb, 0, none⟩)) ∧ Rep w1 hb B (prs L) ∧ ∀ w2, Went w1 hb B (HP.drop (prs L) x) w2 → SSet w sb hb bm B (dropJ L x) w2 := by
  have hs : Step (fun k => k = bm) w w1 := (Step.refl _ w).grown hg (fun k hk => by simp at hk; exact hk.symm)
  have blk1 := (hs.block sb m.ltT (fun e => m.bt e.symm)).trans m.blk
  have r1 := m.rep.kept hs (fun k _ hB e => m.off.2 (e ▸ hB))
  refine ⟨by simp [World.cell?, blk1], r1, ?_⟩
  rintro w2 ⟨B', r', mv⟩
  have lt1 : sb < w1.heap.size := lt_of_block blk1
  have lb1 : bm < w1.heap.size := ho.lt
  have oB : ¬ B' bm := fun q => m.off.2 (mv.own bm lb1 q)
  have oT : ¬ B' sb := fun q => m.off.1 (mv.own sb lt1 q)
  have t2 := m.ties.del m.nodup x
  refine ⟨B', _, ⟨?_, ?_, own_to (map_kept mv.stp ho m.off.2) t2.size, t2, ⟨oT, oB⟩, sj_drop m.sj⟩, (hs.mono (fun _ _ h => .inr h)).trans (mv.stp.mono (fun _ _ h => .inl h)), fun k hk q => mv.own k (Nat.lt_of_lt_of_le hk hs.size) q⟩
  · rw [mv.stp.block sb lt1 m.off.1]; exact blk1
  · rw [prs_drop]; exact r'

set_option maxHeartbeats 2000000 in
theorem drop_old (sb hb bm : Nat) (B : Nat → Prop) (D : DataW Unit) (L : List Jb) (x : Int) (w : World) (m : SMem w sb hb bm B D L) (hi : W64 x) :
    Calls Try.prog 12 #[.pointer (some ⟨sb, 0, none⟩), .int .i64 x] w fun e w' => e = .returned (.bool (decide (x ∈ tks L))) ∧ SSet w sb hb bm B (dropJ L x) w' := by
  have h0 := m.h0
  have h1 := m.h1
  have hkey := keyOf_int_mk Try.underlying3 hi.wf
  rw [← ids_prs]
  go_enter Try.func12, Try.ntmps12
  go_wp2_with (first
    | (at_delete; refine wpList_delete_own _ rfl _ _ 49 3 rfl 27 law3 Try.underlying49 jobElem bm _ D rfl m.map _ _ rfl hkey ?_; intro w1 ho1 ht1; have q := smem_del m ho1 ht1.grown; have q0 := q.1; have q1 := q.2.1; have q2 := q.2.2; clear q)
    | (go_at_call 24; refine (remove_any hb B (prs L) x _ q1 hi).mono ?_; rintro e w2 ⟨rfl, hw⟩)
    | fail)
  go_ret
  exact ⟨rfl, q2 _ hw⟩

/-- Drop, whatever there is -/
theorem drop_any (sb : Nat) (A : Nat → Prop) (L : List Jb) (x : Int) (w : World) (h : SRep w sb A L) (hi : W64 x) :
    Calls Try.prog 12 #[.pointer (some ⟨sb, 0, none⟩), .int .i64 x] w fun e w' => e = .returned (.bool (decide (x ∈ tks L))) ∧ SWent w sb A (dropJ L x) w' := by
  rcases h.2 with ⟨rfl, h2⟩ | ⟨hb, bm, B, D, m, am, aB⟩
  · refine (drop_fresh sb x w h2 hi).mono ?_
    rintro e w' ⟨rfl, rfl⟩
    exact ⟨by simp [tks], SWent.refl h⟩
  · refine (drop_old sb hb bm B D L x w m hi).mono ?_
    rintro e w' ⟨rfl, hs⟩
    exact ⟨rfl, swent_of h am aB hs⟩

end Go.Proofs.Ytphaedkmijdphaa.RD
