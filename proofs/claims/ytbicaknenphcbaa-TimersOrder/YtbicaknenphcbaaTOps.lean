/- How timers lie in memory: their block, their heap, the map of what each id's every is; and what Set, Cancel, Len and New do. -/
import Derived.Test.YtbicaknenphcbaaTPlain
namespace Go.Proofs.Ytbicaknenphcbaa.HW
open Go.ChangeShapes Go.WideShapes Go.ChangeAt Go.RowKit Go.Proofs.Ytbicaknenphcbaa.HP Go.Maps Go.Proofs.Ytbicaknenphcbaa.HM

theorem Moved.trans {A B C : Nat → Prop} {a b c : World} (h : Moved A a B b) (k : Moved B b C c) : Moved A a C c :=
  ⟨⟨k.stp.os.trans h.stp.os, k.stp.tape.trans h.stp.tape, k.stp.output.trans h.stp.output, Nat.le_trans h.stp.size k.stp.size, fun i hi hA =>
      (k.stp.block i (Nat.lt_of_lt_of_le hi h.stp.size) (fun q => hA (h.own i hi q))).trans (h.stp.block i hi hA)⟩,
    fun i hi hC => h.own i hi (k.own i (Nat.lt_of_lt_of_le hi h.stp.size) hC)⟩

/-- timers that have been set: their block, their heap's own blocks B, their map -/
structure TMem (w : World) (tb hb bm : Nat) (B : Nat → Prop) (D : DataW Unit) (L : List T3) : Prop where
  blk : w.heap[tb]? = some (.cells #[.pointer (some ⟨hb, 0, none⟩), .map (some bm)] 48 (0, 0))
  rep : Rep w hb B (prs L)
  map : w.ownsMap Try.prog 3 (plainElem Try.prog 3) bm L.length D
  ties : TiesT D L
  off : ¬ B tb ∧ ¬ B bm

section
variable {w : World} {tb hb bm : Nat} {B : Nat → Prop} {D : DataW Unit} {L : List T3}

theorem TMem.h0 (m : TMem w tb hb bm B D L) : w.cell? ⟨tb, 0, none⟩ = some (.pointer (some ⟨hb, 0, none⟩)) := by simp [World.cell?, m.blk]
theorem TMem.h1 (m : TMem w tb hb bm B D L) : w.cell? ⟨tb, 1, none⟩ = some (.map (some bm)) := by simp [World.cell?, m.blk]
theorem TMem.ltT (m : TMem w tb hb bm B D L) : tb < w.heap.size := lt_of_block m.blk
theorem TMem.ltB (m : TMem w tb hb bm B D L) : bm < w.heap.size := m.map.lt
theorem TMem.bt (m : TMem w tb hb bm B D L) : bm ≠ tb := by
  intro e
  have hc := m.blk
  obtain ⟨es', clock, hm, _⟩ := m.map
  rw [e, hc] at hm; simp at hm
theorem TMem.nodup (m : TMem w tb hb bm B D L) : (idt L).Nodup := by rw [← ids_prs]; exact m.rep.nodup

theorem TMem.kept {A : Nat → Prop} {w' : World} (m : TMem w tb hb bm B D L) (h : Step A w w') (a1 : ¬ A tb) (a2 : ¬ A bm) (a3 : ∀ k, k < w.heap.size → B k → ¬ A k) : TMem w' tb hb bm B D L :=
  ⟨by rw [h.block tb m.ltT a1]; exact m.blk, m.rep.kept h a3, map_kept h m.map a2, m.ties, m.off⟩

end

/-- timers that have the ids L; A: the blocks that are their own -/
def TRep (w : World) (tb : Nat) (A : Nat → Prop) (L : List T3) : Prop :=
  A tb ∧ ((L = [] ∧ w.heap[tb]? = some (.cells #[.pointer none, .map none] 48 (0, 0))) ∨
    ∃ hb bm B D, TMem w tb hb bm B D L ∧ A bm ∧ ∀ k, B k → A k)

/-- the timers have now the ids L'; nothing but their own blocks has turned -/
def TWent (w : World) (tb : Nat) (A : Nat → Prop) (L' : List T3) (w' : World) : Prop := ∃ A', TRep w' tb A' L' ∧ Moved A w A' w'

theorem TRep.lt {w : World} {tb : Nat} {A : Nat → Prop} {L : List T3} (h : TRep w tb A L) : tb < w.heap.size := by
  rcases h.2 with ⟨_, h2⟩ | ⟨hb, bm, B, D, m, _⟩
  · exact lt_of_block h2
  · exact m.ltT

theorem TRep.nodup {w : World} {tb : Nat} {A : Nat → Prop} {L : List T3} (h : TRep w tb A L) : (idt L).Nodup := by
  rcases h.2 with ⟨rfl, _⟩ | ⟨hb, bm, B, D, m, _⟩
  · exact List.nodup_nil
  · exact m.nodup

theorem TRep.wf {w : World} {tb : Nat} {A : Nat → Prop} {L : List T3} (h : TRep w tb A L) : ∀ t ∈ L, W64 t.1 ∧ W64 t.2.1 ∧ W64 t.2.2 := by
  rcases h.2 with ⟨rfl, _⟩ | ⟨hb, bm, B, D, m, _⟩
  · intro t ht; simp at ht
  · intro t ht
    have := m.rep.wf (pr t) (List.mem_map_of_mem ht)
    exact ⟨this.1, this.2, m.ties.wf t ht⟩

theorem TRep.kept {w w' : World} {tb : Nat} {A B : Nat → Prop} {L : List T3} (h : TRep w tb A L) (hs : Step B w w') (hd : ∀ k, k < w.heap.size → A k → ¬ B k) : TRep w' tb A L := by
  refine ⟨h.1, ?_⟩
  rcases h.2 with ⟨rfl, h2⟩ | ⟨hb, bm, B', D, m, am, aB⟩
  · exact .inl ⟨rfl, by rw [hs.block tb (lt_of_block h2) (hd tb (lt_of_block h2) h.1)]; exact h2⟩
  · exact .inr ⟨hb, bm, B', D, m.kept hs (hd tb m.ltT h.1) (hd bm m.ltB am) (fun k hk q => hd k hk (aB k q)), am, aB⟩

theorem TWent.refl {w : World} {tb : Nat} {A : Nat → Prop} {L : List T3} (h : TRep w tb A L) : TWent w tb A L w := ⟨A, h, Step.refl _ _, fun _ _ h => h⟩

/-- the blocks that are not the timers' own may be forgotten -/
theorem TRep.mono {w : World} {tb : Nat} {A A' : Nat → Prop} {L : List T3} (h : TRep w tb A L) (hA : ∀ k, A k → A' k) : TRep w tb A' L := by
  refine ⟨hA _ h.1, ?_⟩
  rcases h.2 with h2 | ⟨hb, bm, B, D, m, am, aB⟩
  · exact .inl h2
  · exact .inr ⟨hb, bm, B, D, m, hA _ am, fun k hk => hA _ (aB k hk)⟩

theorem tnew_any (w : World) :
    Calls Try.prog 8 #[] w fun e w' => e = .returned (.pointer (some ⟨w.heap.size, 0, none⟩)) ∧ TRep w' w.heap.size (fun k => k = w.heap.size) [] ∧ Step (fun _ => False) w w' := by
  have hr : ∀ w', w' = w.alloc (.cells #[.pointer none, .map none] 48) → TRep w' w.heap.size (fun k => k = w.heap.size) [] ∧ Step (fun _ => False) w w' := by
    intro w' e
    subst e
    exact ⟨⟨rfl, .inl ⟨rfl, heap_alloc_new w _⟩⟩, (Step.refl _ w).alloc _⟩
  go_enter Try.func8, Try.ntmps8
  go_wp2
  go_ret
  exact ⟨rfl, hr _ rfl⟩

theorem tlen_any (tb : Nat) (A : Nat → Prop) (L : List T3) (w : World) (h : TRep w tb A L) :
    Calls Try.prog 15 #[.pointer (some ⟨tb, 0, none⟩)] w fun e w' => e = .returned (.int .i64 L.length) ∧ w' = w := by
  rcases h.2 with ⟨rfl, h2⟩ | ⟨hb, bm, B, D, m, am, aB⟩
  · have h0 : w.cell? ⟨tb, 0, none⟩ = some (.pointer none) := by simp [World.cell?, h2]
    go_enter Try.func15, Try.ntmps15
    go_wp2_with (go_at_call 21; refine (len_none _).mono ?_; rintro e w1 ⟨rfl, rfl⟩)
    go_ret
    exact ⟨rfl, rfl⟩
  · have h0 := m.h0
    rw [← prs_len]
    go_enter Try.func15, Try.ntmps15
    go_wp2_with (go_at_call 21; refine (len_any hb _ _ _ m.rep).mono ?_; rintro e w1 ⟨rfl, rfl⟩)
    go_ret
    exact ⟨rfl, rfl⟩

/-- behind the heap's Push and the map's update -/
theorem tmem_set {w w2 w3 : World} {tb hb bm n : Nat} {B : Nat → Prop} {D : DataW Unit} {L : List T3} {id a ev : Int} (m : TMem w tb hb bm B D L) (hv : W64 ev)
    (hw : Went w hb B ((id, capN a) :: HP.drop (prs L) id) w2) (ho : w3.ownsMap Try.prog 3 (plainElem Try.prog 3) bm n (D.put (ky id) (di ev))) (hg : w2.grownBy w3 (some bm)) :
    ∃ B', TMem w3 tb hb bm B' (D.put (ky id) (di ev)) (setT L id a ev) ∧ Step (fun k => B k ∨ k = bm) w w3 ∧ ∀ k, k < w.heap.size → B' k → B k := by
  obtain ⟨B', r', mv⟩ := hw
  have hs : Step (fun k => k = bm) w2 w3 := (Step.refl _ w2).grown hg (fun k hk => by simp at hk; exact hk.symm)
  have oB : ¬ B' bm := fun q => m.off.2 (mv.own bm m.ltB q)
  have oT : ¬ B' tb := fun q => m.off.1 (mv.own tb m.ltT q)
  have t2 := m.ties.set m.nodup id a hv
  refine ⟨B', ⟨?_, ?_, own_to ho t2.size, t2, oT, oB⟩, (mv.stp.mono (fun _ _ h => .inl h)).trans (hs.mono (fun _ _ h => .inr h)), mv.own⟩
  · rw [hs.block tb (Nat.lt_of_lt_of_le m.ltT mv.stp.size) (fun e => m.bt e.symm), mv.stp.block tb m.ltT m.off.1]; exact m.blk
  · exact (r'.kept hs (fun k _ hB e => oB (e ▸ hB))).perm (prs_set L id a ev).symm

theorem twent_of {w w' : World} {tb hb bm : Nat} {A B B' : Nat → Prop} {D' : DataW Unit} {L L' : List T3} (h : TRep w tb A L) (am : A bm) (aB : ∀ k, B k → A k) (m : TMem w' tb hb bm B' D' L') (hs : Step (fun k => B k ∨ k = bm) w w') (ho : ∀ k, k < w.heap.size → B' k → B k) : TWent w tb A L' w' := by
  refine ⟨fun k => A k ∨ B' k, ⟨.inl h.1, .inr ⟨hb, bm, B', D', m, .inl am, fun k hk => .inr hk⟩⟩, hs.mono (fun k _ q => q.elim (aB k) (fun e => e ▸ am)), fun k hk q => q.elim (fun q => q) (fun q => aB k (ho k hk q))⟩

/-- the heap has been called: the block and the map are as they were -/
theorem tmem_went {w w2 : World} {tb hb bm : Nat} {B : Nat → Prop} {D : DataW Unit} {L : List T3} {l' : List E} (m : TMem w tb hb bm B D L) (hw : Went w hb B l' w2) :
    w2.cell? ⟨tb, 1, none⟩ = some (.map (some bm)) ∧ w2.ownsMap Try.prog 3 (plainElem Try.prog 3) bm L.length D := by
  obtain ⟨B', r', mv⟩ := hw
  have hb2 := (mv.stp.block tb m.ltT m.off.1).trans m.blk
  exact ⟨by simp [World.cell?, hb2], map_kept mv.stp m.map m.off.2⟩

/-- the timers' own heap and map have been told of one more -/
def TSet (w : World) (tb hb bm : Nat) (B : Nat → Prop) (L' : List T3) (w' : World) : Prop := ∃ B' D', TMem w' tb hb bm B' D' L' ∧ Step (fun k => B k ∨ k = bm) w w' ∧ ∀ k, k < w.heap.size → B' k → B k

set_option maxHeartbeats 2000000 in
theorem tset_old (tb hb bm : Nat) (B : Nat → Prop) (D : DataW Unit) (L : List T3) (id a ev : Int) (w : World) (m : TMem w tb hb bm B D L) (hi : W64 id) (ha : W64 a) (hv : W64 ev) (hl : L.length + 1 ≤ 8796093022208) :
    Calls Try.prog 10 #[.pointer (some ⟨tb, 0, none⟩), .int .i64 id, .int .i64 a, .int .i64 ev] w fun e w' => e = .returned (.tuple #[]) ∧ TSet w tb hb bm B (setT L id a ev) w' := by
  have h0 := m.h0
  have h1 := m.h1
  have hmn := map_not_nil bm
  have hcw := capN_wf ha
  have hkey := keyOf_int_mk Try.underlying3 hi.wf
  have hpl : (prs L).length + 1 ≤ 8796093022208 := by rw [prs_len]; exact hl
  have HP := push_any hb B (prs L) id (capN a) w m.rep hi hcw hpl
  by_cases hc : a ≤ 1099511627776
  · have hq : capN a = a := capN_id hc
    rw [hq] at HP
    have HQ : Hid (capN a = a) := hq
    clear hq
    go_enter Try.func10, Try.ntmps10
    go_wp2_with fail
    refine HP.mono ?_
    rintro e w2 ⟨rfl, hw⟩
    have g1 := tmem_went m hw
    have g2 := g1.1
    have g3 := g1.2
    clear g1
    go_wp2_with (first
      | (at_mapUpdate; refine wpList_mapUpdate_own _ rfl _ _ _ 46 rfl 3 3 law3 Try.underlying46 _ bm _ D rfl g3 (by unfold maxLen; omega) _ _ _ rfl rfl hkey _ [] (plainElem_int Try.underlying3 hv.wf) ?_; intro w3 ho3 hg3)
      | fail)
    rw [← HQ.out] at hw
    obtain ⟨B', m3, s3, o3⟩ := tmem_set m hv hw ho3 hg3
    go_end0
    exact ⟨rfl, B', _, m3, s3, o3⟩
  · have hq : capN a = 1099511627776 := by unfold capN; rw [if_neg hc]
    rw [hq] at HP
    have HQ : Hid (capN a = 1099511627776) := hq
    clear hq
    go_enter Try.func10, Try.ntmps10
    go_wp2_with fail
    refine HP.mono ?_
    rintro e w2 ⟨rfl, hw⟩
    have g1 := tmem_went m hw
    have g2 := g1.1
    have g3 := g1.2
    clear g1
    go_wp2_with (first
      | (at_mapUpdate; refine wpList_mapUpdate_own _ rfl _ _ _ 46 rfl 3 3 law3 Try.underlying46 _ bm _ D rfl g3 (by unfold maxLen; omega) _ _ _ rfl rfl hkey _ [] (plainElem_int Try.underlying3 hv.wf) ?_; intro w3 ho3 hg3)
      | fail)
    rw [← HQ.out] at hw
    obtain ⟨B', m3, s3, o3⟩ := tmem_set m hv hw ho3 hg3
    go_end0
    exact ⟨rfl, B', _, m3, s3, o3⟩

/-- the first one of all: a heap and a map have been made -/
theorem tmem_first {w w1 : World} {tb : Nat} (blk : w.heap[tb]? = some (.cells #[.pointer none, .map none] 48 (0, 0))) (r1 : Rep w1 w.heap.size (fun k => k = w.heap.size) []) (s1 : Step (fun _ => False) w w1) :
    ∀ W2, ((w1.setCell ⟨tb, 0, none⟩ (.pointer (some ⟨w.heap.size, 0, none⟩))).setCell ⟨tb, 1, none⟩ (.map (some w1.heap.size))).alloc (.map #[] 0) = W2 →
      TMem W2 tb w.heap.size w1.heap.size (fun k => k = w.heap.size) (.map []) [] ∧ Step (fun k => k = tb) w W2 := by
  intro W2 e
  subst e
  have hlt := lt_of_block blk
  have blk1 := (s1.block tb hlt (fun q => q)).trans blk
  have hr := r1.lt
  have hs : Step (fun k => k = tb) w1 (((w1.setCell ⟨tb, 0, none⟩ (.pointer (some ⟨w.heap.size, 0, none⟩))).setCell ⟨tb, 1, none⟩ (.map (some w1.heap.size))).alloc (.map #[] 0)) :=
    ((((Step.refl (fun k => k = tb) w1).setCell (p := ⟨tb, 0, none⟩) rfl _).setCell (p := ⟨tb, 1, none⟩) rfl _).alloc _)
  have hz : ((w1.setCell ⟨tb, 0, none⟩ (.pointer (some ⟨w.heap.size, 0, none⟩))).setCell ⟨tb, 1, none⟩ (.map (some w1.heap.size))).heap.size = w1.heap.size := by simp [World.setCell]
  have b1 := heap_setCell_same w1 tb 0 _ _ (.pointer (some ⟨w.heap.size, 0, none⟩)) blk1
  have b2 := heap_setCell_same _ tb 1 _ _ (.map (some w1.heap.size)) b1
  refine ⟨⟨?_, r1.kept hs (fun k _ q => by omega), ?_, tiesT_nil, by omega, by omega⟩, (s1.mono (fun _ _ q => q.elim)).trans hs⟩
  · rw [Below.heap_alloc _ _ _ (by rw [hz]; exact lt_of_block blk1), b2]; rfl
  · have := World.ownsMap_made (H := Unit) ((w1.setCell ⟨tb, 0, none⟩ (.pointer (some ⟨w.heap.size, 0, none⟩))).setCell ⟨tb, 1, none⟩ (.map (some w1.heap.size))) Try.prog 3 (plainElem Try.prog 3)
    rw [hz] at this
    exact this

def TFirst (w : World) (tb : Nat) (L' : List T3) (w' : World) : Prop := ∃ w1 hb bm B, Step (fun k => k = tb) w w1 ∧ w.heap.size ≤ bm ∧ (∀ k, B k → w.heap.size ≤ k) ∧ TSet w1 tb hb bm B L' w'

set_option maxHeartbeats 2000000 in
theorem tset_fresh (tb : Nat) (id a ev : Int) (w : World) (blk : w.heap[tb]? = some (.cells #[.pointer none, .map none] 48 (0, 0))) (hi : W64 id) (ha : W64 a) (hv : W64 ev) :
    Calls Try.prog 10 #[.pointer (some ⟨tb, 0, none⟩), .int .i64 id, .int .i64 a, .int .i64 ev] w fun e w' => e = .returned (.tuple #[]) ∧ TFirst w tb (setT [] id a ev) w' := by
  have h0 : w.cell? ⟨tb, 0, none⟩ = some (.pointer none) := by simp [World.cell?, blk]
  have h1 : w.cell? ⟨tb, 1, none⟩ = some (.map none) := by simp [World.cell?, blk]
  have hmn := map_nil
  have hmm := @run_makeMap Try.prog
  have hcw := capN_wf ha
  have hkey := keyOf_int_mk Try.underlying3 hi.wf
  by_cases hc : a ≤ 1099511627776
  · have hq : capN a = a := capN_id hc
    have HQ : Hid (capN a = a) := hq
    rw [hq] at hcw
    clear hq
    go_enter Try.func10, Try.ntmps10
    go_wp2_with fail
    refine (new_any _).mono ?_
    rintro e w1 ⟨rfl, r1, s1⟩
    have blk1 := (s1.block tb (lt_of_block blk) (fun q => q)).trans blk
    have f0 : w1.frozen? ⟨tb, 0, none⟩ = false := by simp [World.frozen?, blk1]
    have f1 : w1.frozen? ⟨tb, 1, none⟩ = false := by simp [World.frozen?, blk1]
    have k0 : w1.cell? ⟨tb, 0, none⟩ = some (.pointer none) := by simp [World.cell?, blk1]
    have k1 : w1.cell? ⟨tb, 1, none⟩ = some (.map none) := by simp [World.cell?, blk1]
    have hlt1 : tb < w1.heap.size := lt_of_block blk1
    have hz1 := s1.size
    have hr := r1.lt
    go_wp2_with fail
    obtain ⟨m, st⟩ := tmem_first blk r1 s1 _ rfl
    generalize World.alloc (World.setCell (World.setCell w1 _ _) _ _) _ = W2 at m st ⊢
    refine (push_any w.heap.size _ (prs []) id _ W2 m.rep hi hcw (by simp [prs])).mono ?_
    rintro e w2 ⟨rfl, hw⟩
    have g1 := tmem_went m hw
    have g2 := g1.1
    have g3 := g1.2
    clear g1
    go_wp2_with (first
      | (at_mapUpdate; refine wpList_mapUpdate_own _ rfl _ _ _ 46 rfl 3 3 law3 Try.underlying46 _ w1.heap.size _ (.map []) rfl g3 (by unfold maxLen; simp) _ _ _ rfl rfl hkey _ [] (plainElem_int Try.underlying3 hv.wf) ?_; intro w3 ho3 hg3)
      | fail)
    rw [← HQ.out] at hw
    obtain ⟨B', m3, s3, o3⟩ := tmem_set m hv hw ho3 hg3
    go_end0
    exact ⟨rfl, W2, _, _, _, st, by omega, fun k hk => by omega, B', _, m3, s3, o3⟩
  · have hq : capN a = 1099511627776 := by unfold capN; rw [if_neg hc]
    have HQ : Hid (capN a = 1099511627776) := hq
    rw [hq] at hcw
    clear hq
    go_enter Try.func10, Try.ntmps10
    go_wp2_with fail
    refine (new_any _).mono ?_
    rintro e w1 ⟨rfl, r1, s1⟩
    have blk1 := (s1.block tb (lt_of_block blk) (fun q => q)).trans blk
    have f0 : w1.frozen? ⟨tb, 0, none⟩ = false := by simp [World.frozen?, blk1]
    have f1 : w1.frozen? ⟨tb, 1, none⟩ = false := by simp [World.frozen?, blk1]
    have k0 : w1.cell? ⟨tb, 0, none⟩ = some (.pointer none) := by simp [World.cell?, blk1]
    have k1 : w1.cell? ⟨tb, 1, none⟩ = some (.map none) := by simp [World.cell?, blk1]
    have hlt1 : tb < w1.heap.size := lt_of_block blk1
    have hz1 := s1.size
    have hr := r1.lt
    go_wp2_with fail
    obtain ⟨m, st⟩ := tmem_first blk r1 s1 _ rfl
    generalize World.alloc (World.setCell (World.setCell w1 _ _) _ _) _ = W2 at m st ⊢
    refine (push_any w.heap.size _ (prs []) id _ W2 m.rep hi hcw (by simp [prs])).mono ?_
    rintro e w2 ⟨rfl, hw⟩
    have g1 := tmem_went m hw
    have g2 := g1.1
    have g3 := g1.2
    clear g1
    go_wp2_with (first
      | (at_mapUpdate; refine wpList_mapUpdate_own _ rfl _ _ _ 46 rfl 3 3 law3 Try.underlying46 _ w1.heap.size _ (.map []) rfl g3 (by unfold maxLen; simp) _ _ _ rfl rfl hkey _ [] (plainElem_int Try.underlying3 hv.wf) ?_; intro w3 ho3 hg3)
      | fail)
    rw [← HQ.out] at hw
    obtain ⟨B', m3, s3, o3⟩ := tmem_set m hv hw ho3 hg3
    go_end0
    exact ⟨rfl, W2, _, _, _, st, by omega, fun k hk => by omega, B', _, m3, s3, o3⟩

/-- Set, whatever there is -/
theorem tset_any (tb : Nat) (A : Nat → Prop) (L : List T3) (id a ev : Int) (w : World) (h : TRep w tb A L) (hi : W64 id) (ha : W64 a) (hv : W64 ev) (hl : L.length + 1 ≤ 8796093022208) :
    Calls Try.prog 10 #[.pointer (some ⟨tb, 0, none⟩), .int .i64 id, .int .i64 a, .int .i64 ev] w fun e w' => e = .returned (.tuple #[]) ∧ TWent w tb A (setT L id a ev) w' := by
  rcases h.2 with ⟨rfl, h2⟩ | ⟨hb, bm, B, D, m, am, aB⟩
  · refine (tset_fresh tb id a ev w h2 hi ha hv).mono ?_
    rintro e w' ⟨rfl, w1, hb, bm, B, s1, hbm, hB, B', D', m', s', o'⟩
    refine ⟨rfl, fun k => A k ∨ k = bm ∨ B' k, ⟨.inl h.1, .inr ⟨hb, bm, B', D', m', .inr (.inl rfl), fun k hk => .inr (.inr hk)⟩⟩, ?_, fun k hk q => ?_⟩
    · refine ⟨s'.os.trans s1.os, s'.tape.trans s1.tape, s'.output.trans s1.output, Nat.le_trans s1.size s'.size, fun k hk hA => ?_⟩
      rw [s'.block k (Nat.lt_of_lt_of_le hk s1.size) (fun q => by rcases q with q | q; exact absurd (hB k q) (by omega); omega)]
      exact s1.block k hk (fun e => hA (e ▸ h.1))
    · rcases q with q | q | q
      · exact q
      · omega
      · have := hB k (o' k (Nat.lt_of_lt_of_le hk s1.size) q); omega
  · refine (tset_old tb hb bm B D L id a ev w m hi ha hv hl).mono ?_
    rintro e w' ⟨rfl, B', D', m', s', o'⟩
    exact ⟨rfl, twent_of h am aB m' s' o'⟩

end Go.Proofs.Ytbicaknenphcbaa.HW
