/- How a latch lies in memory: its block, its heap of moments, its map of cycles; and what New, Put, Next, Waits and Len do. -/
import Derived.Test.YthhhakglchcfgaaTPlain
namespace Go.Proofs.Ythhhakglchcfgaa.LT
open Go.ChangeShapes Go.WideShapes Go.ChangeAt Go.RowKit Go.Proofs.Ythhhakglchcfgaa.HP Go.Maps Go.Proofs.Ythhhakglchcfgaa.HM Go.Proofs.Ythhhakglchcfgaa.HW

/-! ### plain facts -/

/-- what Put makes -/
def putT (L : List T3) (id a c : Int) : List T3 := if id ∈ idt L then L else L ++ [(id, a, c)]

theorem putT_has {L : List T3} {id a c : Int} (h : id ∈ idt L) : putT L id a c = L := if_pos h
theorem putT_new {L : List T3} {id a c : Int} (h : id ∉ idt L) : putT L id a c = L ++ [(id, a, c)] := if_neg h
theorem putT_le (L : List T3) (id a c : Int) : (putT L id a c).length ≤ L.length + 1 := by
  unfold putT
  split
  · omega
  · simp

theorem ties_put {D : DataW Unit} {L : List T3} (h : TiesT D L) {id a c : Int} (hi : id ∉ idt L) (hw : W64 c) : TiesT (D.put (ky id) (di c)) (L ++ [(id, a, c)]) := by
  refine ⟨h.tidy.put (ik _) _, ?_, fun t ht => ?_, fun x hx => ?_, fun t ht => ?_⟩
  · rw [size_put h.tidy, if_neg (fun e => hi ((h.has_iff id).1 e)), List.length_append, h.size]; rfl
  · rcases List.mem_append.1 ht with ht | ht
    · have h2 : t.1 ≠ id := fun e => hi (e ▸ List.mem_map_of_mem ht)
      rw [has_put_other (ky_ne h2), atKey_put_other (ky_ne h2)]
      exact h.get t ht
    · simp at ht; subst ht
      exact ⟨has_put_same h.tidy.isMap (ik _) _, atKey_put_same h.tidy.isMap (ik _) _ _⟩
  · by_cases e : x = id
    · subst e; simp [idt]
    · rw [has_put_other (ky_ne e)] at hx
      obtain ⟨t, ht, rfl⟩ := List.mem_map.1 (h.back x hx)
      exact List.mem_map_of_mem (List.mem_append_left _ ht)
  · rcases List.mem_append.1 ht with ht | ht
    · exact h.wf t ht
    · simp at ht; subst ht; exact hw

theorem prs_put {L : List T3} {id a c : Int} (hi : id ∉ idt L) : (prs (L ++ [(id, a, c)])).Perm ((id, a) :: HP.drop (prs L) id) := by
  have : prs (L ++ [(id, a, c)]) = prs L ++ [(id, a)] := by simp [prs, pr]
  rw [this, drop_none (by rw [ids_prs]; exact hi)]
  exact List.perm_append_singleton _ _

theorem mv_trans {A B C : Nat → Prop} {a b c : World} (h : Moved A a B b) (k : Moved B b C c) : Moved A a C c :=
  ⟨⟨k.stp.os.trans h.stp.os, k.stp.tape.trans h.stp.tape, k.stp.output.trans h.stp.output, Nat.le_trans h.stp.size k.stp.size, fun i hi hA =>
      (k.stp.block i (Nat.lt_of_lt_of_le hi h.stp.size) (fun q => hA (h.own i hi q))).trans (h.stp.block i hi hA)⟩,
    fun i hi hC => h.own i hi (k.own i (Nat.lt_of_lt_of_le hi h.stp.size) hC)⟩

theorem results_tmp4 {fn : Func} {t u v z : Tmp} (h : fn.results = #[.tmp t, .tmp u, .tmp v, .tmp z]) (tmps : Array Value) (P : Program) (w : World) :
    (results fn tmps).run P w = .ok (.tuple #[tmps.getD t undef, tmps.getD u undef, tmps.getD v undef, tmps.getD z undef]) w := by
  simp [results, h]

/-! ### memory -/

/-- a latch into which something was put: its block, its heap's own blocks B, its map -/
structure LMem (w : World) (tb hb bm : Nat) (B : Nat → Prop) (D : DataW Unit) (L : List T3) : Prop where
  blk : w.heap[tb]? = some (.cells #[.pointer (some ⟨hb, 0, none⟩), .map (some bm)] 42 (0, 0))
  rep : Rep w hb B (prs L)
  map : w.ownsMap Try.prog 3 (plainElem Try.prog 3) bm L.length D
  ties : TiesT D L
  off : ¬ B tb ∧ ¬ B bm

section
variable {w : World} {tb hb bm : Nat} {B : Nat → Prop} {D : DataW Unit} {L : List T3}

theorem LMem.h0 (m : LMem w tb hb bm B D L) : w.cell? ⟨tb, 0, none⟩ = some (.pointer (some ⟨hb, 0, none⟩)) := by simp [World.cell?, m.blk]
theorem LMem.h1 (m : LMem w tb hb bm B D L) : w.cell? ⟨tb, 1, none⟩ = some (.map (some bm)) := by simp [World.cell?, m.blk]
theorem LMem.ltT (m : LMem w tb hb bm B D L) : tb < w.heap.size := lt_of_block m.blk
theorem LMem.ltB (m : LMem w tb hb bm B D L) : bm < w.heap.size := m.map.lt
theorem LMem.bt (m : LMem w tb hb bm B D L) : bm ≠ tb := by
  intro e
  have hc := m.blk
  obtain ⟨es', clock, hm, _⟩ := m.map
  rw [e, hc] at hm; simp at hm
theorem LMem.nodup (m : LMem w tb hb bm B D L) : (idt L).Nodup := by rw [← ids_prs]; exact m.rep.nodup

theorem LMem.kept {A : Nat → Prop} {w' : World} (m : LMem w tb hb bm B D L) (h : Step A w w') (a1 : ¬ A tb) (a2 : ¬ A bm) (a3 : ∀ k, k < w.heap.size → B k → ¬ A k) : LMem w' tb hb bm B D L :=
  ⟨by rw [h.block tb m.ltT a1]; exact m.blk, m.rep.kept h a3, map_kept h m.map a2, m.ties, m.off⟩

theorem LMem.still {w' : World} (m : LMem w tb hb bm B D L) (h : Step (fun _ => False) w w') : LMem w' tb hb bm B D L := m.kept h (fun q => q) (fun q => q) (fun _ _ _ q => q)

end

/-- a latch in which L waits; A: the blocks that are its own -/
def LRep (w : World) (tb : Nat) (A : Nat → Prop) (L : List T3) : Prop :=
  A tb ∧ ((L = [] ∧ w.heap[tb]? = some (.cells #[.pointer none, .map none] 42 (0, 0))) ∨
    ∃ hb bm B D, LMem w tb hb bm B D L ∧ A bm ∧ ∀ k, B k → A k)

/-- there waits now L'; nothing but the latch's own blocks has turned -/
def LWent (w : World) (tb : Nat) (A : Nat → Prop) (L' : List T3) (w' : World) : Prop := ∃ A', LRep w' tb A' L' ∧ Moved A w A' w'

theorem LRep.lt {w : World} {tb : Nat} {A : Nat → Prop} {L : List T3} (h : LRep w tb A L) : tb < w.heap.size := by
  rcases h.2 with ⟨_, h2⟩ | ⟨hb, bm, B, D, m, _⟩
  · exact lt_of_block h2
  · exact m.ltT

theorem LRep.nodup {w : World} {tb : Nat} {A : Nat → Prop} {L : List T3} (h : LRep w tb A L) : (idt L).Nodup := by
  rcases h.2 with ⟨rfl, _⟩ | ⟨hb, bm, B, D, m, _⟩
  · exact List.nodup_nil
  · exact m.nodup

theorem LRep.wf {w : World} {tb : Nat} {A : Nat → Prop} {L : List T3} (h : LRep w tb A L) : ∀ t ∈ L, W64 t.1 ∧ W64 t.2.1 ∧ W64 t.2.2 := by
  rcases h.2 with ⟨rfl, _⟩ | ⟨hb, bm, B, D, m, _⟩
  · intro t ht; simp at ht
  · intro t ht
    have := m.rep.wf (pr t) (List.mem_map_of_mem ht)
    exact ⟨this.1, this.2, m.ties.wf t ht⟩

theorem LRep.kept {w w' : World} {tb : Nat} {A B : Nat → Prop} {L : List T3} (h : LRep w tb A L) (hs : Step B w w') (hd : ∀ k, k < w.heap.size → A k → ¬ B k) : LRep w' tb A L := by
  refine ⟨h.1, ?_⟩
  rcases h.2 with ⟨rfl, h2⟩ | ⟨hb, bm, B', D, m, am, aB⟩
  · exact .inl ⟨rfl, by rw [hs.block tb (lt_of_block h2) (hd tb (lt_of_block h2) h.1)]; exact h2⟩
  · exact .inr ⟨hb, bm, B', D, m.kept hs (hd tb m.ltT h.1) (hd bm m.ltB am) (fun k hk q => hd k hk (aB k q)), am, aB⟩

theorem LRep.still {w w' : World} {tb : Nat} {A : Nat → Prop} {L : List T3} (h : LRep w tb A L) (hs : Step (fun _ => False) w w') : LRep w' tb A L := h.kept hs (fun _ _ _ q => q)

theorem LWent.refl {w : World} {tb : Nat} {A : Nat → Prop} {L : List T3} (h : LRep w tb A L) : LWent w tb A L w := ⟨A, h, Step.refl _ _, fun _ _ h => h⟩

theorem LRep.mono {w : World} {tb : Nat} {A A' : Nat → Prop} {L : List T3} (h : LRep w tb A L) (hA : ∀ k, A k → A' k) : LRep w tb A' L := by
  refine ⟨hA _ h.1, ?_⟩
  rcases h.2 with h2 | ⟨hb, bm, B, D, m, am, aB⟩
  · exact .inl h2
  · exact .inr ⟨hb, bm, B, D, m, hA _ am, fun k hk => hA _ (aB k hk)⟩

/-! ### New, Len, Waits -/

theorem lnew_any (w : World) :
    Calls Try.prog 7 #[] w fun e w' => e = .returned (.pointer (some ⟨w.heap.size, 0, none⟩)) ∧ LRep w' w.heap.size (fun k => k = w.heap.size) [] ∧ Step (fun _ => False) w w' := by
  have hr : ∀ w', w' = w.alloc (.cells #[.pointer none, .map none] 42) → LRep w' w.heap.size (fun k => k = w.heap.size) [] ∧ Step (fun _ => False) w w' := by
    intro w' e
    subst e
    exact ⟨⟨rfl, .inl ⟨rfl, heap_alloc_new w _⟩⟩, (Step.refl _ w).alloc _⟩
  go_enter Try.func7, Try.ntmps7
  go_wp2
  go_ret
  exact ⟨rfl, hr _ rfl⟩

theorem llen_any (tb : Nat) (A : Nat → Prop) (L : List T3) (w : World) (h : LRep w tb A L) :
    Calls Try.prog 12 #[.pointer (some ⟨tb, 0, none⟩)] w fun e w' => e = .returned (.int .i64 L.length) ∧ w' = w := by
  rcases h.2 with ⟨rfl, h2⟩ | ⟨hb, bm, B, D, m, am, aB⟩
  · have h0 : w.cell? ⟨tb, 0, none⟩ = some (.pointer none) := by simp [World.cell?, h2]
    go_enter Try.func12, Try.ntmps12
    go_wp2_with (go_at_call 18; refine (len_none _).mono ?_; rintro e w1 ⟨rfl, rfl⟩)
    go_ret
    exact ⟨rfl, rfl⟩
  · have h0 := m.h0
    rw [← prs_len]
    go_enter Try.func12, Try.ntmps12
    go_wp2_with (go_at_call 18; refine (len_any hb _ _ _ m.rep).mono ?_; rintro e w1 ⟨rfl, rfl⟩)
    go_ret
    exact ⟨rfl, rfl⟩

theorem lwaits_any (tb : Nat) (A : Nat → Prop) (L : List T3) (id : Int) (w : World) (h : LRep w tb A L) (hi : W64 id) :
    Calls Try.prog 11 #[.pointer (some ⟨tb, 0, none⟩), .int .i64 id] w fun e w' => e = .returned (.bool (decide (id ∈ idt L))) ∧ w' = w := by
  rcases h.2 with ⟨rfl, h2⟩ | ⟨hb, bm, B, D, m, am, aB⟩
  · have h1 : w.cell? ⟨tb, 1, none⟩ = some (.map none) := by simp [World.cell?, h2]
    have hrun := look_nil (w := w) true law3 Try.underlying40 (zero3 _) (keyOf_int_mk Try.underlying3 hi.wf)
    go_enter Try.func11, Try.ntmps11
    go_wp2
    go_ret
    exact ⟨rfl, rfl⟩
  · have h1 := m.h1
    by_cases hm : id ∈ idt L
    · obtain ⟨t, ht, e⟩ := List.mem_map.1 hm
      have hhas := (m.ties.get t ht).1
      have hat := (m.ties.get t ht).2
      rw [show t.1 = id from e] at hhas hat
      have HAT : Hid (D.atKey (ky id) (di 0) = di t.2.2) := hat
      have HHAS : Hid (Maps.has D (ky id) = true) := hhas
      rw [decide_eq_true hm]
      clear hhas hat e ht hm
      go_enter Try.func11, Try.ntmps11
      go_wp2_with (first
        | (at_lookup; refine wpList_lookup_hit _ rfl _ _ rfl bm _ D rfl m.map id rfl hi t.2.2 HHAS.out HAT.out ?_)
        | fail)
      go_ret
      exact ⟨rfl, rfl⟩
    · have hhas : Maps.has D (ky id) = false := by
        cases q : Maps.has D (ky id) with
        | false => rfl
        | true => exact absurd ((m.ties.has_iff id).1 q) hm
      have HHAS : Hid (Maps.has D (ky id) = false) := hhas
      rw [decide_eq_false hm]
      clear hhas hm
      go_enter Try.func11, Try.ntmps11
      go_wp2_with (first
        | (at_lookup; refine wpList_lookup_miss _ rfl _ _ rfl bm _ D rfl m.map id rfl hi HHAS.out ?_)
        | fail)
      go_ret
      exact ⟨rfl, rfl⟩

/-! ### Put -/

theorem lwent_of {w w' : World} {tb hb bm : Nat} {A B B' : Nat → Prop} {D' : DataW Unit} {L L' : List T3} (h : LRep w tb A L) (am : A bm) (aB : ∀ k, B k → A k) (m : LMem w' tb hb bm B' D' L') (hs : Step (fun k => B k ∨ k = bm) w w') (ho : ∀ k, k < w.heap.size → B' k → B k) : LWent w tb A L' w' := by
  refine ⟨fun k => A k ∨ B' k, ⟨.inl h.1, .inr ⟨hb, bm, B', D', m, .inl am, fun k hk => .inr hk⟩⟩, hs.mono (fun k _ q => q.elim (aB k) (fun e => e ▸ am)), fun k hk q => q.elim (fun q => q) (fun q => aB k (ho k hk q))⟩

/-- the latch's own heap and map have been told -/
def LSet (w : World) (tb hb bm : Nat) (B : Nat → Prop) (L' : List T3) (w' : World) : Prop := ∃ B' D', LMem w' tb hb bm B' D' L' ∧ Step (fun k => B k ∨ k = bm) w w' ∧ ∀ k, k < w.heap.size → B' k → B k

/-- behind the heap's Push and the map's update -/
theorem lmem_put {w w2 w3 : World} {tb hb bm n : Nat} {B : Nat → Prop} {D : DataW Unit} {L : List T3} {id a c : Int} (m : LMem w tb hb bm B D L) (hi : id ∉ idt L) (hv : W64 c)
    (hw : Went w hb B ((id, a) :: HP.drop (prs L) id) w2) (ho : w3.ownsMap Try.prog 3 (plainElem Try.prog 3) bm n (D.put (ky id) (di c))) (hg : w2.grownBy w3 (some bm)) :
    LSet w tb hb bm B (L ++ [(id, a, c)]) w3 := by
  obtain ⟨B', r', mv⟩ := hw
  have hs : Step (fun k => k = bm) w2 w3 := (Step.refl _ w2).grown hg (fun k hk => by simp at hk; exact hk.symm)
  have oB : ¬ B' bm := fun q => m.off.2 (mv.own bm m.ltB q)
  have oT : ¬ B' tb := fun q => m.off.1 (mv.own tb m.ltT q)
  have t2 := ties_put (a := a) m.ties hi hv
  refine ⟨B', _, ⟨?_, ?_, own_to ho t2.size, t2, oT, oB⟩, (mv.stp.mono (fun _ _ h => .inl h)).trans (hs.mono (fun _ _ h => .inr h)), mv.own⟩
  · rw [hs.block tb (Nat.lt_of_lt_of_le m.ltT mv.stp.size) (fun e => m.bt e.symm), mv.stp.block tb m.ltT m.off.1]; exact m.blk
  · exact (r'.kept hs (fun k _ hB e => oB (e ▸ hB))).perm (prs_put hi).symm

/-- the heap has been called: the block and the map are as they were -/
theorem lmem_went {w w2 : World} {tb hb bm : Nat} {B : Nat → Prop} {D : DataW Unit} {L : List T3} {l' : List E} (m : LMem w tb hb bm B D L) (hw : Went w hb B l' w2) :
    w2.cell? ⟨tb, 1, none⟩ = some (.map (some bm)) ∧ w2.ownsMap Try.prog 3 (plainElem Try.prog 3) bm L.length D := by
  obtain ⟨B', r', mv⟩ := hw
  have hb2 := (mv.stp.block tb m.ltT m.off.1).trans m.blk
  exact ⟨by simp [World.cell?, hb2], map_kept mv.stp m.map m.off.2⟩

theorem lput_has (tb : Nat) (A : Nat → Prop) (L : List T3) (id a c : Int) (w : World) (h : LRep w tb A L) (hi : W64 id) (hm : id ∈ idt L) :
    Calls Try.prog 9 #[.pointer (some ⟨tb, 0, none⟩), .int .i64 id, .int .i64 a, .int .i64 c] w fun e w' => e = .returned (.bool false) ∧ w' = w := by
  have HQ := lwaits_any tb A L id w h hi
  rw [decide_eq_true hm] at HQ
  go_enter Try.func9, Try.ntmps9
  go_wp2_with (go_at_call 11; refine HQ.mono ?_; rintro e w1 ⟨rfl, rfl⟩)
  go_ret
  exact ⟨rfl, rfl⟩

set_option maxHeartbeats 2000000 in
theorem lput_old (tb hb bm : Nat) (A B : Nat → Prop) (D : DataW Unit) (L : List T3) (id a c : Int) (w : World) (h : LRep w tb A L) (m : LMem w tb hb bm B D L) (hi : W64 id) (ha : W64 a) (hv : W64 c) (hn : id ∉ idt L) (hl : L.length + 1 ≤ 8796093022208) :
    Calls Try.prog 9 #[.pointer (some ⟨tb, 0, none⟩), .int .i64 id, .int .i64 a, .int .i64 c] w fun e w' => e = .returned (.bool true) ∧ LSet w tb hb bm B (L ++ [(id, a, c)]) w' := by
  have HQ := lwaits_any tb A L id w h hi
  rw [decide_eq_false hn] at HQ
  have h0 := m.h0
  have h1 := m.h1
  have hmn := map_not_nil bm
  have hkey := keyOf_int_mk Try.underlying3 hi.wf
  have hpl : (prs L).length + 1 ≤ 8796093022208 := by rw [prs_len]; exact hl
  have HP := push_any hb B (prs L) id a w m.rep hi ha hpl
  have HN : Hid (id ∉ idt L) := hn
  clear hn
  go_enter Try.func9, Try.ntmps9
  go_wp2_with (go_at_call 11; refine HQ.mono ?_; rintro e w1 ⟨rfl, rfl⟩)
  refine HP.mono ?_
  rintro e w2 ⟨rfl, hw⟩
  have g1 := lmem_went m hw
  have g2 := g1.1
  have g3 := g1.2
  clear g1
  go_wp2_with (first
    | (at_mapUpdate; refine wpList_mapUpdate_own _ rfl _ _ _ 40 rfl 3 3 law3 Try.underlying40 _ bm _ D rfl g3 (by unfold maxLen; omega) _ _ _ rfl rfl hkey _ [] (plainElem_int Try.underlying3 hv.wf) ?_; intro w3 ho3 hg3)
    | fail)
  have S3 := lmem_put m HN.out hv hw ho3 hg3
  go_ret
  exact ⟨rfl, S3⟩

/-- the first one of all: a heap and a map have been made -/
theorem lmem_first {w w1 : World} {tb : Nat} (blk : w.heap[tb]? = some (.cells #[.pointer none, .map none] 42 (0, 0))) (r1 : Rep w1 w.heap.size (fun k => k = w.heap.size) []) (s1 : Step (fun _ => False) w w1) :
    ∀ W2, ((w1.setCell ⟨tb, 0, none⟩ (.pointer (some ⟨w.heap.size, 0, none⟩))).setCell ⟨tb, 1, none⟩ (.map (some w1.heap.size))).alloc (.map #[] 0) = W2 →
      LMem W2 tb w.heap.size w1.heap.size (fun k => k = w.heap.size) (.map []) [] ∧ Step (fun k => k = tb) w W2 := by
  intro W2 e
  subst e
  have hlt := lt_of_block blk
  have blk1 := (s1.block tb hlt (fun q => q)).trans blk
  have hr := r1.lt
  have hs : Step (fun k => k = tb) w1 (((w1.setCell ⟨tb, 0, none⟩ (.pointer (some ⟨w.heap.size, 0, none⟩))).setCell ⟨tb, 1, none⟩ (.map (some w1.heap.size))).alloc (.map #[] 0)) :=
    ((((Step.refl (fun k => k = tb) w1).setCell (p := ⟨tb, 0, none⟩) rfl _).setCell (p := ⟨tb, 1, none⟩) rfl _).alloc _)
  have hz : ((w1.setCell ⟨tb, 0, none⟩ (.pointer (some ⟨w.heap.size, 0, none⟩))).setCell ⟨tb, 1, none⟩ (.map (some w1.heap.size))).heap.size = w1.heap.size := by simp [World.setCell]
  have b1 := heap_setCell_same w1 tb 0 _ _ (.pointer (some ⟨w.heap.size, 0, none⟩)) blk1
  have b2 := heap_setCell_same _ tb 1 _ _ (.map (some w1.heap.size)) b1
  refine ⟨⟨?_, r1.kept hs (fun k _ q => by omega), ?_, tiesT_nil, by omega, by omega⟩, (s1.mono (fun _ _ q => q.elim)).trans hs⟩
  · rw [Below.heap_alloc _ _ _ (by rw [hz]; exact lt_of_block blk1), b2]; rfl
  · have := World.ownsMap_made (H := Unit) ((w1.setCell ⟨tb, 0, none⟩ (.pointer (some ⟨w.heap.size, 0, none⟩))).setCell ⟨tb, 1, none⟩ (.map (some w1.heap.size))) Try.prog 3 (plainElem Try.prog 3)
    rw [hz] at this
    exact this

def LFirst (w : World) (tb : Nat) (L' : List T3) (w' : World) : Prop := ∃ w1 hb bm B, Step (fun k => k = tb) w w1 ∧ w.heap.size ≤ bm ∧ (∀ k, B k → w.heap.size ≤ k) ∧ LSet w1 tb hb bm B L' w'

set_option maxHeartbeats 2000000 in
theorem lput_fresh (tb : Nat) (A : Nat → Prop) (id a c : Int) (w : World) (h : LRep w tb A []) (blk : w.heap[tb]? = some (.cells #[.pointer none, .map none] 42 (0, 0))) (hi : W64 id) (ha : W64 a) (hv : W64 c) :
    Calls Try.prog 9 #[.pointer (some ⟨tb, 0, none⟩), .int .i64 id, .int .i64 a, .int .i64 c] w fun e w' => e = .returned (.bool true) ∧ LFirst w tb [(id, a, c)] w' := by
  have HQ := lwaits_any tb A [] id w h hi
  rw [decide_eq_false (by simp [idt])] at HQ
  have h0 : w.cell? ⟨tb, 0, none⟩ = some (.pointer none) := by simp [World.cell?, blk]
  have h1 : w.cell? ⟨tb, 1, none⟩ = some (.map none) := by simp [World.cell?, blk]
  have hmn := map_nil
  have hmm := @run_makeMap Try.prog
  have hkey := keyOf_int_mk Try.underlying3 hi.wf
  go_enter Try.func9, Try.ntmps9
  go_wp2_with (go_at_call 11; refine HQ.mono ?_; rintro e w1 ⟨rfl, rfl⟩)
  refine (new_any _).mono ?_
  rintro e w1 ⟨rfl, r1, s1⟩
  have blk1 := (s1.block tb (lt_of_block blk) (fun q => q)).trans blk
  have f0 : w1.frozen? ⟨tb, 0, none⟩ = false := by simp [World.frozen?, blk1]
  have f1 : w1.frozen? ⟨tb, 1, none⟩ = false := by simp [World.frozen?, blk1]
  have k0 : w1.cell? ⟨tb, 0, none⟩ = some (.pointer none) := by simp [World.cell?, blk1]
  have k1 : w1.cell? ⟨tb, 1, none⟩ = some (.map none) := by simp [World.cell?, blk1]
  have hlt1 : tb < w1.heap.size := lt_of_block blk1
  have hz1 := s1.size
  have hr := r1.lt
  go_wp2_with fail
  obtain ⟨m, st⟩ := lmem_first blk r1 s1 _ rfl
  generalize World.alloc (World.setCell (World.setCell w1 _ _) _ _) _ = W2 at m st ⊢
  refine (push_any _ _ (prs []) id _ W2 m.rep hi ha (by simp [prs])).mono ?_
  rintro e w2 ⟨rfl, hw⟩
  have g1 := lmem_went m hw
  have g2 := g1.1
  have g3 := g1.2
  clear g1
  go_wp2_with (first
    | (at_mapUpdate; refine wpList_mapUpdate_own _ rfl _ _ _ 40 rfl 3 3 law3 Try.underlying40 _ w1.heap.size _ (.map []) rfl g3 (by unfold maxLen; simp) _ _ _ rfl rfl hkey _ [] (plainElem_int Try.underlying3 hv.wf) ?_; intro w3 ho3 hg3)
    | fail)
  have S3 := lmem_put m (by simp [idt]) hv hw ho3 hg3
  go_ret
  exact ⟨rfl, W2, _, _, _, st, by omega, fun k hk => by omega, S3⟩

/-- Put of a task of which nothing waits -/
theorem lput_new (tb : Nat) (A : Nat → Prop) (L : List T3) (id a c : Int) (w : World) (h : LRep w tb A L) (hi : W64 id) (ha : W64 a) (hv : W64 c) (hn : id ∉ idt L) (hl : L.length + 1 ≤ 8796093022208) :
    Calls Try.prog 9 #[.pointer (some ⟨tb, 0, none⟩), .int .i64 id, .int .i64 a, .int .i64 c] w fun e w' => e = .returned (.bool true) ∧ LWent w tb A (L ++ [(id, a, c)]) w' := by
  rcases h.2 with ⟨rfl, h2⟩ | ⟨hb, bm, B, D, m, am, aB⟩
  · refine (lput_fresh tb A id a c w h h2 hi ha hv).mono ?_
    rintro e w' ⟨rfl, w1, hb, bm, B, s1, hbm, hB, B', D', m', s', o'⟩
    refine ⟨rfl, fun k => A k ∨ k = bm ∨ B' k, ⟨.inl h.1, .inr ⟨hb, bm, B', D', m', .inr (.inl rfl), fun k hk => .inr (.inr hk)⟩⟩, ?_, fun k hk q => ?_⟩
    · refine ⟨s'.os.trans s1.os, s'.tape.trans s1.tape, s'.output.trans s1.output, Nat.le_trans s1.size s'.size, fun k hk hA => ?_⟩
      rw [s'.block k (Nat.lt_of_lt_of_le hk s1.size) (fun q => by rcases q with q | q; exact absurd (hB k q) (by omega); omega)]
      exact s1.block k hk (fun e => hA (e ▸ h.1))
    · rcases q with q | q | q
      · exact q
      · omega
      · have := hB k (o' k (Nat.lt_of_lt_of_le hk s1.size) q); omega
  · refine (lput_old tb hb bm A B D L id a c w h m hi ha hv hn hl).mono ?_
    rintro e w' ⟨rfl, B', D', m', s', o'⟩
    exact ⟨rfl, lwent_of h am aB m' s' o'⟩

/-- Put, whatever there is -/
theorem lput_any (tb : Nat) (A : Nat → Prop) (L : List T3) (id a c : Int) (w : World) (h : LRep w tb A L) (hi : W64 id) (ha : W64 a) (hv : W64 c) (hl : L.length + 1 ≤ 8796093022208) :
    Calls Try.prog 9 #[.pointer (some ⟨tb, 0, none⟩), .int .i64 id, .int .i64 a, .int .i64 c] w fun e w' => e = .returned (.bool (!decide (id ∈ idt L))) ∧ LWent w tb A (putT L id a c) w' := by
  by_cases hm : id ∈ idt L
  · rw [putT_has hm, decide_eq_true hm]
    refine (lput_has tb A L id a c w h hi hm).mono ?_
    rintro e w' ⟨rfl, rfl⟩
    exact ⟨rfl, LWent.refl h⟩
  · rw [putT_new hm, decide_eq_false hm]
    exact lput_new tb A L id a c w h hi ha hv hm hl

end Go.Proofs.Ythhhakglchcfgaa.LT
