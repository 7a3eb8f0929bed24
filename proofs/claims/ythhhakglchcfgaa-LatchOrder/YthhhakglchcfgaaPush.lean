/- What Push does. -/
import Derived.Test.YthhhakglchcfgaaOps
namespace Go.Proofs.Ythhhakglchcfgaa.HW
open Go.ChangeShapes Go.WideShapes Go.ChangeAt Go.RowKit Go.Proofs.Ythhhakglchcfgaa.HP Go.Maps Go.Proofs.Ythhhakglchcfgaa.HM

/-- the heap has now the entries l'; nothing but its own blocks has turned -/
def Went (w : World) (hb : Nat) (A : Nat → Prop) (l' : List E) (w' : World) : Prop := ∃ A', Rep w' hb A' l' ∧ Moved A w A' w'

theorem map_not_nil (bm : Nat) (w : World) : (binOp .eql 40 (.map (some bm)) (.map none)).run Try.prog w = .ok (.bool false) w := by kernel_rfl
theorem map_nil (w : World) : (binOp .eql 40 (.map none) (.map none)).run Try.prog w = .ok (.bool true) w := by kernel_rfl

theorem mem_setKey {w : World} {hb g cap bm : Nat} {D : DataW Unit} {es : List E} (m : Mem w hb g cap bm D es) {i : Nat} (hi : i < es.length) {k : Int} (hk : W64 k) : Mem (w.setCell ⟨g, i * 2 + 1, none⟩ (.int .i64 k)) hb g cap bm D (es.set i ((at' es i).1, k)) ∧ Step (fun b => b = g ∨ b = bm) w (w.setCell ⟨g, i * 2 + 1, none⟩ (.int .i64 k)) := by
  have hs : Step (fun b => b = g) w (w.setCell ⟨g, i * 2 + 1, none⟩ (.int .i64 k)) := (Step.refl (fun b => b = g) w).setCell (p := ⟨g, i * 2 + 1, none⟩) rfl _
  have s := (m.row.stored (i * 2 + 1) (.int .i64 k)).1
  rw [flat_set_key es i k hi] at s
  have gh := m.gh
  refine ⟨⟨?_, ?_, ?_, ?_, m.ties.setKey hi k, ?_⟩, hs.mono (fun _ _ h => Or.inl h)⟩
  · rw [List.length_set, hs.block hb m.ltH (by omega)]; exact m.blk
  · rw [List.length_set]; exact s
  · rw [List.length_set]; exact map_kept hs m.map (fun q => m.bg q)
  · intro e he
    rcases List.mem_or_eq_of_mem_set he with he | rfl
    · exact m.wf e he
    · exact ⟨(m.wfi hi).1, hk⟩
  · rw [List.length_set]; exact m.len

theorem went_sunk {w w1 w2 : World} {hb g cap bm : Nat} {A A' : Nat → Prop} {es : List E} {l' : List E} (hm : Moved A w A' w1) (aH : A' hb) (aG : A' g) (aB : A' bm) (hs : Sunk w1 hb g cap bm es w2) (hp : es.Perm l') : Went w hb A l' w2 := by
  obtain ⟨D2, es2, m2, ho2, hp2, st2⟩ := hs
  refine ⟨A', ⟨aH, .inr ⟨g, cap, bm, D2, es2, m2, aG, aB, ho2, hp2.trans hp⟩⟩, ⟨?_, hm.own⟩⟩
  refine ⟨st2.os.trans hm.stp.os, st2.tape.trans hm.stp.tape, st2.output.trans hm.stp.output, Nat.le_trans hm.stp.size st2.size, fun k hk hA => ?_⟩
  have hn : ¬ A' k := fun q => hA (hm.own k hk q)
  rw [st2.block k (Nat.lt_of_lt_of_le hk hm.stp.size) (fun q => hn (by rcases q with rfl | rfl <;> assumption))]
  exact hm.stp.block k hk hA

set_option maxHeartbeats 1000000 in
theorem push_hit (hb g cap bm : Nat) (D : DataW Unit) (es : List E) (id key : Int) (w : World) (m : Mem w hb g cap bm D es) (ho : Ord es) (i : Nat) (hi : i < es.length) (hid : (at' es i).1 = id) (hk : W64 key) :
    Calls Try.prog 17 #[.pointer (some ⟨hb, 0, none⟩), .int .i64 id, .int .i64 key] w fun e w' => e = .returned (.tuple #[]) ∧ ∃ w1, Step (fun b => b = g ∨ b = bm) w w1 ∧ Sunk w1 hb g cap bm (es.set i ((at' es i).1, key)) w' := by
  have h0 := m.h0
  have h1 := m.h1
  have hlen := m.len
  have iA : (i : Int) < (es.length : Int) := by omega
  have c1 := m.c1 hi
  have f1 := m.fr (i * 2 + 1)
  have hw : W64 id := hid ▸ (m.wfi hi).1
  have hhas := (m.ties.get i hi).1
  have hat := (m.ties.get i hi).2
  rw [hid] at hhas hat
  have M1 : Hid (Mem (w.setCell ⟨g, i * 2 + 1, none⟩ (.int .i64 key)) hb g cap bm D (es.set i ((at' es i).1, key)) ∧ Step (fun b => b = g ∨ b = bm) w (w.setCell ⟨g, i * 2 + 1, none⟩ (.int .i64 key))) := mem_setKey m hi hk
  have HP1 : Hid (Pre (es.set i ((at' es i).1, key)) i) := pre_set _ hi ho
  have HAT : Hid (D.atKey (ky id) (di 0) = di i) := hat
  have HHAS : Hid (Maps.has D (ky id) = true) := hhas
  clear hid hat hhas
  have hmn := map_not_nil bm
  go_enter Try.func17, Try.ntmps17
  go_wp2_with (first
    | (at_lookup; refine wpList_lookup_hit _ rfl _ _ rfl bm _ D rfl m.map id rfl hw i HHAS.out HAT.out ?_)
    | fail)
  refine (settle_any hb g cap bm i D _ _ M1.out.1 (by rw [List.length_set]; exact hi) HP1.out).mono ?_
  rintro e w2 ⟨rfl, hs⟩
  go_wp2
  go_end0
  exact ⟨rfl, _, M1.out.2, hs⟩

theorem mem_push {w1 w2 : World} {hb g cap bm n : Nat} {v : Value} {D : DataW Unit} {es : List E} {id key : Int} {o : Obj}
    (blk : w1.heap[hb]? = some (.cells #[v, .map (some bm)] 50 (0, 0))) (map : w1.ownsMap Try.prog 3 (plainElem Try.prog 3) bm n D)
    (row : w2.ownsRow (hb + 1) 52 2 (.slice (some ⟨g, 0, none⟩) (es.length + 1) cap) (es.length + 1) (flat (es ++ [(id, key)]))) (hg : (w1.alloc o).grownBy w2 v.ownBlock)
    (hv : ∀ k, v.ownBlock = some k → k ≠ hb ∧ k ≠ bm) (wf : ∀ e ∈ es, W64 e.1 ∧ W64 e.2) (h1 : W64 id) (h2 : W64 key) (ties : Ties D (es ++ [(id, key)])) (hl : es.length + 1 ≤ 8796093022208) :
    Mem (w2.setCell ⟨hb, 0, none⟩ (.slice (some ⟨g, 0, none⟩) (es.length + 1) cap)) hb g cap bm D (es ++ [(id, key)]) := by
  have hlt := lt_of_block blk
  have hst : Step (fun k => v.ownBlock = some k) w1 w2 := ((Step.refl _ w1).alloc o).grown hg (fun k hk => hk)
  have blk2 : w2.heap[hb]? = some (.cells #[v, .map (some bm)] 50 (0, 0)) := by
    rw [hst.block hb hlt (fun q => (hv hb q).1 rfl)]; exact blk
  have bh : bm ≠ hb := by
    intro e
    obtain ⟨_, _, hm, _⟩ := map
    rw [e, blk] at hm; simp at hm
  have gh : hb < g := by
    have := (row.lt g rfl).1; omega
  have hlen : (es ++ [(id, key)]).length = es.length + 1 := by simp
  have hs3 : Step (fun k => k = hb) w2 (w2.setCell ⟨hb, 0, none⟩ (.slice (some ⟨g, 0, none⟩) (es.length + 1) cap)) := (Step.refl (fun k => k = hb) w2).setCell (p := ⟨hb, 0, none⟩) rfl _
  refine ⟨?_, ?_, ?_, ?_, ties, by rw [hlen]; exact hl⟩
  · rw [hlen, heap_setCell_same w2 hb 0 _ _ _ blk2]; rfl
  · rw [hlen]; exact row_kept hs3 row (fun k hk => by simp [Value.ownBlock] at hk; subst hk; omega)
  · rw [hlen]
    exact map_kept hs3 (map_kept hst (own_to map (ties.size.trans hlen)) (fun q => (hv bm q).2 rfl)) (fun q => bh q)
  · intro e he
    rcases List.mem_append.1 he with he | he
    · exact wf e he
    · simp at he; subst he; exact ⟨h1, h2⟩

set_option maxHeartbeats 2000000 in
theorem push_miss (hb g cap bm : Nat) (D : DataW Unit) (es : List E) (id key : Int) (w : World) (m : Mem w hb g cap bm D es) (ho : Ord es) (hid : id ∉ ids es) (hwi : W64 id) (hk : W64 key) (hl : es.length + 1 ≤ 8796093022208) :
    Calls Try.prog 17 #[.pointer (some ⟨hb, 0, none⟩), .int .i64 id, .int .i64 key] w fun e w' => e = .returned (.tuple #[]) ∧ ∃ w1 g' cap', Step (fun b => b = hb ∨ b = g ∨ b = bm) w w1 ∧ (g' = g ∨ w.heap.size ≤ g') ∧ Sunk w1 hb g' cap' bm (es ++ [(id, key)]) w' := by
  have h0 := m.h0
  have h1 := m.h1
  have hlen := m.len
  have hhas : Maps.has D (ky id) = false := by
    cases q : Maps.has D (ky id) with
    | false => rfl
    | true => exact absurd ((m.ties.mem id).1 q) hid
  have HHAS : Hid (Maps.has D (ky id) = false) := hhas
  have HT : Hid (Ties (D.put (ky id) (di es.length)) (es ++ [(id, key)])) := m.ties.append (x := (id, key)) hid
  have HP1 : Hid (Pre (es ++ [(id, key)]) es.length) := pre_append _ ho
  have hkey := keyOf_int_mk Try.underlying3 hwi.wf
  have hmn := map_not_nil bm
  have gh := m.gh
  have bh := m.bh
  have bg := m.bg
  clear hhas hid
  go_enter Try.func17, Try.ntmps17
  go_wp2_with (first
    | (at_lookup; refine wpList_lookup_miss _ rfl _ _ rfl bm _ D rfl m.map id rfl hwi HHAS.out ?_)
    | (at_mapUpdate; refine wpList_mapUpdate_own _ rfl _ _ _ 40 rfl 3 3 law3 Try.underlying40 _ bm _ D rfl m.map (by unfold maxLen; omega) _ _ _ rfl rfl hkey _ [] (plainElem_int Try.underlying3 (W64.wf (x := es.length) ⟨by omega, by omega⟩)) ?_; intro w1 ho1 hg1; have hs1 : Step (fun b => b = bm) w w1 := (Step.refl _ w).grown hg1 (fun k hk => by simp at hk; exact hk.symm); have blk1 := (hs1.block hb m.ltH (fun e => bh e.symm)).trans m.blk; have g0 : w1.cell? ⟨hb, 0, none⟩ = some (.slice (some ⟨g, 0, none⟩) es.length cap) := (by simp [World.cell?, blk1]); have row1 := row_kept hs1 m.row (fun k hk => by simp [Value.ownBlock] at hk; subst hk; exact fun e => bg e.symm))
    | (at_builtin; refine wpList_append_pair _ rfl _ _ 48 52 rfl Try.underlying48 ent_info (hb + 1) (.slice (some ⟨g, 0, none⟩) es.length cap) es rfl (by exact row1.alloc _) w1.heap.size id key rfl (by exact heap_alloc_new w1 _) hl (by have := hs1.size; have := m.ltH; simp; omega) ?_; intro g' cap' w2 row2 hg2 hloc; have hs2 : Step (fun b => b = g ∨ b = bm) w w2 := ((hs1.mono (fun _ _ h => Or.inr h)).alloc _).grown hg2 (fun k hk => by simp [Value.ownBlock] at hk; exact Or.inl hk.symm); have blk2 := (hs2.block hb m.ltH (by omega)).trans m.blk; have q0 : w2.cell? ⟨hb, 0, none⟩ = some (.slice (some ⟨g, 0, none⟩) es.length cap) := (by simp [World.cell?, blk2]); have q1 : w2.frozen? ⟨hb, 0, none⟩ = false := (by simp [World.frozen?, blk2]))
    | fail)
  have M3 := mem_push blk1 ho1 row2 hg2 (fun k hk => by simp [Value.ownBlock] at hk; omega) m.wf hwi hk HT.out hl
  refine (settle_any hb g' cap' bm es.length _ _ _ M3 (by simp) HP1.out).mono ?_
  rintro e w3 ⟨rfl, hs⟩
  go_wp2
  go_end0
  refine ⟨rfl, _, g', cap', Step.setCell (A := fun b => b = hb ∨ b = g ∨ b = bm) (hs2.mono (fun _ _ h => Or.inr h)) (p := ⟨hb, 0, none⟩) (Or.inl rfl) _, ?_, hs⟩
  have := hs1.size
  rcases hloc with h | h
  · simp [Value.ownBlock] at h; exact Or.inl h.symm
  · simp at h; right; omega

/-- the first one of all -/
theorem mem_first {w : World} {hb : Nat} (blk : w.heap[hb]? = some (.cells #[.slice none 0 0, .map none] 50 (0, 0))) :
    ((w.setCell ⟨hb, 1, none⟩ (.map (some w.heap.size))).alloc (.map #[] 0)).heap[hb]? = some (.cells #[.slice none 0 0, .map (some w.heap.size)] 50 (0, 0)) ∧
    ((w.setCell ⟨hb, 1, none⟩ (.map (some w.heap.size))).alloc (.map #[] 0)).ownsMap (H := Unit) Try.prog 3 (plainElem Try.prog 3) w.heap.size 0 (.map []) ∧
    Step (fun k => k = hb) w ((w.setCell ⟨hb, 1, none⟩ (.map (some w.heap.size))).alloc (.map #[] 0)) := by
  have hlt := lt_of_block blk
  have hz : (w.setCell ⟨hb, 1, none⟩ (.map (some w.heap.size))).heap.size = w.heap.size := by simp [World.setCell]
  refine ⟨?_, ?_, ((Step.refl (fun k => k = hb) w).setCell (p := ⟨hb, 1, none⟩) rfl _).alloc _⟩
  · rw [Below.heap_alloc _ _ _ (by omega), heap_setCell_same _ hb 1 _ _ _ blk]; rfl
  · have := World.ownsMap_made (H := Unit) (w.setCell ⟨hb, 1, none⟩ (.map (some w.heap.size))) Try.prog 3 (plainElem Try.prog 3)
    rw [hz] at this
    exact this

set_option maxHeartbeats 2000000 in
theorem push_fresh (hb : Nat) (id key : Int) (w : World) (blk : w.heap[hb]? = some (.cells #[.slice none 0 0, .map none] 50 (0, 0))) (hwi : W64 id) (hk : W64 key) :
    Calls Try.prog 17 #[.pointer (some ⟨hb, 0, none⟩), .int .i64 id, .int .i64 key] w fun e w' => e = .returned (.tuple #[]) ∧ ∃ w1 g' cap' bm', Step (fun b => b = hb) w w1 ∧ w.heap.size ≤ g' ∧ w.heap.size ≤ bm' ∧ Sunk w1 hb g' cap' bm' [(id, key)] w' := by
  have hlt := lt_of_block blk
  have h0 : w.cell? ⟨hb, 0, none⟩ = some (.slice none 0 0) := by simp [World.cell?, blk]
  have h1 : w.cell? ⟨hb, 1, none⟩ = some (.map none) := by simp [World.cell?, blk]
  have f0 : w.frozen? ⟨hb, 0, none⟩ = false := by simp [World.frozen?, blk]
  have f1 : w.frozen? ⟨hb, 1, none⟩ = false := by simp [World.frozen?, blk]
  have HF := mem_first blk
  obtain ⟨blk0, own0, hs0⟩ := HF
  have HT : Hid (Ties ((DataW.map []).put (ky id) (di 0)) [(id, key)]) := ties_nil.append (x := (id, key)) (by simp [ids])
  have HP1 : Hid (Pre [(id, key)] 0) := pre_append (es := []) (id, key) ord_nil
  have hkey := keyOf_int_mk Try.underlying3 hwi.wf
  have hmn := map_nil
  have hmm := @run_makeMap Try.prog
  go_enter Try.func17, Try.ntmps17
  go_wp2_with (first
    | (at_lookup; refine wpList_lookup_miss _ rfl _ _ rfl w.heap.size 0 (.map []) rfl (by exact own0) id rfl hwi (by rfl) ?_)
    | (at_mapUpdate; refine wpList_mapUpdate_own _ rfl _ _ _ 40 rfl 3 3 law3 Try.underlying40 _ w.heap.size 0 (.map []) rfl (by exact own0) (by unfold maxLen; omega) _ _ _ rfl rfl hkey _ [] (plainElem_int Try.underlying3 (W64.wf (x := 0) ⟨by omega, by omega⟩)) ?_; intro w1 ho1 hg1; have hs1 : Step (fun b => b = hb ∨ b = w.heap.size) w w1 := (hs0.mono (fun _ _ h => Or.inl h)).grown hg1 (fun k hk => by simp at hk; exact Or.inr hk.symm); have hb1 : Step (fun b => b = w.heap.size) _ w1 := (Step.refl _ _).grown hg1 (fun k hk => by simp at hk; exact hk.symm); have blk1 := (hb1.block hb (lt_of_block blk0) (by omega)).trans blk0; have g0 : w1.cell? ⟨hb, 0, none⟩ = some (.slice none 0 0) := (by simp [World.cell?, blk1]))
    | (at_builtin; refine wpList_append_pair _ rfl _ _ 48 52 rfl Try.underlying48 ent_info (hb + 1) (.slice none 0 0) [] rfl (by exact World.ownsRow_nil _ _ _ _) w1.heap.size id key rfl (by exact heap_alloc_new w1 _) (by simp) (by have := hs1.size; simp; omega) ?_; intro g' cap' w2 row2 hg2 hloc; have hs2 : Step (fun b => b = hb ∨ b = w.heap.size) w w2 := (hs1.alloc _).grown hg2 (fun k hk => by simp [Value.ownBlock] at hk); have hb2 : Step (fun _ => False) w1 w2 := ((Step.refl _ w1).alloc _).grown hg2 (fun k hk => by simp [Value.ownBlock] at hk); have blk2 := (hb2.block hb (lt_of_block blk1) (fun q => q)).trans blk1; have q0 : w2.cell? ⟨hb, 0, none⟩ = some (.slice none 0 0) := (by simp [World.cell?, blk2]); have q1 : w2.frozen? ⟨hb, 0, none⟩ = false := (by simp [World.frozen?, blk2]))
    | fail)
  have M3 := mem_push (es := []) blk1 ho1 row2 hg2 (fun k hk => by simp [Value.ownBlock] at hk) (fun e he => by simp at he) hwi hk HT.out (by simp)
  refine (settle_any hb g' cap' w.heap.size 0 _ [(id, key)] _ M3 (by simp) HP1.out).mono ?_
  rintro e w3 ⟨rfl, hs⟩
  go_wp2
  go_end0
  refine ⟨rfl, _, g', cap', w.heap.size, Step.setCell (A := fun b => b = hb) (hs2.mono (fun k hk h => by omega)) (p := ⟨hb, 0, none⟩) rfl _, ?_, Nat.le_refl _, hs⟩
  have := hs1.size
  rcases hloc with h | h
  · simp [Value.ownBlock] at h
  · simp at h; omega

/-- Push, whatever there is -/
theorem push_any (hb : Nat) (A : Nat → Prop) (l : List E) (id key : Int) (w : World) (h : Rep w hb A l) (hwi : W64 id) (hk : W64 key) (hl : l.length + 1 ≤ 8796093022208) :
    Calls Try.prog 17 #[.pointer (some ⟨hb, 0, none⟩), .int .i64 id, .int .i64 key] w fun e w' => e = .returned (.tuple #[]) ∧ Went w hb A ((id, key) :: HP.drop l id) w' := by
  rcases h.2 with ⟨rfl, h2⟩ | ⟨g, cap, bm, D, es, m, ag, ab, ho, hpe⟩
  · refine (push_fresh hb id key w h2 hwi hk).mono ?_
    rintro e w' ⟨rfl, w1, g', cap', bm', hs, hg, hb', hsk⟩
    refine ⟨rfl, went_sunk (A' := fun k => k = hb ∨ k = g' ∨ k = bm') ⟨hs.mono (fun k _ e => by subst e; exact h.1), fun k hk hA => ?_⟩ (Or.inl rfl) (Or.inr (Or.inl rfl)) (Or.inr (Or.inr rfl)) hsk (List.Perm.refl _)⟩
    rcases hA with rfl | rfl | rfl
    · exact h.1
    · omega
    · omega
  · by_cases hi : id ∈ ids es
    · obtain ⟨i, hi', e1⟩ := m.ties.back id ((m.ties.mem id).2 hi)
      refine (push_hit hb g cap bm D es id key w m ho i hi' e1 hk).mono ?_
      rintro e w' ⟨rfl, w1, hs, hsk⟩
      have hp : (es.set i ((at' es i).1, key)).Perm ((id, key) :: HP.drop l id) := by
        refine (set_perm hi' m.ties.nodup _).trans ?_
        rw [e1]
        exact List.Perm.cons _ (hpe.filter _)
      exact ⟨rfl, went_sunk (A' := A) ⟨hs.mono (fun k _ e => by rcases e with rfl | rfl <;> assumption), fun k _ hA => hA⟩ h.1 ag ab hsk hp⟩
    · refine (push_miss hb g cap bm D es id key w m ho hi hwi hk (by rw [hpe.length_eq]; exact hl)).mono ?_
      rintro e w' ⟨rfl, w1, g', cap', hs, hg, hsk⟩
      have hp : (es ++ [(id, key)]).Perm ((id, key) :: HP.drop l id) := by
        refine (List.perm_append_singleton _ _).trans (List.Perm.cons _ ?_)
        rw [drop_none (fun q => hi ((hpe.map _).mem_iff.2 q))]
        exact hpe
      refine ⟨rfl, went_sunk (A' := fun k => A k ∨ k = g') ⟨hs.mono (fun k _ e => by rcases e with rfl | rfl | rfl; exact h.1; exact ag; exact ab), fun k hk hA => ?_⟩ (Or.inl h.1) (Or.inr rfl) (Or.inl ab) hsk hp⟩
      rcases hA with hA | rfl
      · exact hA
      · rcases hg with rfl | hg
        · exact ag
        · omega

end Go.Proofs.Ythhhakglchcfgaa.HW
