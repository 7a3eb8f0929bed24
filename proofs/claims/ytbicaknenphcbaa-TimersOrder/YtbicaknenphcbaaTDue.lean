/- What Cancel and Due do. -/
import Derived.Test.YtbicaknenphcbaaTOps
namespace Go.Proofs.Ytbicaknenphcbaa.HW
open Go.ChangeShapes Go.WideShapes Go.ChangeAt Go.RowKit Go.Proofs.Ytbicaknenphcbaa.HP Go.Maps Go.Proofs.Ytbicaknenphcbaa.HM

set_option maxHeartbeats 2000000 in
theorem tcancel_fresh (tb : Nat) (id : Int) (w : World) (blk : w.heap[tb]? = some (.cells #[.pointer none, .map none] 48 (0, 0))) (hi : W64 id) :
    Calls Try.prog 13 #[.pointer (some ⟨tb, 0, none⟩), .int .i64 id] w fun e w' => e = .returned (.bool false) ∧ w' = w := by
  have h0 : w.cell? ⟨tb, 0, none⟩ = some (.pointer none) := by simp [World.cell?, blk]
  have h1 : w.cell? ⟨tb, 1, none⟩ = some (.map none) := by simp [World.cell?, blk]
  have hdel := fun ty => Maps.drop_nil (w := w) law3 Try.underlying46 (keyOf_int_mk Try.underlying3 hi.wf) ty
  go_enter Try.func13, Try.ntmps13
  go_wp2_with (go_at_call 19; refine (remove_none _ _).mono ?_; rintro e w1 ⟨rfl, rfl⟩)
  go_ret
  exact ⟨rfl, rfl⟩

theorem tmem_del {w w1 : World} {tb hb bm n : Nat} {B : Nat → Prop} {D : DataW Unit} {L : List T3} {id : Int} (m : TMem w tb hb bm B D L)
    (ho : w1.ownsMap Try.prog 3 (plainElem Try.prog 3) bm n (D.del (ky id))) (hg : w.grownBy w1 (some bm)) :
    w1.cell? ⟨tb, 0, none⟩ = some (.pointer (some ⟨hb, 0, none⟩)) ∧ Rep w1 hb B (prs L) ∧ ∀ w2, Went w1 hb B (HP.drop (prs L) id) w2 → TSet w tb hb bm B (dropT L id) w2 := by
  have hs : Step (fun k => k = bm) w w1 := (Step.refl _ w).grown hg (fun k hk => by simp at hk; exact hk.symm)
  have blk1 := (hs.block tb m.ltT (fun e => m.bt e.symm)).trans m.blk
  have r1 := m.rep.kept hs (fun k _ hB e => m.off.2 (e ▸ hB))
  refine ⟨by simp [World.cell?, blk1], r1, ?_⟩
  rintro w2 ⟨B', r', mv⟩
  have lt1 : tb < w1.heap.size := lt_of_block blk1
  have lb1 : bm < w1.heap.size := ho.lt
  have oB : ¬ B' bm := fun q => m.off.2 (mv.own bm lb1 q)
  have oT : ¬ B' tb := fun q => m.off.1 (mv.own tb lt1 q)
  have t2 := m.ties.del m.nodup id
  refine ⟨B', _, ⟨?_, ?_, own_to (map_kept mv.stp ho m.off.2) t2.size, t2, oT, oB⟩, (hs.mono (fun _ _ h => .inr h)).trans (mv.stp.mono (fun _ _ h => .inl h)), fun k hk q => mv.own k (Nat.lt_of_lt_of_le hk hs.size) q⟩
  · rw [mv.stp.block tb lt1 m.off.1]; exact blk1
  · rw [prs_drop]; exact r'

set_option maxHeartbeats 2000000 in
theorem tcancel_old (tb hb bm : Nat) (B : Nat → Prop) (D : DataW Unit) (L : List T3) (id : Int) (w : World) (m : TMem w tb hb bm B D L) (hi : W64 id) :
    Calls Try.prog 13 #[.pointer (some ⟨tb, 0, none⟩), .int .i64 id] w fun e w' => e = .returned (.bool (decide (id ∈ idt L))) ∧ TSet w tb hb bm B (dropT L id) w' := by
  have h0 := m.h0
  have h1 := m.h1
  have hkey := keyOf_int_mk Try.underlying3 hi.wf
  rw [← ids_prs]
  go_enter Try.func13, Try.ntmps13
  go_wp2_with (first
    | (at_delete; refine wpList_delete_own _ rfl _ _ 46 3 rfl 3 law3 Try.underlying46 _ bm _ D rfl m.map _ _ rfl hkey ?_; intro w1 ho1 ht1; have q := tmem_del m ho1 ht1.grown; have q0 := q.1; have q1 := q.2.1; have q2 := q.2.2; clear q)
    | (go_at_call 19; refine (remove_any hb B (prs L) id _ q1 hi).mono ?_; rintro e w2 ⟨rfl, hw⟩)
    | fail)
  go_ret
  exact ⟨rfl, q2 _ hw⟩

/-- Cancel, whatever there is -/
theorem tcancel_any (tb : Nat) (A : Nat → Prop) (L : List T3) (id : Int) (w : World) (h : TRep w tb A L) (hi : W64 id) :
    Calls Try.prog 13 #[.pointer (some ⟨tb, 0, none⟩), .int .i64 id] w fun e w' => e = .returned (.bool (decide (id ∈ idt L))) ∧ TWent w tb A (dropT L id) w' := by
  rcases h.2 with ⟨rfl, h2⟩ | ⟨hb, bm, B, D, m, am, aB⟩
  · refine (tcancel_fresh tb id w h2 hi).mono ?_
    rintro e w' ⟨rfl, rfl⟩
    exact ⟨by simp [idt], TWent.refl h⟩
  · refine (tcancel_old tb hb bm B D L id w m hi).mono ?_
    rintro e w' ⟨rfl, B', D', m', s', o'⟩
    exact ⟨rfl, twent_of h am aB m' s' o'⟩

theorem later_any (a ev : Int) (w : World) (h1 : -1099511627776 ≤ a) (h2 : a ≤ 1099511627776) (h3 : 0 < ev) (h4 : W64 ev) :
    Calls Try.prog 23 #[.int .i64 a, .int .i64 ev] w fun e w' => e = .returned (.int .i64 (latN a ev)) ∧ w' = w := by
  have h5 := h4.2
  by_cases c : 1099511627776 - a < ev
  · have hq : latN a ev = 1099511627776 := by unfold latN; rw [if_pos c]
    rw [hq]
    clear hq
    go_enter Try.func23, Try.ntmps23
    go_wp2
    go_ret
    exact ⟨rfl, rfl⟩
  · have hq : latN a ev = a + ev := by unfold latN; rw [if_neg c]
    rw [hq]
    clear hq
    go_enter Try.func23, Try.ntmps23
    go_wp2
    go_ret
    exact ⟨rfl, rfl⟩

/-- the heap's first one, whatever there is -/
theorem top_least (hb : Nat) (A : Nat → Prop) (l : List E) (x : E) (w : World) (h : Rep w hb A l) (hx : x ∈ l) (hm : ∀ y ∈ l, ltB y x = false) :
    Calls Try.prog 22 #[.pointer (some ⟨hb, 0, none⟩)] w fun e w' => e = .returned (.tuple #[.int .i64 x.1, .int .i64 x.2, .bool true]) ∧ Step (fun _ => False) w w' := by
  rcases h.2 with ⟨rfl, _⟩ | ⟨g, cap, bm, D, es, m, ag, ab, ho, hpe⟩
  · simp at hx
  · have hl : 0 < es.length := by rw [hpe.length_eq]; exact List.length_pos_of_mem hx
    have h1 := hm _ (hpe.mem_iff.1 (at_mem hl))
    obtain ⟨i, hi, e⟩ := List.getElem_of_mem (hpe.mem_iff.2 hx)
    have h2 := ord_first ho i i (Nat.le_refl _) hi
    rw [at_get hi, e] at h2
    have hq := ltB_total h2 h1
    rw [hq]
    exact top_some hb g cap bm D es w m ⟨trivial, .inr ⟨g, cap, bm, D, es, m, trivial, trivial, ho, List.Perm.refl _⟩⟩ hl

/-- an id's every -/
theorem wpList_lookup_int (w : World) {ops : Array Oper} {rest : List Oper} {o : Oper} {a : Act} {Q : Exit → Act → World → Prop} (hg : o.guard = none) (mm x : Operand) (hop : o.op = Op.lookup 46 mm x false)
    (bm n : Nat) (D : DataW Unit) (hm : a.eval mm = .map (some bm)) (hown : w.ownsMap Try.prog 3 (plainElem Try.prog 3) bm n D) (id : Int) (hx : a.eval x = .int .i64 id) (hid : W64 id) (i : Int)
    (hat : D.atKey (ky id) (di 0) = di i)
    (hK : wpList Try.prog ops Q rest (a.put o.dst (.int .i64 i)) w) : wpList Try.prog ops Q (o :: rest) a w := by
  refine wpList_lookup_own_int _ hg mm x 46 hop 3 3 .i64 law3 Try.underlying46 Try.underlying3 (zero3 _) bm n D hm hown _ _ hx (keyOf_int_mk Try.underlying3 hid.wf) ?_
  intro c hc _
  rw [hat] at hc
  simp only [di, DataW.lit.injEq, Lit.int.injEq, true_and] at hc
  subst hc
  exact hK

theorem TMem.still {w w' : World} {tb hb bm : Nat} {B : Nat → Prop} {D : DataW Unit} {L : List T3} (m : TMem w tb hb bm B D L) (h : Step (fun _ => False) w w') : TMem w' tb hb bm B D L := m.kept h (fun q => q) (fun q => q) (fun _ _ _ q => q)

/-- Due, when there is none, or the first one is behind now -/
theorem tdue_none (tb : Nat) (A : Nat → Prop) (L : List T3) (now : Int) (w : World) (h : TRep w tb A L) (hn : ∀ t ∈ L, now < t.2.1) :
    Calls Try.prog 16 #[.pointer (some ⟨tb, 0, none⟩), .int .i64 now] w fun e w' => e = .returned (.tuple #[.int .i64 0, .int .i64 0, .bool false]) ∧ Step (fun _ => False) w w' := by
  have hr := Step.refl (fun _ => False) w
  rcases h.2 with ⟨rfl, h2⟩ | ⟨hb, bm, B, D, m, am, aB⟩
  · have h0 : w.cell? ⟨tb, 0, none⟩ = some (.pointer none) := by simp [World.cell?, h2]
    go_enter Try.func16, Try.ntmps16
    go_wp2_with (go_at_call 22; refine (top_none _).mono ?_; rintro e w1 ⟨rfl, rfl⟩)
    go_ret3
    exact ⟨rfl, hr⟩
  · have h0 := m.h0
    by_cases hz : L = []
    · subst hz
      go_enter Try.func16, Try.ntmps16
      go_wp2_with (go_at_call 22; refine (top_nil hb B _ m.rep).mono ?_; rintro e w1 ⟨rfl, rfl⟩)
      go_ret3
      exact ⟨rfl, hr⟩
    · obtain ⟨t, ht, hl⟩ := exists_least hz
      have hlt := hn t ht
      have hx : pr t ∈ prs L := List.mem_map_of_mem ht
      have hm : ∀ y ∈ prs L, ltB y (pr t) = false := fun y hy => by
        obtain ⟨u, hu, rfl⟩ := List.mem_map.1 hy
        exact hl u hu
      have HT := top_least hb B (prs L) (pr t) w m.rep hx hm
      simp only [pr] at HT
      generalize t.2.1 = ta at HT hlt
      generalize t.1 = ti at HT
      clear hn hl hx hm
      go_enter Try.func16, Try.ntmps16
      go_wp2_with (go_at_call 22; refine HT.mono ?_; rintro e w1 ⟨rfl, hs⟩)
      go_ret3
      exact ⟨rfl, hs⟩

set_option maxHeartbeats 2000000 in
/-- Due, when the first one is not behind now -/
theorem tdue_some (tb : Nat) (A : Nat → Prop) (L : List T3) (t : T3) (now : Int) (w : World) (h : TRep w tb A L) (ht : Least L t) (hd : t.2.1 ≤ now) (hm : Mom L) (hl : L.length + 1 ≤ 8796093022208) :
    Calls Try.prog 16 #[.pointer (some ⟨tb, 0, none⟩), .int .i64 now] w fun e w' => e = .returned (.tuple #[.int .i64 t.1, .int .i64 t.2.1, .bool true]) ∧ TWent w tb A (nextT L t) w' := by
  rcases h.2 with ⟨rfl, h2⟩ | ⟨hb, bm, B, D, m, am, aB⟩
  · exact absurd ht.1 (by simp)
  · have h0 := m.h0
    obtain ⟨wi, wa, wv⟩ := h.wf t ht.1
    obtain ⟨ma1, ma2⟩ := hm t ht.1
    have hx : pr t ∈ prs L := List.mem_map_of_mem ht.1
    have hmin : ∀ y ∈ prs L, ltB y (pr t) = false := fun y hy => by
      obtain ⟨u, hu, rfl⟩ := List.mem_map.1 hy
      exact ht.2 u hu
    have HT := top_least hb B (prs L) (pr t) w m.rep hx hmin
    have hat := (m.ties.get t ht.1).2
    have HN : Hid (nextT L t = if 0 < t.2.2 then setT L t.1 (latN t.2.1 t.2.2) t.2.2 else dropT L t.1) := rfl
    simp only [pr] at HT
    obtain ⟨ti, ta, tv⟩ := t
    simp only at *
    have HAT : Hid (D.atKey (ky ti) (di 0) = di tv) := hat
    have wl : W64 (latN ta tv) ∨ ¬ 0 < tv := by
      by_cases c : 0 < tv
      · left
        have h1 := latN_le ta tv
        have h2 := latN_ge ma1 c
        exact ⟨by omega, by omega⟩
      · exact .inr c
    generalize nextT L (ti, ta, tv) = NX at HN ⊢
    clear hat hx hmin ht
    by_cases c : 0 < tv
    · have wl' := wl.resolve_right (fun q => q c)
      have HN' : Hid (NX = setT L ti (latN ta tv) tv) := by show NX = _; rw [HN.out, if_pos c]
      clear HN wl
      go_enter Try.func16, Try.ntmps16
      go_wp2_with (first
        | (go_at_call 22; refine HT.mono ?_; rintro e w1 ⟨rfl, hs⟩; have m1 := m.still hs; have g1 := m1.h1; have r1 : TRep w1 tb A L := h.kept hs (fun _ _ _ q => q))
        | (at_lookup; refine wpList_lookup_int _ rfl _ _ rfl bm _ D rfl m1.map ti rfl wi tv HAT.out ?_)
        | (go_at_call 23; refine (later_any ta tv _ ma1 ma2 c wv).mono ?_; rintro e w2 ⟨rfl, rfl⟩)
        | (go_at_call 10; refine (tset_any tb A L ti (latN ta tv) tv _ r1 wi wl' wv hl).mono ?_; rintro e w3 ⟨rfl, hw⟩)
        | fail)
      go_ret3
      obtain ⟨A', r', mv⟩ := hw
      refine ⟨rfl, A', by rw [HN'.out]; exact r', (hs.mono (fun _ _ q => q.elim)).trans mv.stp, fun k hk q => mv.own k (Nat.lt_of_lt_of_le hk hs.size) q⟩
    · have HN' : Hid (NX = dropT L ti) := by show NX = _; rw [HN.out, if_neg c]
      clear HN wl
      go_enter Try.func16, Try.ntmps16
      go_wp2_with (first
        | (go_at_call 22; refine HT.mono ?_; rintro e w1 ⟨rfl, hs⟩; have m1 := m.still hs; have g1 := m1.h1; have r1 : TRep w1 tb A L := h.kept hs (fun _ _ _ q => q))
        | (at_lookup; refine wpList_lookup_int _ rfl _ _ rfl bm _ D rfl m1.map ti rfl wi tv HAT.out ?_)
        | (go_at_call 13; refine (tcancel_any tb A L ti _ r1 wi).mono ?_; rintro e w3 ⟨rfl, hw⟩)
        | fail)
      go_ret3
      obtain ⟨A', r', mv⟩ := hw
      refine ⟨rfl, A', by rw [HN'.out]; exact r', (hs.mono (fun _ _ q => q.elim)).trans mv.stp, fun k hk q => mv.own k (Nat.lt_of_lt_of_le hk hs.size) q⟩

/-! ### timers that are none -/

theorem tset_none (id a ev : Int) (w : World) :
    Calls Try.prog 10 #[.pointer none, .int .i64 id, .int .i64 a, .int .i64 ev] w fun e w' => e = .returned (.tuple #[]) ∧ w' = w := by
  go_enter Try.func10, Try.ntmps10
  go_wp2
  exact bodyPost_ret (v := .tuple #[]) (by simp [results, Try.results10, go_sem]) rfl ⟨rfl, rfl⟩

theorem tcancel_none (id : Int) (w : World) :
    Calls Try.prog 13 #[.pointer none, .int .i64 id] w fun e w' => e = .returned (.bool false) ∧ w' = w := by
  go_enter Try.func13, Try.ntmps13
  go_wp2
  go_ret
  exact ⟨rfl, rfl⟩

theorem tlen_none (w : World) :
    Calls Try.prog 15 #[.pointer none] w fun e w' => e = .returned (.int .i64 0) ∧ w' = w := by
  go_enter Try.func15, Try.ntmps15
  go_wp2
  go_ret
  exact ⟨rfl, rfl⟩

theorem tdue_nil (now : Int) (w : World) :
    Calls Try.prog 16 #[.pointer none, .int .i64 now] w fun e w' => e = .returned (.tuple #[.int .i64 0, .int .i64 0, .bool false]) ∧ w' = w := by
  go_enter Try.func16, Try.ntmps16
  go_wp2
  go_ret3
  exact ⟨rfl, rfl⟩

end Go.Proofs.Ytbicaknenphcbaa.HW
