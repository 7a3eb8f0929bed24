/- What a latch's Next does; a latch that is none. -/
import Derived.Test.YthhhakglchcfgaaLatOps
import Derived.Test.YthhhakglchcfgaaArgs
namespace Go.Proofs.Ythhhakglchcfgaa.LT
open Go.ChangeShapes Go.WideShapes Go.ChangeAt Go.RowKit Go.Proofs.Ythhhakglchcfgaa.HP Go.Maps Go.Proofs.Ythhhakglchcfgaa.HM Go.Proofs.Ythhhakglchcfgaa.HW

/-- the heap's first one, whatever there is -/
theorem first_least (hb : Nat) (A : Nat → Prop) (l : List E) (x : E) (w : World) (h : Rep w hb A l) (hx : x ∈ l) (hm : ∀ y ∈ l, ltB y x = false) :
    Calls Try.prog 19 #[.pointer (some ⟨hb, 0, none⟩)] w fun e w' => e = .returned (.tuple #[.int .i64 x.1, .int .i64 x.2, .bool true]) ∧ Step (fun _ => False) w w' := by
  rcases h.2 with ⟨rfl, _⟩ | ⟨g, cap, bm, D, es, m, ag, ab, ho, hpe⟩
  · simp at hx
  · have hl : 0 < es.length := by rw [hpe.length_eq]; exact List.length_pos_of_mem hx
    have h1 := hm _ (hpe.mem_iff.1 (at_mem hl))
    obtain ⟨i, hi, e⟩ := List.getElem_of_mem (hpe.mem_iff.2 hx)
    have h2 := ord_first ho i i (Nat.le_refl _) hi
    rw [at_get hi, e] at h2
    have hq := ltB_total h2 h1
    rw [hq]
    exact top_some hb g cap bm D es w m ⟨trivial, .inr ⟨g, cap, bm, D, es, m, trivial, trivial, ho, List.Perm.refl _⟩⟩ hl

theorem pop_least (hb : Nat) (A : Nat → Prop) (l : List E) (x : E) (w : World) (h : Rep w hb A l) (hx : x ∈ l) (hm : ∀ y ∈ l, ltB y x = false) :
    Calls Try.prog 20 #[.pointer (some ⟨hb, 0, none⟩)] w fun e w' => e = .returned (.tuple #[.int .i64 x.1, .int .i64 x.2, .bool true]) ∧ Went w hb A (HP.drop l x.1) w' := by
  have hw := (h.wf x hx).1
  go_enter Try.func20, Try.ntmps20
  go_wp2_with (go_at_call 19; refine (first_least hb A l x _ h hx hm).mono ?_; rintro e w1 ⟨rfl, hs1⟩)
  have h1 : Rep w1 hb A l := h.kept hs1 (fun _ _ _ q => q)
  refine (remove_any hb A l x.1 _ h1 hw).mono ?_
  rintro e w2 ⟨rfl, A2, h2, m2⟩
  go_wp2
  go_ret3
  exact ⟨rfl, A2, h2, (hs1.mono (fun _ _ q => q.elim)).trans m2.stp, fun k hk hA => m2.own k (Nat.lt_of_lt_of_le hk hs1.size) hA⟩

/-- what a task's cycles are -/
theorem wpList_lookup_cyc (w : World) {ops : Array Oper} {rest : List Oper} {o : Oper} {a : Act} {Q : Exit → Act → World → Prop} (hg : o.guard = none) (mm x : Operand) (hop : o.op = Op.lookup 40 mm x false)
    (bm n : Nat) (D : DataW Unit) (hm : a.eval mm = .map (some bm)) (hown : w.ownsMap Try.prog 3 (plainElem Try.prog 3) bm n D) (id : Int) (hx : a.eval x = .int .i64 id) (hid : W64 id) (i : Int)
    (hat : D.atKey (ky id) (di 0) = di i)
    (hK : wpList Try.prog ops Q rest (a.put o.dst (.int .i64 i)) w) : wpList Try.prog ops Q (o :: rest) a w := by
  refine wpList_lookup_own_int _ hg mm x 40 hop 3 3 .i64 law3 Try.underlying40 Try.underlying3 (zero3 _) bm n D hm hown _ _ hx (keyOf_int_mk Try.underlying3 hid.wf) ?_
  intro c hc _
  rw [hat] at hc
  simp only [di, DataW.lit.injEq, Lit.int.injEq, true_and] at hc
  subst hc
  exact hK

/-- Next, when nothing waits, or the first one is behind now -/
theorem lnext_none (tb : Nat) (A : Nat → Prop) (L : List T3) (now : Int) (w : World) (h : LRep w tb A L) (hn : ∀ t ∈ L, now < t.2.1) :
    Calls Try.prog 15 #[.pointer (some ⟨tb, 0, none⟩), .int .i64 now] w fun e w' => e = .returned (.tuple #[.int .i64 0, .int .i64 0, .int .i64 0, .bool false]) ∧ Step (fun _ => False) w w' := by
  have hr := Step.refl (fun _ => False) w
  rcases h.2 with ⟨rfl, h2⟩ | ⟨hb, bm, B, D, m, am, aB⟩
  · have h0 : w.cell? ⟨tb, 0, none⟩ = some (.pointer none) := by simp [World.cell?, h2]
    go_enter Try.func15, Try.ntmps15
    go_wp2_with (go_at_call 19; refine (top_none _).mono ?_; rintro e w1 ⟨rfl, rfl⟩)
    try simp only [Exit.inBlock, Exit.then]
    refine bodyPost_ret (results_tmp4 rfl _ _ _) rfl ?_
    exact ⟨rfl, hr⟩
  · have h0 := m.h0
    by_cases hz : L = []
    · subst hz
      go_enter Try.func15, Try.ntmps15
      go_wp2_with (go_at_call 19; refine (top_nil hb B _ m.rep).mono ?_; rintro e w1 ⟨rfl, rfl⟩)
      try simp only [Exit.inBlock, Exit.then]
      refine bodyPost_ret (results_tmp4 rfl _ _ _) rfl ?_
      exact ⟨rfl, hr⟩
    · obtain ⟨t, ht, hl⟩ := HW.exists_least hz
      have hlt := hn t ht
      have hx : pr t ∈ prs L := List.mem_map_of_mem ht
      have hm : ∀ y ∈ prs L, ltB y (pr t) = false := fun y hy => by
        obtain ⟨u, hu, rfl⟩ := List.mem_map.1 hy
        exact hl u hu
      have HT := first_least hb B (prs L) (pr t) w m.rep hx hm
      simp only [pr] at HT
      generalize t.2.1 = ta at HT hlt
      generalize t.1 = ti at HT
      clear hn hl hx hm
      go_enter Try.func15, Try.ntmps15
      go_wp2_with (go_at_call 19; refine HT.mono ?_; rintro e w1 ⟨rfl, hs⟩)
      try simp only [Exit.inBlock, Exit.then]
      refine bodyPost_ret (results_tmp4 rfl _ _ _) rfl ?_
      exact ⟨rfl, hs⟩

/-- behind the heap's Pop and the map's delete -/
theorem lmem_pop {w w2 w3 : World} {tb hb bm n : Nat} {B : Nat → Prop} {D : DataW Unit} {L : List T3} {id : Int} (m : LMem w tb hb bm B D L)
    (hw : Went w hb B (HP.drop (prs L) id) w2) (ho : w3.ownsMap Try.prog 3 (plainElem Try.prog 3) bm n (D.del (ky id))) (hg : w2.grownBy w3 (some bm)) :
    LSet w tb hb bm B (dropT L id) w3 := by
  obtain ⟨B', r', mv⟩ := hw
  have hs : Step (fun k => k = bm) w2 w3 := (Step.refl _ w2).grown hg (fun k hk => by simp at hk; exact hk.symm)
  have oB : ¬ B' bm := fun q => m.off.2 (mv.own bm m.ltB q)
  have oT : ¬ B' tb := fun q => m.off.1 (mv.own tb m.ltT q)
  have t2 := m.ties.del m.nodup id
  refine ⟨B', _, ⟨?_, ?_, own_to ho t2.size, t2, oT, oB⟩, (mv.stp.mono (fun _ _ h => .inl h)).trans (hs.mono (fun _ _ h => .inr h)), mv.own⟩
  · rw [hs.block tb (Nat.lt_of_lt_of_le m.ltT mv.stp.size) (fun e => m.bt e.symm), mv.stp.block tb m.ltT m.off.1]; exact m.blk
  · rw [prs_drop]; exact r'.kept hs (fun k _ hB e => oB (e ▸ hB))

set_option maxHeartbeats 2000000 in
/-- Next, when the first one is not behind now -/
theorem lnext_some (tb : Nat) (A : Nat → Prop) (L : List T3) (t : T3) (now : Int) (w : World) (h : LRep w tb A L) (ht : Least L t) (hd : t.2.1 ≤ now) :
    Calls Try.prog 15 #[.pointer (some ⟨tb, 0, none⟩), .int .i64 now] w fun e w' => e = .returned (.tuple #[.int .i64 t.1, .int .i64 t.2.1, .int .i64 t.2.2, .bool true]) ∧ LWent w tb A (dropT L t.1) w' := by
  rcases h.2 with ⟨rfl, h2⟩ | ⟨hb, bm, B, D, m, am, aB⟩
  · exact absurd ht.1 (by simp)
  · have h0 := m.h0
    obtain ⟨wi, wa, wv⟩ := h.wf t ht.1
    have hx : pr t ∈ prs L := List.mem_map_of_mem ht.1
    have hmin : ∀ y ∈ prs L, ltB y (pr t) = false := fun y hy => by
      obtain ⟨u, hu, rfl⟩ := List.mem_map.1 hy
      exact ht.2 u hu
    have HT := first_least hb B (prs L) (pr t) w m.rep hx hmin
    have HR : Hid (∀ W, Rep W hb B (prs L) → Calls Try.prog 20 #[.pointer (some ⟨hb, 0, none⟩)] W fun e w' => e = .returned (.tuple #[.int .i64 (pr t).1, .int .i64 (pr t).2, .bool true]) ∧ Went W hb B (HP.drop (prs L) (pr t).1) w') := fun W r => pop_least hb B (prs L) (pr t) W r hx hmin
    have hat := (m.ties.get t ht.1).2
    simp only [pr] at HT HR
    obtain ⟨ti, ta, tv⟩ := t
    simp only at *
    have HAT : Hid (D.atKey (ky ti) (di 0) = di tv) := hat
    have hkey := keyOf_int_mk Try.underlying3 wi.wf
    clear hat hx hmin ht
    go_enter Try.func15, Try.ntmps15
    go_wp2_with (first
      | (go_at_call 19; refine HT.mono ?_; rintro e w1 ⟨rfl, hs⟩; have m1 := m.still hs; have g0 := m1.h0; have g1 := m1.h1)
      | (at_lookup; refine wpList_lookup_cyc _ rfl _ _ rfl bm _ D rfl m1.map ti rfl wi tv HAT.out ?_)
      | fail)
    refine (HR.out _ m1.rep).mono ?_
    rintro e w2 ⟨rfl, hw⟩
    have q1 := lmem_went m1 hw
    have q2 := q1.1
    have q3 := q1.2
    clear q1
    go_wp2_with (first
      | (at_delete; refine wpList_delete_own _ rfl _ _ 40 3 rfl 3 law3 Try.underlying40 _ bm _ D rfl q3 _ _ rfl hkey ?_; intro w3 ho3 ht3)
      | fail)
    obtain ⟨B', D', m3, s3, o3⟩ := lmem_pop m1 hw ho3 ht3.grown
    try simp only [Exit.inBlock, Exit.then]
    refine bodyPost_ret (results_tmp4 rfl _ _ _) rfl ?_
    exact ⟨rfl, lwent_of h am aB m3 ((hs.mono (fun _ _ q => q.elim)).trans s3) (fun k hk q => o3 k (Nat.lt_of_lt_of_le hk hs.size) q)⟩

/-! ### a latch that is none -/

theorem lwaits_none (id : Int) (w : World) :
    Calls Try.prog 11 #[.pointer none, .int .i64 id] w fun e w' => e = .returned (.bool false) ∧ w' = w := by
  go_enter Try.func11, Try.ntmps11
  go_wp2
  go_ret
  exact ⟨rfl, rfl⟩

theorem lput_none (id a c : Int) (w : World) :
    Calls Try.prog 9 #[.pointer none, .int .i64 id, .int .i64 a, .int .i64 c] w fun e w' => e = .returned (.bool false) ∧ w' = w := by
  go_enter Try.func9, Try.ntmps9
  go_wp2
  go_ret
  exact ⟨rfl, rfl⟩

theorem llen_none (w : World) :
    Calls Try.prog 12 #[.pointer none] w fun e w' => e = .returned (.int .i64 0) ∧ w' = w := by
  go_enter Try.func12, Try.ntmps12
  go_wp2
  go_ret
  exact ⟨rfl, rfl⟩

theorem lnext_nil (now : Int) (w : World) :
    Calls Try.prog 15 #[.pointer none, .int .i64 now] w fun e w' => e = .returned (.tuple #[.int .i64 0, .int .i64 0, .int .i64 0, .bool false]) ∧ w' = w := by
  go_enter Try.func15, Try.ntmps15
  go_wp2
  try simp only [Exit.inBlock, Exit.then]
  refine bodyPost_ret (results_tmp4 rfl _ _ _) rfl ?_
  exact ⟨rfl, rfl⟩

end Go.Proofs.Ythhhakglchcfgaa.LT
