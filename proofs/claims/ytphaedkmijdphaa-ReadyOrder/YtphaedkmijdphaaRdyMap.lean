/- A map that has of each task its job: how its elements read, what it has, what a look-up finds. -/
import Derived.Test.YtphaedkmijdphaaRdyMem
import Derived.Maps.RangeWalk
namespace Go.Proofs.Ytphaedkmijdphaa.RD
open Go.ChangeShapes Go.WideShapes Go.ChangeAt Go.RowKit Go.Proofs.Ytphaedkmijdphaa.AR Go.Proofs.Ytphaedkmijdphaa.HP Go.Maps Go.Proofs.Ytphaedkmijdphaa.HM

/-- a job as a datum -/
def Jb.dat (j : Jb) : DataW Unit := .agg [.lit (.int .i64 j.t), .lit (.int .i64 j.r), .lit (.int .i64 j.d), .lit (.int .i64 j.l), .lit (.int .i64 j.x), .lit (.bool j.s)]

/-- how an element reads -/
def jobElem : Value → Option (DataW Unit × List MemPlace)
  | .agg ⟨[.int .i64 t, .int .i64 r, .int .i64 d, .int .i64 l, .int .i64 x, .bool s]⟩ => some (Jb.dat ⟨t, r, d, l, x, s⟩, [])
  | _ => none

theorem jobElem_mk (j : Jb) : jobElem (.agg #[.int .i64 j.t, .int .i64 j.r, .int .i64 j.d, .int .i64 j.l, .int .i64 j.x, .bool j.s]) = some (j.dat, []) := rfl
theorem dat_inj {i j : Jb} (h : i.dat = j.dat) : i = j := by
  obtain ⟨i0, i1, i2, i3, i4, i5⟩ := i
  obtain ⟨j0, j1, j2, j3, j4, j5⟩ := j
  simp only [Jb.dat, DataW.agg.injEq, List.cons.injEq, DataW.lit.injEq, Lit.int.injEq, Lit.bool.injEq, true_and, and_true] at h
  obtain ⟨rfl, rfl, rfl, rfl, rfl, rfl⟩ := h
  rfl
theorem jobElem_inv {v : Value} {z : DataW Unit × List MemPlace} (h : jobElem v = some z) : ∃ j : Jb, v = .agg #[.int .i64 j.t, .int .i64 j.r, .int .i64 j.d, .int .i64 j.l, .int .i64 j.x, .bool j.s] ∧ z = (j.dat, []) := by
  unfold jobElem at h
  split at h
  · simp only [Option.some.injEq] at h
    exact ⟨⟨_, _, _, _, _, _⟩, rfl, h.symm⟩
  · cases h

theorem zeroJ (w : World) : (zeroValue 27).run Try.prog w = .ok (.agg #[.int .i64 0, .int .i64 0, .int .i64 0, .int .i64 0, .int .i64 0, .bool false]) w := by kernel_rfl
theorem zJ_dat : jobElem (.agg #[.int .i64 0, .int .i64 0, .int .i64 0, .int .i64 0, .int .i64 0, .bool false]) = some (zJ.dat, []) := rfl

/-- the map has of each task its job, and nothing else -/
structure TiesJ (D : DataW Unit) (L : List Jb) : Prop where
  tidy : Tidy D
  size : Maps.size D = L.length
  get : ∀ j ∈ L, Maps.has D (ky j.t) = true ∧ ∀ z, D.atKey (ky j.t) z = j.dat
  back : ∀ x, Maps.has D (ky x) = true → x ∈ tks L

theorem tiesJ_nil : TiesJ (.map []) [] := ⟨tidy_empty, rfl, fun t h => by simp at h, fun x h => by simp [Maps.has] at h⟩

theorem TiesJ.has_iff {D : DataW Unit} {L : List Jb} (h : TiesJ D L) (x : Int) : Maps.has D (ky x) = true ↔ x ∈ tks L := by
  refine ⟨h.back x, fun q => ?_⟩
  obtain ⟨t, ht, rfl⟩ := List.mem_map.1 q
  exact (h.get t ht).1

theorem TiesJ.has_eq {D : DataW Unit} {L : List Jb} (h : TiesJ D L) (x : Int) : Maps.has D (ky x) = decide (x ∈ tks L) := by
  cases q : Maps.has D (ky x) with
  | true => exact (decide_eq_true (h.back x q)).symm
  | false => exact (decide_eq_false (fun e => by rw [(h.has_iff x).2 e] at q; cases q)).symm

theorem putL_mem_len {L : List Jb} {j : Jb} (hn : (tks L).Nodup) (h : j.t ∈ tks L) : (putL L j).length = L.length := by
  unfold putL
  rw [insJ_len]
  obtain ⟨i, hi, e⟩ := mem_tks.1 h
  have h1 : (dropJ L j.t).length + 1 = L.length := by
    unfold dropJ
    have := List.length_eq_countP_add_countP (fun y : Jb => y.t != j.t) (l := L)
    rw [List.countP_eq_length_filter] at this
    have h2 : L.countP (fun y => decide ¬(y.t != j.t) = true) = 1 := by
      have h3 : L.countP (fun y => decide ¬(y.t != j.t) = true) = (tks L).count j.t := by
        unfold tks
        rw [List.count, List.countP_map]
        congr 1
        funext y
        rw [Bool.eq_iff_iff]
        simp [bne]
      rw [h3, hn.count, if_pos h]
    omega
  exact h1

theorem TiesJ.put {D : DataW Unit} {L : List Jb} (h : TiesJ D L) (hn : (tks L).Nodup) (j : Jb) : TiesJ (D.put (ky j.t) j.dat) (putL L j) := by
  refine ⟨h.tidy.put (ik _) _, ?_, fun i hi => ?_, fun x hx => ?_⟩
  · rw [size_put h.tidy]
    by_cases q : j.t ∈ tks L
    · rw [if_pos ((h.has_iff j.t).2 q), putL_mem_len hn q]; exact h.size
    · rw [if_neg (fun e => q ((h.has_iff j.t).1 e)), h.size]
      unfold putL
      rw [insJ_len, dropJ_none q]
  · rcases mem_putL.1 hi with rfl | ⟨h1, h2⟩
    · exact ⟨has_put_same h.tidy.isMap (ik _) _, fun z => atKey_put_same h.tidy.isMap (ik _) _ _⟩
    · refine ⟨?_, fun z => ?_⟩
      · rw [has_put_other (ky_ne h2)]; exact (h.get i h1).1
      · rw [atKey_put_other (ky_ne h2)]; exact (h.get i h1).2 z
  · by_cases e : x = j.t
    · subst e; exact mem_tks.2 ⟨j, mem_putL.2 (.inl rfl), rfl⟩
    · rw [has_put_other (ky_ne e)] at hx
      obtain ⟨i, hi, rfl⟩ := mem_tks.1 (h.back x hx)
      exact mem_tks.2 ⟨i, mem_putL.2 (.inr ⟨hi, e⟩), rfl⟩

theorem TiesJ.del {D : DataW Unit} {L : List Jb} (h : TiesJ D L) (hn : (tks L).Nodup) (x : Int) : TiesJ (D.del (ky x)) (dropJ L x) := by
  refine ⟨h.tidy.del _, ?_, fun i hi => ?_, fun y hy => ?_⟩
  · have hs := size_del (k := ky x) h.tidy
    by_cases q : x ∈ tks L
    · rw [if_pos ((h.has_iff x).2 q), h.size] at hs
      have := putL_mem_len (j := ⟨x, 0, 0, 0, 0, false⟩) hn q
      unfold putL at this
      rw [insJ_len] at this
      simp only at this
      omega
    · rw [if_neg (fun e => q ((h.has_iff x).1 e)), h.size] at hs
      rw [dropJ_none q]; omega
  · obtain ⟨h1, h2⟩ := mem_dropJ.1 hi
    refine ⟨?_, fun z => ?_⟩
    · rw [has_del_other (ky_ne h2)]; exact (h.get i h1).1
    · rw [atKey_del_other (ky_ne h2)]; exact (h.get i h1).2 z
  · by_cases e : y = x
    · subst e; rw [has_del_same] at hy; cases hy
    · rw [has_del_other (ky_ne e)] at hy
      obtain ⟨i, hi, rfl⟩ := mem_tks.1 (h.back y hy)
      exact mem_tks.2 ⟨i, mem_dropJ.2 ⟨hi, e⟩, rfl⟩

/-- a task's job, or the zero job -/
def jobOf (L : List Jb) (x : Int) : Jb := (L.find? fun j => j.t == x).getD zJ
theorem jobOf_none {L : List Jb} {x : Int} (h : x ∉ tks L) : jobOf L x = zJ := by
  unfold jobOf
  rw [List.find?_eq_none.2 (fun j hj => by simp; intro e; exact h (mem_tks.2 ⟨j, hj, e⟩))]
  rfl
theorem jobOf_mem {L : List Jb} (hn : (tks L).Nodup) {j : Jb} (h : j ∈ L) : jobOf L j.t = j := by
  unfold jobOf
  cases q : L.find? (fun i => i.t == j.t) with
  | none => exact absurd (List.find?_eq_none.1 q j h) (by simp)
  | some i =>
    have h1 := List.mem_of_find?_eq_some q
    have h2 := List.find?_some q
    simp only [beq_iff_eq] at h2
    exact one_of hn h1 h h2
theorem TiesJ.at_key {D : DataW Unit} {L : List Jb} (h : TiesJ D L) (hn : (tks L).Nodup) (x : Int) : D.atKey (ky x) zJ.dat = (jobOf L x).dat := by
  by_cases q : x ∈ tks L
  · obtain ⟨j, hj, rfl⟩ := mem_tks.1 q
    rw [jobOf_mem hn hj]
    exact (h.get j hj).2 _
  · rw [jobOf_none q, atKey_of_not_has]
    rw [h.has_eq, decide_eq_false q]

/-- a task's job, if it has one -/
theorem wpList_job_ok (w : World) {ops : Array Oper} {rest : List Oper} {o : Oper} {a : Act} {Q : Exit → Act → World → Prop} (hg : o.guard = none) (mm x : Operand) (hop : o.op = Op.lookup 49 mm x true)
    (bm n : Nat) (D : DataW Unit) (L : List Jb) (hm : a.eval mm = .map (some bm)) (hown : w.ownsMap Try.prog 3 jobElem bm n D) (ht : TiesJ D L) (hn : (tks L).Nodup) (id : Int) (hx : a.eval x = .int .i64 id) (hid : W64 id) (j : Jb) (hj : jobOf L id = j)
    (hK : wpList Try.prog ops Q rest (a.put o.dst (.tuple #[.agg #[.int .i64 j.t, .int .i64 j.r, .int .i64 j.d, .int .i64 j.l, .int .i64 j.x, .bool j.s], .bool (decide (id ∈ tks L))])) w) : wpList Try.prog ops Q (o :: rest) a w := by
  refine wpList_lookup_own_ok _ hg mm x 49 hop 3 27 law3 Try.underlying49 jobElem (zeroJ _) zJ.dat [] zJ_dat bm n D hm hown _ _ hx (keyOf_int_mk Try.underlying3 hid.wf) ?_
  intro v ps hv
  obtain ⟨i, rfl, e⟩ := jobElem_inv hv
  rw [ht.at_key hn, Prod.mk.injEq] at e
  have := dat_inj e.1
  rw [hj] at this
  subst this
  rw [ht.has_eq]
  exact hK

/-- a task's job, or the zero job -/
theorem wpList_job (w : World) {ops : Array Oper} {rest : List Oper} {o : Oper} {a : Act} {Q : Exit → Act → World → Prop} (hg : o.guard = none) (mm x : Operand) (hop : o.op = Op.lookup 49 mm x false)
    (bm n : Nat) (D : DataW Unit) (L : List Jb) (hm : a.eval mm = .map (some bm)) (hown : w.ownsMap Try.prog 3 jobElem bm n D) (ht : TiesJ D L) (hn : (tks L).Nodup) (id : Int) (hx : a.eval x = .int .i64 id) (hid : W64 id) (j : Jb) (hj : jobOf L id = j)
    (hK : wpList Try.prog ops Q rest (a.put o.dst (.agg #[.int .i64 j.t, .int .i64 j.r, .int .i64 j.d, .int .i64 j.l, .int .i64 j.x, .bool j.s])) w) : wpList Try.prog ops Q (o :: rest) a w := by
  refine wpList_plain hg fun K' hK' => ?_
  obtain ⟨v, ps, hrun, hv⟩ := hown.lookup law3 Try.underlying49 (zeroJ _) (zd := zJ.dat) (zp := []) zJ_dat (keyOf_int_mk (P := Try.prog) Try.underlying3 hid.wf)
  obtain ⟨i, rfl, e⟩ := jobElem_inv hv
  rw [ht.at_key hn, Prod.mk.injEq] at e
  have := dat_inj e.1
  rw [hj] at this
  subst this
  unfold Oper.wp
  simp [execOp, hop, hm, hx, hrun, Result.andThen]
  exact hK' _ _ hK

/-- the step of a range over it -/
theorem wpList_next_jobs (w : World) {ops : Array Oper} {rest : List Oper} {o : Oper} {a : Act} {Q : Exit → Act → World → Prop} (hg : o.guard = none) (it : Operand) (hop : o.op = Op.next it false)
    (b r n : Nat) (D : DataW Unit) (L : List Jb) (ht : TiesJ D L) (left : Lit → Bool) (cnt : Nat) (hit : a.eval it = .pointer (some ⟨r, 0, none⟩)) (h : w.ranges Try.prog 3 jobElem b r n D left cnt)
    (hDone : (∀ kl, left kl = false) → wpList Try.prog ops Q rest (a.put o.dst (.tuple #[.bool false])) w)
    (hMore : ∀ (j : Jb) (w' : World) (cnt' : Nat), j ∈ L → left (ky j.t) = true → w'.ranges Try.prog 3 jobElem b r n D (fun z => left z && !z.sameKey (ky j.t)) cnt' → cnt' < cnt →
      Step (fun k => k = r) w w' → w'.heap.size = w.heap.size → (Instr.entry (.pointer (some ⟨r, 0, none⟩))).run Try.prog w' = .ok (.tuple #[.int .i64 j.t, .agg #[.int .i64 j.t, .int .i64 j.r, .int .i64 j.d, .int .i64 j.l, .int .i64 j.x, .bool j.s]]) w' → wpList Try.prog ops Q rest (a.put o.dst (.tuple #[.bool true, .int .i64 j.t, .agg #[.int .i64 j.t, .int .i64 j.r, .int .i64 j.d, .int .i64 j.l, .int .i64 j.x, .bool j.s]])) w') :
    wpList Try.prog ops Q (o :: rest) a w := by
  refine wpList_next_ranges w hg it hop 3 law3 jobElem (Value.int .i64) (fun j : Jb => .agg #[.int .i64 j.t, .int .i64 j.r, .int .i64 j.d, .int .i64 j.l, .int .i64 j.x, .bool j.s]) (fun key kl hkey => by obtain ⟨x, rfl, _⟩ := Maps.keyOf_int_inv Try.underlying3 hkey; exact ⟨x, rfl⟩) (fun v y hv => by obtain ⟨j, rfl, _⟩ := jobElem_inv hv; exact ⟨j, rfl⟩)
    b r n D left cnt hit h (fun _ hl => hDone hl) (fun x c kl y w' cnt' hkey hlk hv hat hrg hlt hgr hsz hen => ?_)
  obtain ⟨x', ex, rfl, hwx⟩ := Maps.keyOf_int_inv Try.underlying3 hkey
  cases ex
  have ey : y = (c.dat, []) := by
    have h1 := jobElem_mk c
    have h2 : jobElem (.agg #[.int .i64 c.t, .int .i64 c.r, .int .i64 c.d, .int .i64 c.l, .int .i64 c.x, .bool c.s]) = some y := hv
    rw [h1] at h2
    exact (Option.some.inj h2).symm
  subst ey
  have hh : Maps.has D (ky x) = true := by
    cases q : Maps.has D (ky x) with
    | true => rfl
    | false =>
      have q1 := hat (.lit (.bool true))
      have q2 := hat (.lit (.bool false))
      have q3 : D.atKey (ky x) (.lit (.bool true)) = .lit (.bool true) := atKey_of_not_has q _
      have q4 : D.atKey (ky x) (.lit (.bool false)) = .lit (.bool false) := atKey_of_not_has q _
      have q5 : (DataW.lit (.bool true) : DataW Unit) = .lit (.bool false) := (q3.symm.trans q1).trans (q2.symm.trans q4)
      simp at q5
  obtain ⟨j, hj, rfl⟩ := mem_tks.1 (ht.back x hh)
  have : j = c := dat_inj ((((ht.get j hj).2 zJ.dat)).symm.trans (hat _))
  subst this
  exact hMore j w' cnt' hj hlk hrg hlt ((Step.refl _ _).grown hgr (fun k hk => by simp at hk; exact hk.symm)) hsz hen

end Go.Proofs.Ytphaedkmijdphaa.RD
