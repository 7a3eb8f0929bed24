/- Lists of jobs and of numbers copied into a row of the call's own. -/
import Derived.Test.YtaibpanceiapmaaSlkThs
namespace Go.Proofs.Ytaibpanceiapmaa.SK
open Go.ChangeShapes Go.WideShapes Go.ChangeAt Go.RowKit Go.Proofs.Ytaibpanceiapmaa.AR Go.Proofs.Ytaibpanceiapmaa.TB Go.Proofs.Ytaibpanceiapmaa.TK Go.Proofs.Ytaibpanceiapmaa.JB Go.Proofs.Ytaibpanceiapmaa.FX Go.Proofs.Ytaibpanceiapmaa.AD Go.Proofs.Ytaibpanceiapmaa.RW
open Go.Proofs.Ytaibpanceiapmaa.LK (Hd atH HsAt C3)

theorem sjb_info : (Try.prog.info? 44).map (fun i => (i.zero, i.size, i.bytes)) = some (some (.agg #[.int .i64 0, .int .i64 0, .int .i64 0, .int .i64 0, .int .i64 0, .bool false]), 6, 48) := by kernel_rfl

theorem jobC_len : ∀ L : List Jb, (jobC L).length = L.length * 6
  | [] => rfl
  | t :: L => by simp only [jobC, List.length_cons, jobC_len L]; omega
theorem jobC_append : ∀ L M : List Jb, jobC (L ++ M) = jobC L ++ jobC M
  | [], M => rfl
  | t :: L, M => by simp [jobC, jobC_append L M]
theorem jobC_cases {L : List Jb} {q : Nat} {v : Value} (h : (jobC L)[q]? = some v) : ∃ i j t, q = i * 6 + j ∧ j < 6 ∧ L[i]? = some t ∧ v = t.cell j := by
  have hq : q < L.length * 6 := by
    have := (List.getElem?_eq_some_iff.1 h).1
    rw [jobC_len] at this
    exact this
  have hi : q / 6 < L.length := by omega
  have hg : L[q / 6]? = some L[q / 6] := List.getElem?_eq_getElem hi
  have e : q = q / 6 * 6 + q % 6 := by omega
  refine ⟨q / 6, q % 6, L[q / 6], e, by omega, hg, ?_⟩
  have h2 := jobC_at L (q / 6) (q % 6) _ hg (by omega)
  rw [← e] at h2
  rw [h2] at h
  cases h
  rfl
theorem jobC_one {L : List Jb} : ∀ v ∈ jobC L, v.oneCell' = true := by
  intro v hv
  obtain ⟨q, hq, e⟩ := List.mem_iff_getElem.1 hv
  obtain ⟨i, j, t, _, hj, _, rfl⟩ := jobC_cases (List.getElem?_eq_some_iff.2 ⟨hq, e⟩)
  match j, hj with
  | 0, _ => rfl
  | 1, _ => rfl
  | 2, _ => rfl
  | 3, _ => rfl
  | 4, _ => rfl
  | 5, _ => rfl

theorem jflat {w : World} {ao : Option Addr} {len : Nat} {L : List Jb} (h : JsAt w ao len L) : ∀ ad, ao = some ad → ∀ j u, (jobC L)[j]? = some u → w.cell? (ad.add j) = some u := by
  intro ad e j u hj
  obtain ⟨i, q, t, rfl, hq, hi, rfl⟩ := jobC_cases hj
  have hl : i < len := by rw [← h.ln]; exact (List.getElem?_eq_some_iff.1 hi).1
  rcases h.row with h0 | ⟨b, off, e', _, hc⟩
  · omega
  · rw [e] at e'
    cases e'
    rw [add_plain, ← hc i q t hi hq]
    congr 2
    omega
theorem jnil {w : World} {len : Nat} {L : List Jb} (h : JsAt w none len L) : len = 0 := by
  rcases h.row with h0 | ⟨b, off, e, _⟩
  · exact h0
  · cases e
theorem jat_of_row {w : World} {base g n cap : Nat} {L : List Jb} (h : w.ownsRow base 44 6 (.slice (some ⟨g, 0, none⟩) n cap) n (jobC L)) (hw : ∀ j ∈ L, JI j) (hb : n * 48 ≤ 140737488351232) : JsAt w (some ⟨g, 0, none⟩) n L := by
  have hl : L.length = n := by
    have := h.1
    rw [jobC_len] at this
    omega
  refine ⟨hl, hw, .inr ⟨g, 0, rfl, ?_, fun i j t hi hj => ?_⟩, hb⟩
  · rcases h.2 with ⟨q, _⟩ | ⟨g', cap', cur, e, _, hg, _⟩
    · cases q
    · cases e
      exact lt_blk hg
  · have hil : i < n := by rw [← hl]; exact (List.getElem?_eq_some_iff.1 hi).1
    rw [show 0 + i * 6 + j = i * 6 + j from by omega, World.ownsRow.cellAt h (i * 6 + j) (by omega)]
    exact jobC_at L i j t hi hj

theorem nflat {w : World} {ao : Option Addr} {len : Nat} {L : List Int} (h : NAt w ao len L) : ∀ ad, ao = some ad → ∀ j u, (L.map (Value.int .i64))[j]? = some u → w.cell? (ad.add j) = some u := by
  intro ad e j u hj
  rw [List.getElem?_map] at hj
  cases hg : L[j]? with
  | none => rw [hg] at hj; simp at hj
  | some x =>
    rw [hg] at hj
    simp only [Option.map_some, Option.some.injEq] at hj
    subst hj
    have hl : j < len := by rw [← h.at'.1]; exact (List.getElem?_eq_some_iff.1 hg).1
    rcases h.at'.2.2 with h0 | ⟨b, off, e', _, hc⟩
    · omega
    · rw [e] at e'
      cases e'
      rw [add_plain, hc j hl]
      simp [List.getD_eq_getElem?_getD, hg]
theorem none_one {L : List Int} : ∀ v ∈ L.map (Value.int .i64), v.oneCell' = true := by
  intro v hv
  obtain ⟨x, _, rfl⟩ := List.mem_map.1 hv
  rfl
theorem nat_of_row {w : World} {base g n cap : Nat} {L : List Int} (h : w.ownsRow base 3 1 (.slice (some ⟨g, 0, none⟩) n cap) n (L.map (Value.int .i64))) (hw : ∀ z ∈ L, I64 z) (hb : n * 8 ≤ 140737488351232) : NAt w (some ⟨g, 0, none⟩) n L := by
  have hl : L.length = n := by
    have := h.1
    rw [List.length_map] at this
    omega
  refine ⟨⟨hl, hw, .inr ⟨g, 0, rfl, ?_, fun i hi => ?_⟩⟩, hb⟩
  · rcases h.2 with ⟨q, _⟩ | ⟨g', cap', cur, e, _, hg, _⟩
    · cases q
    · cases e
      exact lt_blk hg
  · rw [show 0 + i = i from by omega, World.ownsRow.cellAt h i (by omega)]
    simp [List.getD_eq_getElem?_getD, List.getElem?_eq_getElem (show i < L.length by omega)]

/-- 'append([]api.Job{}, l...)' -/
theorem step_append_jobs {P : Program} (w : World) {ops : Array Oper} {o : Oper} {a : Act} {K : Act → World → Prop} {Q : Exit → Act → World → Prop} {E : Prop} (hgd : o.guard = none) (s x : Operand) (t e : TypeId)
    (ho : o.op = .call { callee := .builtin .append, args := #[s, x], argTypes := #[t, t] }) (ht : P.underlying t = some (.slice e))
    (hinf : (P.info? e).map (fun i => (i.zero, i.size, i.bytes)) = some (some (.agg #[.int .i64 0, .int .i64 0, .int .i64 0, .int .i64 0, .int .i64 0, .bool false]), 6, 48))
    (base g0 : Nat) (hs : a.eval s = .slice (some ⟨g0, 0, none⟩) 0 0) (hg0 : w.heap[g0]? = some (.cells #[] e (0, 0))) (hb : base ≤ g0)
    (ao : Option Addr) (len cap : Nat) (L : List Jb) (hx : a.eval x = .slice ao len cap) (hat : JsAt w ao len L)
    (h : ∀ g cap' w', w'.ownsRow base e 6 (.slice (some ⟨g, 0, none⟩) len cap') len (jobC L) → w.grownBy w' (some g0) → K (a.put o.dst (.slice (some ⟨g, 0, none⟩) len cap')) w') :
    if Region.wanted o (yielded ops a.tmps) = true then Oper.wp P o a w K Q else E := by
  obtain ⟨i0, hi, hz0, hz1, hz2⟩ := info_parts hinf
  have hby := hat.by'
  refine step_append_any w hgd s x t ho base e i0 _ 6 48 ht hi hz0 hz1 hz2 (by rfl) (by decide) g0 0 0 [] hs (ownsRow_none g0 hb hg0) ao len cap (jobC L) hx (by rw [jobC_len, hat.ln]) (fun q => by subst q; exact jnil hat) (jflat hat) jobC_one (by unfold maxLen; omega) (by omega) (by have := lt_blk hg0; omega) ?_
  intro g cap' w' hr hg
  simp only [Nat.zero_add, List.nil_append] at hr ⊢
  exact h g cap' w' hr hg

/-- and one more -/
theorem step_append_job {P : Program} (w : World) {ops : Array Oper} {o : Oper} {a : Act} {K : Act → World → Prop} {Q : Exit → Act → World → Prop} {E : Prop} (hgd : o.guard = none) (s x : Operand) (t e : TypeId)
    (ho : o.op = .call { callee := .builtin .append, args := #[s, x], argTypes := #[t, t] }) (ht : P.underlying t = some (.slice e))
    (hinf : (P.info? e).map (fun i => (i.zero, i.size, i.bytes)) = some (some (.agg #[.int .i64 0, .int .i64 0, .int .i64 0, .int .i64 0, .int .i64 0, .bool false]), 6, 48))
    (base g0 n c0 : Nat) (L : List Jb) (hs : a.eval s = .slice (some ⟨g0, 0, none⟩) n c0) (hown : w.ownsRow base e 6 (.slice (some ⟨g0, 0, none⟩) n c0) n (jobC L))
    (b : Nat) (y : Jb) (hx : a.eval x = .slice (some ⟨b, 0, none⟩) 1 1) (hb : w.heap[b]? = some (.cells #[.int .i64 y.t, .int .i64 y.r, .int .i64 y.d, .int .i64 y.l, .int .i64 y.x, .bool y.s] e (0, 0))) (hlen : n ≤ 64) (hbase : base ≤ w.heap.size)
    (h : ∀ g cap' w', w'.ownsRow base e 6 (.slice (some ⟨g, 0, none⟩) (n + 1) cap') (n + 1) (jobC (L ++ [y])) → w.grownBy w' (some g0) → K (a.put o.dst (.slice (some ⟨g, 0, none⟩) (n + 1) cap')) w') :
    if Region.wanted o (yielded ops a.tmps) = true then Oper.wp P o a w K Q else E := by
  obtain ⟨i0, hi, hz0, hz1, hz2⟩ := info_parts hinf
  refine step_append_any w hgd s x t ho base e i0 _ 6 48 ht hi hz0 hz1 hz2 (by rfl) (by decide) g0 n c0 (jobC L) hs hown (some ⟨b, 0, none⟩) 1 1 [.int .i64 y.t, .int .i64 y.r, .int .i64 y.d, .int .i64 y.l, .int .i64 y.x, .bool y.s] hx (by rfl) (fun q => by cases q) ?_ ?_ (by unfold maxLen; omega) (by omega) hbase ?_
  · intro ad e j u hj
    cases e
    match j, hj with
    | 0, hj => simp at hj; subst hj; simp [Addr.add, World.cell?, hb]
    | 1, hj => simp at hj; subst hj; simp [Addr.add, World.cell?, hb]
    | 2, hj => simp at hj; subst hj; simp [Addr.add, World.cell?, hb]
    | 3, hj => simp at hj; subst hj; simp [Addr.add, World.cell?, hb]
    | 4, hj => simp at hj; subst hj; simp [Addr.add, World.cell?, hb]
    | 5, hj => simp at hj; subst hj; simp [Addr.add, World.cell?, hb]
  · intro u hu
    simp at hu
    rcases hu with rfl | rfl | rfl | rfl | rfl | rfl <;> rfl
  · intro g cap' w' hr hg
    rw [show jobC L ++ [.int .i64 y.t, .int .i64 y.r, .int .i64 y.d, .int .i64 y.l, .int .i64 y.x, .bool y.s] = jobC (L ++ [y]) from by rw [jobC_append]; rfl] at hr
    exact h g cap' w' hr hg

/-- 'append([]int{}, l...)', its order the text's -/
theorem wpList_append_ints {P : Program} (w : World) {ops : Array Oper} {rest : List Oper} {o : Oper} {a : Act} {Q : Exit → Act → World → Prop} (hgd : o.guard = none) (s x : Operand) (t e : TypeId)
    (ho : o.op = .call { callee := .builtin .append, args := #[s, x], argTypes := #[t, t] }) (ht : P.underlying t = some (.slice e))
    (hinf : (P.info? e).map (fun i => (i.zero, i.size, i.bytes)) = some (some (.int .i64 0), 1, 8))
    (base g0 : Nat) (hs : a.eval s = .slice (some ⟨g0, 0, none⟩) 0 0) (hg0 : w.heap[g0]? = some (.cells #[] e (0, 0))) (hb : base ≤ g0)
    (ao : Option Addr) (len cap : Nat) (L : List Int) (hx : a.eval x = .slice ao len cap) (hat : NAt w ao len L)
    (h : ∀ g cap' w', w'.ownsRow base e 1 (.slice (some ⟨g, 0, none⟩) len cap') len (L.map (Value.int .i64)) → w.grownBy w' (some g0) → wpList P ops Q rest (a.put o.dst (.slice (some ⟨g, 0, none⟩) len cap')) w') :
    wpList P ops Q (o :: rest) a w := by
  obtain ⟨i0, hi, hz0, hz1, hz2⟩ := info_parts hinf
  have hby := hat.by'
  refine wpList_plain hgd fun K hK => ?_
  have q := step_append_any (E := False) (ops := ops) (K := K) (Q := Q) w hgd s x t ho base e i0 _ 1 8 ht hi hz0 hz1 hz2 (by rfl) (by decide) g0 0 0 [] hs (ownsRow_none g0 hb hg0) ao len cap (L.map (Value.int .i64)) hx (by rw [List.length_map, hat.at'.1]; omega) (fun q => by subst q; exact hat.none) (nflat hat) none_one (by unfold maxLen; omega) (by omega) (by have := lt_blk hg0; omega) (fun g cap' w' r1 r2 => hK _ _ (by
    simp only [Nat.zero_add, List.nil_append] at r1 ⊢
    exact h g cap' w' r1 r2))
  rw [if_pos (by simp [Region.wanted, hgd])] at q
  exact q

theorem row_base {w : World} {base : Nat} {e : TypeId} {size g n cap : Nat} {xs : List Value} (h : w.ownsRow base e size (.slice (some ⟨g, 0, none⟩) n cap) n xs) : base ≤ g := (h.lt g rfl).1
/-- a number of a row stored anew -/
theorem num_set {w : World} {base g n cap i : Nat} {L : List Int} (h : w.ownsRow base 3 1 (.slice (some ⟨g, 0, none⟩) n cap) n (L.map (Value.int .i64))) (z : Int) :
    (w.setCell ⟨g, i, none⟩ (.int .i64 z)).ownsRow base 3 1 (.slice (some ⟨g, 0, none⟩) n cap) n ((L.set i z).map (Value.int .i64)) := by
  have s := (h.stored i (.int .i64 z)).1
  rwa [← List.map_set] at s
/-- what can be said of its cells -/
theorem num_cell {w : World} {base g n cap i : Nat} {L : List Int} (h : w.ownsRow base 3 1 (.slice (some ⟨g, 0, none⟩) n cap) n (L.map (Value.int .i64))) (hi : i < n) : g < w.heap.size ∧ (∀ j, w.frozen? ⟨g, j, none⟩ = false) ∧ w.cell? ⟨g, i, none⟩ = some (.int .i64 (L.getD i 0)) := by
  have hl : L.length = n := by
    have := h.1
    rw [List.length_map] at this
    omega
  refine ⟨(h.lt g rfl).2, ?_, ?_⟩
  · intro j
    rcases h.2 with ⟨q, _⟩ | ⟨g', cap', cur, e, _, hg, _⟩
    · cases q
    · cases e
      simp [World.frozen?, hg]
  · rw [World.ownsRow.cellAt h i (by omega)]
    simp [List.getD_eq_getElem?_getD, List.getElem?_eq_getElem (show i < L.length by omega)]

end Go.Proofs.Ytaibpanceiapmaa.SK
