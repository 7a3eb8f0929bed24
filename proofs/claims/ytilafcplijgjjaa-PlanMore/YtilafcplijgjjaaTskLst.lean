/- Lists of tasks that are the call's own: an append of a whole list, of one task; ceilings of a longer list. -/
import Derived.Test.YtilafcplijgjjaaTskCel
import Derived.Test.YtilafcplijgjjaaTskRow
import Derived.Deep.AppendLies
import Derived.Laws.OwnMore
namespace Go.Proofs.Ytilafcplijgjjaa.TK
open Go.ChangeShapes Go.WideShapes Go.ChangeAt Go.RowKit Go.Proofs.Ytilafcplijgjjaa.AR Go.Proofs.Ytilafcplijgjjaa.TB

/-- 'append(s, x...)' of nothing -/
theorem run_append_nothing {P : Program} {w : World} (base : Nat) (t ty e : TypeId) (i : TypeInfo) (size : Nat) (ht : P.underlying t = some (.slice e)) (hi : P.info? e = some i)
    (v : Value) (n c : Nat) (xs : List Value) (hown : w.ownsRow base e size v n xs) :
    (Builtin.append_ #[t, t] ty #[v, .slice none 0 c]).run P w = .ok v w := by
  rcases hown.2 with ⟨rfl, rfl⟩ | ⟨g, cap, cur, rfl, _, _, hnc, _⟩
  · simp [Builtin.append_, run_underlying ht, sizeOf, typeInfo, hi, Builtin.lenOf, Builtin.firstCells]
  · simp [Builtin.append_, run_underlying ht, sizeOf, typeInfo, hi, Builtin.lenOf, Builtin.firstCells, hnc, storeCells]

/-- an append of whatever list to a row of the call's own, at a step of a region that draws its order (where it is wanted) -/
theorem step_append_wanted {P : Program} (w : World) {ops : Array Oper} {o : Oper} {a : Act} {K : Act → World → Prop} {Q : Exit → Act → World → Prop} {E : Prop} (hw : Region.wanted o (yielded ops a.tmps) = true) (s x : Operand) (t : TypeId)
    (ho : o.op = .call { callee := .builtin .append, args := #[s, x], argTypes := #[t, t] })
    (base : Nat) (e : TypeId) (i : TypeInfo) (z : Value) (size bytes : Nat) (ht : P.underlying t = some (.slice e)) (hi : P.info? e = some i) (hz : i.zero = some z)
    (hsize : i.size = size) (hby : i.bytes = bytes) (hzs : z.cells.size = size) (hsz : 0 < size)
    (g0 n c0 : Nat) (xs : List Value) (hs : a.eval s = .slice (some ⟨g0, 0, none⟩) n c0) (hown : w.ownsRow base e size (.slice (some ⟨g0, 0, none⟩) n c0) n xs)
    (ao : Option Addr) (m c : Nat) (news : List Value) (hx : a.eval x = .slice ao m c) (hl : news.length = m * size) (hn : ao = none → m = 0) (hnews : ∀ ad, ao = some ad → ∀ j u, news[j]? = some u → w.cell? (ad.add j) = some u) (h1 : ∀ u ∈ news, u.oneCell' = true)
    (h63 : n + m ≤ maxLen) (hbytes : (n + m) * bytes ≤ 140737488355328) (hbase : base ≤ w.heap.size)
    (h : ∀ g cap w', w'.ownsRow base e size (.slice (some ⟨g, 0, none⟩) (n + m) cap) (n + m) (xs ++ news) → w.grownBy w' (some g0) → K (a.put o.dst (.slice (some ⟨g, 0, none⟩) (n + m) cap)) w') :
    if Region.wanted o (yielded ops a.tmps) = true then Oper.wp P o a w K Q else E := by
  rw [if_pos hw]
  cases ao with
  | none =>
    obtain rfl : m = 0 := hn rfl
    have hnil : news = [] := List.eq_nil_of_length_eq_zero (by simpa using hl)
    subst hnil
    have hrun := run_append_nothing (P := P) (w := w) base t o.type e i size ht hi _ n c xs hown
    unfold Oper.wp execOp
    simp only [ho, resolve, invoke, builtin, Sem.run_bind, Sem.run_pure, Result.andThen_ok, List.map_toArray, List.map_cons, List.map_nil, hs, hx, hrun]
    have := h g0 c0 w (by simpa using hown) ⟨rfl, rfl, rfl, Nat.le_refl _, fun _ _ _ => rfl⟩
    have h' : K (a.put o.dst (.slice (some ⟨g0, 0, none⟩) n c0)) w := by simpa using this
    exact h'
  | some ad =>
    obtain ⟨v', w', hr, h2, h3, h4, h5⟩ := run_append_own_at (P := P) w base t o.type e i z size bytes ht hi hz hsize hby hzs hsz _ n xs hown ad m c news hl (hnews ad rfl) h1 h63 hbytes hbase
    unfold Oper.wp execOp
    simp only [ho, resolve, invoke, builtin, Sem.run_bind, Sem.run_pure, Result.andThen_ok, List.map_toArray, List.map_cons, List.map_nil, hs, hx, hr]
    rcases h2.2 with ⟨q, _⟩ | ⟨g, cap, cur, rfl, r⟩
    · have := (h4.1 q).1
      cases this
    · exact h g cap w' h2 h3

/-- the same, without a guard -/
theorem step_append_any {P : Program} (w : World) {ops : Array Oper} {o : Oper} {a : Act} {K : Act → World → Prop} {Q : Exit → Act → World → Prop} {E : Prop} (hgd : o.guard = none) (s x : Operand) (t : TypeId)
    (ho : o.op = .call { callee := .builtin .append, args := #[s, x], argTypes := #[t, t] })
    (base : Nat) (e : TypeId) (i : TypeInfo) (z : Value) (size bytes : Nat) (ht : P.underlying t = some (.slice e)) (hi : P.info? e = some i) (hz : i.zero = some z)
    (hsize : i.size = size) (hby : i.bytes = bytes) (hzs : z.cells.size = size) (hsz : 0 < size)
    (g0 n c0 : Nat) (xs : List Value) (hs : a.eval s = .slice (some ⟨g0, 0, none⟩) n c0) (hown : w.ownsRow base e size (.slice (some ⟨g0, 0, none⟩) n c0) n xs)
    (ao : Option Addr) (m c : Nat) (news : List Value) (hx : a.eval x = .slice ao m c) (hl : news.length = m * size) (hn : ao = none → m = 0) (hnews : ∀ ad, ao = some ad → ∀ j u, news[j]? = some u → w.cell? (ad.add j) = some u) (h1 : ∀ u ∈ news, u.oneCell' = true)
    (h63 : n + m ≤ maxLen) (hbytes : (n + m) * bytes ≤ 140737488355328) (hbase : base ≤ w.heap.size)
    (h : ∀ g cap w', w'.ownsRow base e size (.slice (some ⟨g, 0, none⟩) (n + m) cap) (n + m) (xs ++ news) → w.grownBy w' (some g0) → K (a.put o.dst (.slice (some ⟨g, 0, none⟩) (n + m) cap)) w') :
    if Region.wanted o (yielded ops a.tmps) = true then Oper.wp P o a w K Q else E :=
  step_append_wanted w (by simp [Region.wanted, hgd]) s x t ho base e i z size bytes ht hi hz hsize hby hzs hsz g0 n c0 xs hs hown ao m c news hx hl hn hnews h1 h63 hbytes hbase h

/-- a new list without elements -/
theorem ownsRow_none {w : World} {base : Nat} {e : TypeId} {size : Nat} (g : Nat) (hb : base ≤ g) (hg : w.heap[g]? = some (.cells #[] e (0, 0))) : w.ownsRow base e size (.slice (some ⟨g, 0, none⟩) 0 0) 0 [] :=
  ⟨by simp, .inr ⟨g, 0, #[], rfl, hb, hg, Nat.le_refl _, Nat.zero_le _, by simp, by simp⟩⟩

theorem ownsRow_kp {w w' : World} {base : Nat} {e : TypeId} {size g n cap : Nat} {xs : List Value} (h : w.ownsRow base e size (.slice (some ⟨g, 0, none⟩) n cap) n xs) (k : Kp w w') : w'.ownsRow base e size (.slice (some ⟨g, 0, none⟩) n cap) n xs := by
  refine ⟨h.1, ?_⟩
  rcases h.2 with q | ⟨g', cap', cur, hv, hb, hg, r⟩
  · exact .inl q
  · exact .inr ⟨g', cap', cur, hv, hb, kp_block hg k, r⟩

/-- what an append leaves, where its row is newer than w -/
theorem kp_grown {w V V' : World} {g0 : Nat} (k : Kp w V) (h : V.grownBy V' (some g0)) (hg : w.heap.size ≤ g0) : Kp w V' := by
  refine ⟨h.os.trans k.os, h.tape.trans k.tape, h.output.trans k.output, Nat.le_trans k.size h.size, fun b hb => ?_⟩
  exact (h.block b (Nat.lt_of_lt_of_le hb k.size) (fun q => by cases q; omega)).trans (k.block b hb)

/-- a block that is not the row stays -/
theorem grown_block {V V' : World} {g0 b : Nat} {o : Obj} (h : V.grownBy V' (some g0)) (hb : V.heap[b]? = some o) (hne : b ≠ g0) : V'.heap[b]? = some o :=
  (h.block b (lt_blk hb) (fun q => by cases q; exact hne rfl)).trans hb

/-- the cells of a list of tasks -/
def flat4 : List Tk → List Value
  | [] => []
  | t :: L => t.cell 0 :: t.cell 1 :: t.cell 2 :: t.cell 3 :: flat4 L
theorem flat4_len : ∀ L : List Tk, (flat4 L).length = L.length * 4
  | [] => rfl
  | t :: L => by simp only [flat4, List.length_cons, flat4_len L]; omega
theorem flat4_append : ∀ L M : List Tk, flat4 (L ++ M) = flat4 L ++ flat4 M
  | [], M => rfl
  | t :: L, M => by simp [flat4, flat4_append L M]
theorem flat4_at : ∀ (L : List Tk) (i j : Nat) (t : Tk), L[i]? = some t → j < 4 → (flat4 L)[i * 4 + j]? = some (t.cell j)
  | [], i, j, t, h, _ => by simp at h
  | u :: L, 0, j, t, h, hj => by
    simp only [List.getElem?_cons_zero, Option.some.injEq] at h
    subst h
    match j, hj with
    | 0, _ => simp [flat4]
    | 1, _ => simp [flat4]
    | 2, _ => simp [flat4]
    | 3, _ => simp [flat4]
  | u :: L, i + 1, j, t, h, hj => by
    simp only [List.getElem?_cons_succ] at h
    have := flat4_at L i j t h hj
    rw [show (i + 1) * 4 + j = (i * 4 + j) + 1 + 1 + 1 + 1 from by omega]
    simpa [flat4] using this
theorem flat4_cases {L : List Tk} {q : Nat} {v : Value} (h : (flat4 L)[q]? = some v) : ∃ i j t, q = i * 4 + j ∧ j < 4 ∧ L[i]? = some t ∧ v = t.cell j := by
  have hq : q < L.length * 4 := by
    have := (List.getElem?_eq_some_iff.1 h).1
    rw [flat4_len] at this
    exact this
  have hi : q / 4 < L.length := by omega
  have hg : L[q / 4]? = some L[q / 4] := List.getElem?_eq_getElem hi
  have e : q = q / 4 * 4 + q % 4 := by omega
  refine ⟨q / 4, q % 4, L[q / 4], e, by omega, hg, ?_⟩
  have h2 := flat4_at L (q / 4) (q % 4) _ hg (by omega)
  rw [← e] at h2
  rw [h2] at h
  cases h
  rfl
theorem flat4_one {L : List Tk} : ∀ v ∈ flat4 L, v.oneCell' = true := by
  intro v hv
  obtain ⟨q, hq, e⟩ := List.mem_iff_getElem.1 hv
  obtain ⟨i, j, t, _, hj, _, rfl⟩ := flat4_cases (List.getElem?_eq_some_iff.2 ⟨hq, e⟩)
  match j, hj with
  | 0, _ => rfl
  | 1, _ => rfl
  | 2, _ => rfl
  | 3, _ => rfl

/-- the cells of a list that came in -/
theorem LAt.flat {w : World} {ao : Option Addr} {len : Nat} {L : List Tk} (h : LAt w ao len L) : ∀ ad, ao = some ad → ∀ j u, (flat4 L)[j]? = some u → w.cell? (ad.add j) = some u := by
  intro ad e j u hj
  obtain ⟨i, q, t, rfl, hq, hi, rfl⟩ := flat4_cases hj
  have hl : i < len := by rw [← h.ln]; exact (List.getElem?_eq_some_iff.1 hi).1
  rcases h.row with h0 | ⟨b, off, e', _, hc⟩
  · omega
  · rw [e] at e'
    cases e'
    rw [add_plain, ← hc i q t hi hq]
    congr 2
    omega

theorem LAt.nil {w : World} {len : Nat} {L : List Tk} (h : LAt w none len L) : len = 0 := by
  rcases h.row with h0 | ⟨b, off, e, _⟩
  · exact h0
  · cases e

/-- a row of the call's own, as a list of tasks -/
theorem lat_of_row {w : World} {base g n cap : Nat} {L : List Tk} (h : w.ownsRow base 39 4 (.slice (some ⟨g, 0, none⟩) n cap) n (flat4 L)) (ht : ∀ t ∈ L, TAt w t) (hb : n * 64 ≤ 281474976710656) : LAt w (some ⟨g, 0, none⟩) n L := by
  have hl : L.length = n := by
    have := h.1
    rw [flat4_len] at this
    omega
  refine ⟨hl, ht, .inr ⟨g, 0, rfl, ?_, fun i j t hi hj => ?_⟩, hb⟩
  · rcases h.2 with ⟨q, _⟩ | ⟨g', cap', cur, e, _, hg, _⟩
    · cases q
    · cases e
      exact lt_blk hg
  · have hil : i < n := by rw [← hl]; exact (List.getElem?_eq_some_iff.1 hi).1
    rw [show 0 + i * 4 + j = i * 4 + j from by omega, World.ownsRow.cellAt h (i * 4 + j) (by omega)]
    exact flat4_at L i j t hi hj

/-! ### ceilings -/

theorem cel_pre {L M : List Tk} {s : Int} : ∀ {k : Nat}, k ≤ L.length → cel (L ++ M) s k = cel L s k
  | 0, _ => rfl
  | k + 1, h => by
    have e : (L ++ M)[k]? = L[k]? := List.getElem?_append_left (by omega)
    simp only [cel, e, cel_pre (L := L) (M := M) (s := s) (k := k) (by omega)]

theorem cel_le {L : List Tk} {s : Int} {i : Nat} {t : Tk} (hi : L[i]? = some t) (hu : usB t s = true) : ∀ {n : Nat}, i < n → cel L s n ≤ t.p
  | n + 1, h => by
    by_cases hin : i < n
    · exact Int.le_trans (cel_fall n) (cel_le hi hu hin)
    · obtain rfl : i = n := by omega
      by_cases hp : t.p < cel L s i
      · rw [cel_less hi hu hp]; exact Int.le_refl _
      · rw [cel_stay hi hp]; omega

theorem cel_is {L : List Tk} {s : Int} : ∀ {n : Nat}, cel L s n = 1099511627776 ∨ ∃ i t, i < n ∧ L[i]? = some t ∧ usB t s = true ∧ t.p = cel L s n
  | 0 => .inl rfl
  | n + 1 => by
    cases h : L[n]? with
    | none =>
      have e : cel L s (n + 1) = cel L s n := by simp [cel, h]
      rw [e]
      rcases cel_is (L := L) (s := s) (n := n) with q | ⟨i, t, h1, h2, h3, h4⟩
      · exact .inl q
      · exact .inr ⟨i, t, by omega, h2, h3, h4⟩
    | some u =>
      cases hu : usB u s with
      | false =>
        rw [cel_not h hu]
        rcases cel_is (L := L) (s := s) (n := n) with q | ⟨i, t, h1, h2, h3, h4⟩
        · exact .inl q
        · exact .inr ⟨i, t, by omega, h2, h3, h4⟩
      | true =>
        by_cases hp : u.p < cel L s n
        · rw [cel_less h hu hp]
          exact .inr ⟨n, u, by omega, h, hu, rfl⟩
        · rw [cel_stay h hp]
          rcases cel_is (L := L) (s := s) (n := n) with q | ⟨i, t, h1, h2, h3, h4⟩
          · exact .inl q
          · exact .inr ⟨i, t, by omega, h2, h3, h4⟩

/-- one task more -/
theorem cel_one {L : List Tk} {t : Tk} {s : Int} : cel (L ++ [t]) s (L.length + 1) ≤ cel L s L.length ∧ (cel (L ++ [t]) s (L.length + 1) = cel L s L.length ∨ usB t s = true ∧ cel (L ++ [t]) s (L.length + 1) = t.p) := by
  have e : (L ++ [t])[L.length]? = some t := by simp
  have p : cel (L ++ [t]) s L.length = cel L s L.length := cel_pre (Nat.le_refl _)
  refine ⟨by rw [← p]; exact cel_fall _, ?_⟩
  cases hu : usB t s with
  | false => rw [cel_not e hu, p]; exact .inl rfl
  | true =>
    by_cases hp : t.p < cel (L ++ [t]) s L.length
    · rw [cel_less e hu hp]; exact .inr ⟨rfl, rfl⟩
    · rw [cel_stay e hp, p]; exact .inl rfl

end Go.Proofs.Ytilafcplijgjjaa.TK
