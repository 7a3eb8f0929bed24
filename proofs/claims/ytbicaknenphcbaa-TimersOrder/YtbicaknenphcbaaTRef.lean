/- What the document's own lists of timers answer: Without, Set. -/
import Derived.Test.YtbicaknenphcbaaTAns
import Derived.Test.YtbicaknenphcbaaArgs
namespace Go.Proofs.Ytbicaknenphcbaa.HW
open Go.ChangeShapes Go.WideShapes Go.ChangeAt Go.RowKit Go.Proofs.Ytbicaknenphcbaa.HP Go.Maps Go.Proofs.Ytbicaknenphcbaa.HM

/-- the cells of a row of timers -/
def flat3 : List T3 → List Value
  | [] => []
  | e :: r => .int .i64 e.1 :: .int .i64 e.2.1 :: .int .i64 e.2.2 :: flat3 r

def at3 (L : List T3) (i : Nat) : T3 := L.getD i (0, 0, 0)

theorem at3_get {L : List T3} {i : Nat} (h : i < L.length) : at3 L i = L[i] := by simp [at3, h]
theorem at3_mem {L : List T3} {i : Nat} (h : i < L.length) : at3 L i ∈ L := by rw [at3_get h]; exact List.getElem_mem h

theorem flat3_len : ∀ L : List T3, (flat3 L).length = L.length * 3
  | [] => rfl
  | e :: r => by simp [flat3, flat3_len r]; omega
theorem flat3_append : ∀ (L M : List T3), flat3 (L ++ M) = flat3 L ++ flat3 M
  | [], M => rfl
  | e :: r, M => by simp [flat3, flat3_append r M]
theorem flat3_get : ∀ (L : List T3) (i : Nat), i < L.length → (flat3 L)[i * 3]? = some (.int .i64 (at3 L i).1) ∧ (flat3 L)[i * 3 + 1]? = some (.int .i64 (at3 L i).2.1) ∧ (flat3 L)[i * 3 + 2]? = some (.int .i64 (at3 L i).2.2)
  | [], i, h => by simp at h
  | e :: r, 0, _ => by simp [flat3, at3]
  | e :: r, i + 1, h => by
    have := flat3_get r i (by simpa using h)
    rw [show (i + 1) * 3 = i * 3 + 1 + 1 + 1 from by omega]
    simp only [flat3, List.getElem?_cons_succ]
    simpa [at3] using this

theorem tim_info : (Try.prog.info? 41).map (fun i => (i.zero, i.size, i.bytes)) = some (some (.agg #[.int .i64 0, .int .i64 0, .int .i64 0]), 3, 24) := by kernel_rfl

/-- 'append' of one timer to a row that is the call's own -/
theorem wpList_append_triple {P : Program} (w : World) {ops : Array Oper} {rest : List Oper} {o : Oper} {a : Act} {Q : Exit → Act → World → Prop} (hgd : o.guard = none) (s x : Operand) (t e : TypeId)
    (ho : o.op = .call { callee := .builtin .append, args := #[s, x], argTypes := #[t, t] }) (ht : P.underlying t = some (.slice e))
    (hinf : (P.info? e).map (fun i => (i.zero, i.size, i.bytes)) = some (some (.agg #[.int .i64 0, .int .i64 0, .int .i64 0]), 3, 24))
    (base : Nat) (v : Value) (L : List T3) (hs : a.eval s = v) (hown : w.ownsRow base e 3 v L.length (flat3 L))
    (b : Nat) (id x1 x2 : Int) (hx : a.eval x = .slice (some ⟨b, 0, none⟩) 1 1) (hb : w.heap[b]? = some (.cells #[.int .i64 id, .int .i64 x1, .int .i64 x2] e (0, 0)))
    (hlen : L.length + 1 ≤ 5864062014805) (hbase : base ≤ w.heap.size)
    (h : ∀ g cap w', w'.ownsRow base e 3 (.slice (some ⟨g, 0, none⟩) (L.length + 1) cap) (L.length + 1) (flat3 (L ++ [(id, x1, x2)])) → w.grownBy w' v.ownBlock → wpList P ops Q rest (a.put o.dst (.slice (some ⟨g, 0, none⟩) (L.length + 1) cap)) w') :
    wpList P ops Q (o :: rest) a w := by
  obtain ⟨i0, hi, hz0, hz1, hz2⟩ := info_parts hinf
  refine wpList_append_own_at _ hgd s x t ho base e i0 _ 3 24 ht hi hz0 hz1 hz2 (by rfl) (by decide) v L.length (flat3 L) hs hown ⟨b, 0, none⟩ 1 1 [.int .i64 id, .int .i64 x1, .int .i64 x2] hx (by rfl) ?_ ?_ (by unfold maxLen; omega) (by omega) hbase ?_
  · intro j u hj
    match j, hj with
    | 0, hj => simp at hj; subst hj; simp [Addr.add, World.cell?, hb]
    | 1, hj => simp at hj; subst hj; simp [Addr.add, World.cell?, hb]
    | 2, hj => simp at hj; subst hj; simp [Addr.add, World.cell?, hb]
  · intro u hu
    simp at hu
    rcases hu with rfl | rfl | rfl <;> rfl
  · intro v' w' ho' hg hnil hloc
    rcases ho'.2 with ⟨_, hz⟩ | ⟨g, cap, cur, rfl, hbg, hgg, r⟩
    · omega
    · refine h g cap w' ?_ hg
      rw [flat3_append]; exact ho'

/-- the slice v has the timers L; its row lies from base on -/
structure Lst3 (w : World) (base : Nat) (v : Value) (L : List T3) : Prop where
  row : w.ownsRow base 41 3 v L.length (flat3 L)
  len : L.length ≤ 5864062014805

theorem Lst3.cases {w : World} {base : Nat} {v : Value} {L : List T3} (h : Lst3 w base v L) : (v = .slice none 0 0 ∧ L = []) ∨ ∃ g cap, v = .slice (some ⟨g, 0, none⟩) L.length cap ∧ base ≤ g ∧ g < w.heap.size ∧ ∀ i, i < L.length → w.cell? ⟨g, i * 3, none⟩ = some (.int .i64 (at3 L i).1) ∧ w.cell? ⟨g, i * 3 + 1, none⟩ = some (.int .i64 (at3 L i).2.1) ∧ w.cell? ⟨g, i * 3 + 2, none⟩ = some (.int .i64 (at3 L i).2.2) := by
  rcases h.row.2 with ⟨hv, hn⟩ | ⟨g, cap, cur, rfl, hb, hg, r⟩
  · exact .inl ⟨hv, List.length_eq_zero_iff.1 hn⟩
  · refine .inr ⟨g, cap, rfl, hb, lt_of_block hg, fun i hi => ?_⟩
    rw [h.row.cellAt (i * 3) (by omega), h.row.cellAt (i * 3 + 1) (by omega), h.row.cellAt (i * 3 + 2) (by omega)]
    exact flat3_get L i hi

theorem lst3_nil (w : World) (base : Nat) : Lst3 w base (.slice none 0 0) [] := ⟨World.ownsRow_nil _ _ _ _, by simp⟩

theorem Lst3.kept {A : Nat → Prop} {w w' : World} {base : Nat} {v : Value} {L : List T3} (h : Lst3 w base v L) (hs : Step A w w') (hA : ∀ k, v.ownBlock = some k → ¬ A k) : Lst3 w' base v L := ⟨row_kept hs h.row hA, h.len⟩

theorem dropT_snoc (L : List T3) (x : T3) (id : Int) : dropT (L ++ [x]) id = dropT L id ++ (if x.1 = id then [] else [x]) := by
  unfold dropT
  rw [List.filter_append, List.filter_cons, List.filter_nil]
  by_cases h : x.1 = id <;> simp [h]
theorem take_snoc3 {L : List T3} {k : Nat} (h : k < L.length) : L.take (k + 1) = L.take k ++ [at3 L k] := by
  rw [List.take_succ_eq_append_getElem h, at3_get h]
theorem dropT_take_hit {L : List T3} {k : Nat} (h : k < L.length) {id : Int} (he : (at3 L k).1 = id) : dropT (L.take (k + 1)) id = dropT (L.take k) id := by
  rw [take_snoc3 h, dropT_snoc, if_pos he, List.append_nil]
theorem dropT_take_miss {L : List T3} {k : Nat} (h : k < L.length) {id : Int} (he : (at3 L k).1 ≠ id) : dropT (L.take (k + 1)) id = dropT (L.take k) id ++ [at3 L k] := by
  rw [take_snoc3 h, dropT_snoc, if_neg he]

/-- an append to a row that is new -/
theorem step_own {w wr w2 : World} {e : TypeId} {size n : Nat} {v : Value} {xs : List Value} {o : Obj} (h : Step (fun _ => False) w wr) (ho : wr.ownsRow w.heap.size e size v n xs) (hg : (wr.alloc o).grownBy w2 v.ownBlock) : Step (fun _ => False) w w2 := by
  have h1 : Step (fun k => v.ownBlock = some k) wr w2 := ((Step.refl _ wr).alloc o).grown hg (fun k hk => hk)
  refine ⟨h1.os.trans h.os, h1.tape.trans h.tape, h1.output.trans h.output, Nat.le_trans h.size h1.size, fun k hk _ => ?_⟩
  rw [h1.block k (Nat.lt_of_lt_of_le hk h.size) (fun q => by have := (ho.lt k q).1; omega)]
  exact h.block k hk (fun q => q)

set_option maxHeartbeats 2000000 in
theorem without_any (v : Value) (L : List T3) (id : Int) (base : Nat) (w : World) (h : Lst3 w base v L) :
    Calls Try.prog 12 #[v, .int .i64 id] w fun e w' => ∃ v', e = .returned v' ∧ Lst3 w' w.heap.size v' (dropT L id) ∧ Step (fun _ => False) w w' := by
  rcases h.cases with ⟨rfl, rfl⟩ | ⟨g, cap, rfl, _, hg, hc⟩
  · have hn : Lst3 w w.heap.size (.slice none 0 0) (dropT [] id) := lst3_nil _ _
    go_enter Try.func12, Try.ntmps12
    go_wp2
    refine wp_loop_rounds 1 ?_
    rw [rounds_succ]
    go_wp2
    go_ret
    exact ⟨_, rfl, hn, Step.refl _ _⟩
  · have hlen := h.len
    go_enter Try.func12, Try.ntmps12
    go_wp2
    go_loopw [5, 6] (fun v i wr => ∃ k : Nat, k ≤ L.length ∧ i = .int .i64 k ∧ wr.ownsRow w.heap.size 41 3 v (dropT (L.take k) id).length (flat3 (dropT (L.take k) id)) ∧ Step (fun _ => False) w wr) (fun _ i _ => L.length - (intOf i).toNat)
    case atStart => exact ⟨0, Nat.zero_le _, rfl, World.ownsRow_nil _ _ _ _, Step.refl _ _⟩
    case round =>
      obtain ⟨k, hk, rfl, hown, hst⟩ := hrel
      by_cases hlt : k < L.length
      · have hlt' : (k : Int) < (L.length : Int) := by omega
        have cc := hc k hlt
        have c0 : wr.cell? ⟨g, k * 3, none⟩ = some (.int .i64 (at3 L k).1) := by rw [World.cell?_of_block (w := w) (hst.block g hg (fun q => q))]; exact cc.1
        have c1 : wr.cell? ⟨g, k * 3 + 1, none⟩ = some (.int .i64 (at3 L k).2.1) := by rw [World.cell?_of_block (w := w) (hst.block g hg (fun q => q))]; exact cc.2.1
        have c2 : wr.cell? ⟨g, k * 3 + 2, none⟩ = some (.int .i64 (at3 L k).2.2) := by rw [World.cell?_of_block (w := w) (hst.block g hg (fun q => q))]; exact cc.2.2
        clear cc
        by_cases he : (at3 L k).1 = id
        · have hb : ((at3 L k).1 == id) = true := by simp [he]
          have HD : Hid (dropT (L.take (k + 1)) id = dropT (L.take k) id) := dropT_take_hit hlt he
          clear he
          go_wp2
          go_roundw
          case rel => exact ⟨k + 1, by omega, by go_num, by rw [HD.out]; exact hown, hst⟩
          case measure => simp [intOf]; omega
        · have hb : ((at3 L k).1 == id) = false := by simpa using he
          have HD : Hid (dropT (L.take (k + 1)) id = dropT (L.take k) id ++ [at3 L k]) := dropT_take_miss hlt he
          have hle : (dropT (L.take k) id).length + 1 ≤ 5864062014805 := by
            have h1 := dropT_le (L.take k) id
            rw [List.length_take] at h1
            omega
          clear he
          go_wp2_with (first
            | (at_builtin; refine wpList_append_triple _ rfl _ _ 25 41 rfl Try.underlying25 tim_info w.heap.size u5 (dropT (L.take k) id) rfl (by exact hown.alloc _) wr.heap.size (at3 L k).1 (at3 L k).2.1 (at3 L k).2.2 rfl (by exact heap_alloc_new wr _) hle (by have := hst.size; simp; omega) ?_; intro g' cap' w2 row2 hg2)
            | fail)
          have hs2 := step_own hst hown hg2
          go_roundw
          case rel => exact ⟨k + 1, by omega, by go_num, by rw [HD.out, List.length_append]; exact row2, hs2⟩
          case measure => simp [intOf]; omega
      · have hlt' : ¬ (k : Int) < (L.length : Int) := by omega
        have HD : Hid (L.take k = L) := List.take_of_length_le (by omega)
        go_wp2
        go_ret
        exact ⟨_, rfl, ⟨by rw [HD.out] at hown; exact hown, Nat.le_trans (dropT_le L id) hlen⟩, hst⟩

set_option maxHeartbeats 2000000 in
theorem refset_any (v : Value) (L : List T3) (id a ev : Int) (base : Nat) (w : World) (h : Lst3 w base v L) (hl : (dropT L id).length + 1 ≤ 5864062014805) :
    Calls Try.prog 11 #[v, .int .i64 id, .int .i64 a, .int .i64 ev] w fun e w' => ∃ v', e = .returned v' ∧ Lst3 w' w.heap.size v' (setT L id a ev) ∧ Step (fun _ => False) w w' := by
  have HL : Hid ((setT L id a ev).length = (dropT L id).length + 1) := by show _ = _; simp [setT]
  have HS : Hid (setT L id a ev = dropT L id ++ [(id, capN a, ev)]) := rfl
  generalize setT L id a ev = S at HL HS ⊢
  by_cases hc : a ≤ 1099511627776
  · rw [capN_id hc] at HS
    go_enter Try.func11, Try.ntmps11
    go_wp2_with (first
      | (go_at_call 12; refine (without_any v L id base _ h).mono ?_; rintro e w1 ⟨v1, rfl, h1, s1⟩; have hrow := h1.row)
      | (at_builtin; refine wpList_append_triple _ rfl _ _ 25 41 rfl Try.underlying25 tim_info w.heap.size v1 (dropT L id) rfl (by exact hrow.alloc _) w1.heap.size id _ ev rfl (by exact heap_alloc_new w1 _) hl (by have := s1.size; simp; omega) ?_; intro g cap w2 row2 hg2)
      | fail)
    have s2 := step_own s1 hrow hg2
    go_ret
    exact ⟨_, rfl, ⟨by rw [HL.out, HS.out]; exact row2, by rw [HL.out]; exact hl⟩, s2⟩
  · have hq : capN a = 1099511627776 := by unfold capN; rw [if_neg hc]
    rw [hq] at HS
    go_enter Try.func11, Try.ntmps11
    go_wp2_with (first
      | (go_at_call 12; refine (without_any v L id base _ h).mono ?_; rintro e w1 ⟨v1, rfl, h1, s1⟩; have hrow := h1.row)
      | (at_builtin; refine wpList_append_triple _ rfl _ _ 25 41 rfl Try.underlying25 tim_info w.heap.size v1 (dropT L id) rfl (by exact hrow.alloc _) w1.heap.size id _ ev rfl (by exact heap_alloc_new w1 _) hl (by have := s1.size; simp; omega) ?_; intro g cap w2 row2 hg2)
      | fail)
    have s2 := step_own s1 hrow hg2
    go_ret
    exact ⟨_, rfl, ⟨by rw [HL.out, HS.out]; exact row2, by rw [HL.out]; exact hl⟩, s2⟩

end Go.Proofs.Ytbicaknenphcbaa.HW
