/- What the document's own lists answer: Drop, Push, the key of an id, the first one. -/
import Derived.Test.YtldinhemgmnppaaAns
namespace Go.Proofs.Ytldinhemgmnppaa.HW
open Go.ChangeShapes Go.WideShapes Go.ChangeAt Go.RowKit Go.Proofs.Ytldinhemgmnppaa.HP Go.Maps Go.Proofs.Ytldinhemgmnppaa.HM

theorem item_info : (Try.prog.info? 42).map (fun i => (i.zero, i.size, i.bytes)) = some (some (.agg #[.int .i64 0, .int .i64 0]), 2, 16) := by kernel_rfl

/-- the slice v has the pairs l; its row lies from base on -/
structure Lst (w : World) (base : Nat) (v : Value) (l : List E) : Prop where
  row : w.ownsRow base 42 2 v l.length (flat l)
  len : l.length ≤ 8796093022208

theorem Lst.cases {w : World} {base : Nat} {v : Value} {l : List E} (h : Lst w base v l) : (v = .slice none 0 0 ∧ l = []) ∨ ∃ g cap, v = .slice (some ⟨g, 0, none⟩) l.length cap ∧ base ≤ g ∧ g < w.heap.size ∧ (∀ i, i < l.length → w.cell? ⟨g, i * 2, none⟩ = some (.int .i64 (at' l i).1) ∧ w.cell? ⟨g, i * 2 + 1, none⟩ = some (.int .i64 (at' l i).2)) ∧ ∀ i, w.frozen? ⟨g, i, none⟩ = false := by
  rcases h.row.2 with ⟨hv, hn⟩ | ⟨g, cap, cur, rfl, hb, hg, r⟩
  · exact .inl ⟨hv, List.length_eq_zero_iff.1 hn⟩
  · refine .inr ⟨g, cap, rfl, hb, lt_of_block hg, fun i hi => ?_, fun i => h.row.frozenAt i⟩
    rw [h.row.cellAt (i * 2) (by omega), h.row.cellAt (i * 2 + 1) (by omega)]
    exact flat_get l i hi

theorem lst_nil (w : World) (base : Nat) : Lst w base (.slice none 0 0) [] := ⟨World.ownsRow_nil _ _ _ _, by simp⟩

theorem Lst.kept {A : Nat → Prop} {w w' : World} {base : Nat} {v : Value} {l : List E} (h : Lst w base v l) (hs : Step A w w') (hA : ∀ k, v.ownBlock = some k → ¬ A k) : Lst w' base v l := ⟨row_kept hs h.row hA, h.len⟩

/-- the key of an id, or 0 -/
def keyV : List E → Int → Int
  | [], _ => 0
  | e :: r, id => if e.1 = id then e.2 else keyV r id

theorem keyV_at : ∀ (l : List E) (id : Int) (k : Nat), k < l.length → (∀ j, j < k → (at' l j).1 ≠ id) → (at' l k).1 = id → keyV l id = (at' l k).2
  | [], _, k, h, _, _ => by simp at h
  | e :: r, id, 0, _, _, he => by simp [at'] at he; simp [keyV, he, at']
  | e :: r, id, k + 1, h, hj, he => by
    have h0 : e.1 ≠ id := by simpa [at'] using hj 0 (by omega)
    simp only [keyV, if_neg h0]
    rw [keyV_at r id k (by simpa using h) (fun j hj' => by simpa [at'] using hj (j + 1) (by omega)) (by simpa [at'] using he)]
    simp [at']
theorem keyV_none : ∀ (l : List E) (id : Int), id ∉ ids l → keyV l id = 0
  | [], _, _ => rfl
  | e :: r, id, h => by
    simp only [ids, List.map_cons, List.mem_cons, not_or] at h
    simp only [keyV, if_neg (Ne.symm h.1)]
    exact keyV_none r id h.2
theorem keyV_mem : ∀ (l : List E) (id : Int), id ∈ ids l → (id, keyV l id) ∈ l
  | [], _, h => by simp [ids] at h
  | e :: r, id, h => by
    by_cases h0 : e.1 = id
    · simp only [keyV, if_pos h0]; rw [← h0]; exact List.mem_cons_self
    · simp only [keyV, if_neg h0]
      simp only [ids, List.map_cons, List.mem_cons] at h
      exact List.mem_cons_of_mem _ (keyV_mem r id (h.resolve_left (Ne.symm h0)))
theorem not_ids {l : List E} {id : Int} (h : ∀ j, j < l.length → (at' l j).1 ≠ id) : id ∉ ids l := by
  intro q
  obtain ⟨e, he, rfl⟩ := List.mem_map.1 q
  obtain ⟨i, hi, rfl⟩ := List.getElem_of_mem he
  exact h i hi (by rw [at_get hi])

set_option maxHeartbeats 1000000 in
theorem key_any (v : Value) (l : List E) (id : Int) (base : Nat) (w : World) (h : Lst w base v l) :
    Calls Try.prog 9 #[v, .int .i64 id] w fun e w' => e = .returned (.tuple #[.int .i64 (keyV l id), .bool (decide (id ∈ ids l))]) ∧ w' = w := by
  rcases h.cases with ⟨rfl, rfl⟩ | ⟨g, cap, rfl, _, _, hc, _⟩
  · go_enter Try.func9, Try.ntmps9
    go_wp2
    refine wp_loop_rounds 1 ?_
    rw [rounds_succ]
    go_wp2
    go_ret2
    exact ⟨by simp [keyV, ids], rfl⟩
  · have hlen := h.len
    have hfin : ∀ k, k < l.length → (∀ j, j < k → (at' l j).1 ≠ id) → (at' l k).1 = id → keyV l id = (at' l k).2 ∧ decide (id ∈ ids l) = true := fun k hk hj he =>
      ⟨keyV_at l id k hk hj he, decide_eq_true (by rw [← he]; exact List.mem_map_of_mem (at_mem hk))⟩
    have HF : Hid (∀ k, k < l.length → (∀ j, j < k → (at' l j).1 ≠ id) → (at' l k).1 = id → keyV l id = (at' l k).2 ∧ decide (id ∈ ids l) = true) := hfin
    have HN : Hid ((∀ j, j < l.length → (at' l j).1 ≠ id) → keyV l id = 0 ∧ decide (id ∈ ids l) = false) := fun hj => ⟨keyV_none l id (not_ids hj), decide_eq_false (not_ids hj)⟩
    clear hfin
    generalize keyV l id = kv at HF HN ⊢
    generalize decide (id ∈ ids l) = bv at HF HN ⊢
    go_enter Try.func9, Try.ntmps9
    go_wp2
    go_loop [6] (fun i => ∃ k : Nat, k ≤ l.length ∧ i = .int .i64 k ∧ Hid (∀ j, j < k → (at' l j).1 ≠ id)) (fun i => l.length - (intOf i).toNat)
    case atStart => exact ⟨0, Nat.zero_le _, rfl, fun j hj => by omega⟩
    case round =>
      obtain ⟨k, hk, rfl, hj⟩ := hrel
      by_cases hlt : k < l.length
      · have hlt' : (k : Int) < (l.length : Int) := by omega
        have c0 := (hc k hlt).1
        have c1 := (hc k hlt).2
        by_cases he : (at' l k).1 = id
        · obtain ⟨r1, r2⟩ := HF.out k hlt hj.out he
          have hb : ((at' l k).1 == id) = true := by simp [he]
          have HE : Hid ((at' l k).1 = id) := he
          clear he
          go_wp2
          go_ret2
          exact ⟨rfl, rfl⟩
        · have hb : ((at' l k).1 == id) = false := by simpa using he
          have HJ : Hid (∀ j, j < k + 1 → (at' l j).1 ≠ id) := fun j hj' => by
            by_cases e : j = k
            · subst e; exact he
            · exact hj.out j (by omega)
          go_wp2
          go_round
          case rel => exact ⟨k + 1, by omega, by go_num, HJ⟩
          case measure => simp [intOf]; omega
      · have hlt' : ¬ (k : Int) < (l.length : Int) := by omega
        obtain ⟨r1, r2⟩ := HN.out (fun j hj' => hj.out j (by omega))
        go_wp2
        go_ret2
        exact ⟨rfl, rfl⟩

set_option maxHeartbeats 1000000 in
theorem first_nil (base : Nat) (v : Value) (w : World) (h : Lst w base v []) :
    Calls Try.prog 10 #[v] w fun e w' => e = .returned (.tuple #[.int .i64 0, .int .i64 0, .bool false]) ∧ w' = w := by
  rcases h.cases with ⟨rfl, _⟩ | ⟨g, cap, rfl, _, _, hc, _⟩
  · go_enter Try.func10, Try.ntmps10
    go_wp2
    go_ret3
    exact ⟨rfl, rfl⟩
  · have hb : ((([] : List E).length : Int) == 0) = true := by rfl
    go_enter Try.func10, Try.ntmps10
    go_wp2
    go_ret3
    exact ⟨rfl, rfl⟩

set_option maxHeartbeats 1000000 in
theorem first_cons (base : Nat) (v : Value) (x : E) (r : List E) (w : World) (h : Lst w base v (x :: r)) :
    Calls Try.prog 10 #[v] w fun e w' => e = .returned (.tuple #[.int .i64 x.1, .int .i64 x.2, .bool true]) ∧ Step (fun _ => False) w w' := by
  rcases h.cases with ⟨_, h'⟩ | ⟨g, cap, rfl, _, _, hc, _⟩
  · cases h'
  · have hlen := h.len
    have c0 := (hc 0 (by simp)).1
    have c1 := (hc 0 (by simp)).2
    simp only [Nat.zero_mul, Nat.zero_add, at', List.getD_cons_zero] at c0 c1
    obtain ⟨n, hn⟩ : ∃ n, (x :: r).length = n + 1 := ⟨r.length, by simp⟩
    rw [hn] at hlen ⊢
    have hb : (((n + 1 : Nat) : Int) == 0) = false := beq_eq_false_iff_ne.2 (by omega)
    have hb' : ((n : Int) + 1 == 0) = false := beq_eq_false_iff_ne.2 (by omega)
    have hi : (0 : Int) < (n : Int) + 1 := by omega
    clear hn h hc
    go_enter Try.func10, Try.ntmps10
    go_wp2
    go_quiet (fail)
    go_wp2
    go_ret3
    exact ⟨rfl, rfl, rfl, rfl, Nat.le_refl _, fun _ _ _ => rfl⟩

theorem drop_snoc (l : List E) (x : E) (id : Int) : HP.drop (l ++ [x]) id = HP.drop l id ++ (if x.1 = id then [] else [x]) := by
  unfold HP.drop
  rw [List.filter_append, List.filter_cons, List.filter_nil]
  by_cases h : x.1 = id <;> simp [h]
theorem take_snoc {l : List E} {k : Nat} (h : k < l.length) : l.take (k + 1) = l.take k ++ [at' l k] := by
  rw [List.take_succ_eq_append_getElem h, at_get h]
theorem drop_take_hit {l : List E} {k : Nat} (h : k < l.length) {id : Int} (he : (at' l k).1 = id) : HP.drop (l.take (k + 1)) id = HP.drop (l.take k) id := by
  rw [take_snoc h, drop_snoc, if_pos he, List.append_nil]
theorem drop_take_miss {l : List E} {k : Nat} (h : k < l.length) {id : Int} (he : (at' l k).1 ≠ id) : HP.drop (l.take (k + 1)) id = HP.drop (l.take k) id ++ [at' l k] := by
  rw [take_snoc h, drop_snoc, if_neg he]
theorem drop_len (l : List E) (id : Int) : (HP.drop l id).length ≤ l.length := List.length_filter_le _ _

/-- an append to a row that is new -/
theorem step_own {w wr w2 : World} {e : TypeId} {size n : Nat} {v : Value} {xs : List Value} {o : Obj} (h : Step (fun _ => False) w wr) (ho : wr.ownsRow w.heap.size e size v n xs) (hg : (wr.alloc o).grownBy w2 v.ownBlock) : Step (fun _ => False) w w2 := by
  have h1 : Step (fun k => v.ownBlock = some k) wr w2 := ((Step.refl _ wr).alloc o).grown hg (fun k hk => hk)
  refine ⟨h1.os.trans h.os, h1.tape.trans h.tape, h1.output.trans h.output, Nat.le_trans h.size h1.size, fun k hk _ => ?_⟩
  rw [h1.block k (Nat.lt_of_lt_of_le hk h.size) (fun q => by have := (ho.lt k q).1; omega)]
  exact h.block k hk (fun q => q)

set_option maxHeartbeats 2000000 in
theorem drop_any (v : Value) (l : List E) (id : Int) (base : Nat) (w : World) (h : Lst w base v l) :
    Calls Try.prog 14 #[v, .int .i64 id] w fun e w' => ∃ v', e = .returned v' ∧ Lst w' w.heap.size v' (HP.drop l id) ∧ Step (fun _ => False) w w' := by
  rcases h.cases with ⟨rfl, rfl⟩ | ⟨g, cap, rfl, _, hg, hc, _⟩
  · have hn : Lst w w.heap.size (.slice none 0 0) (HP.drop [] id) := lst_nil _ _
    go_enter Try.func14, Try.ntmps14
    go_wp2
    refine wp_loop_rounds 1 ?_
    rw [rounds_succ]
    go_wp2
    go_ret
    exact ⟨_, rfl, hn, Step.refl _ _⟩
  · have hlen := h.len
    go_enter Try.func14, Try.ntmps14
    go_wp2
    go_loopw [5, 6] (fun v i wr => ∃ k : Nat, k ≤ l.length ∧ i = .int .i64 k ∧ wr.ownsRow w.heap.size 42 2 v (HP.drop (l.take k) id).length (flat (HP.drop (l.take k) id)) ∧ Step (fun _ => False) w wr) (fun _ i _ => l.length - (intOf i).toNat)
    case atStart => exact ⟨0, Nat.zero_le _, rfl, World.ownsRow_nil _ _ _ _, Step.refl _ _⟩
    case round =>
      obtain ⟨k, hk, rfl, hown, hst⟩ := hrel
      by_cases hlt : k < l.length
      · have hlt' : (k : Int) < (l.length : Int) := by omega
        have c0 : wr.cell? ⟨g, k * 2, none⟩ = some (.int .i64 (at' l k).1) := by rw [World.cell?_of_block (w := w) (hst.block g hg (fun q => q))]; exact (hc k hlt).1
        have c1 : wr.cell? ⟨g, k * 2 + 1, none⟩ = some (.int .i64 (at' l k).2) := by rw [World.cell?_of_block (w := w) (hst.block g hg (fun q => q))]; exact (hc k hlt).2
        by_cases he : (at' l k).1 = id
        · have hb : ((at' l k).1 == id) = true := by simp [he]
          have HD : Hid (HP.drop (l.take (k + 1)) id = HP.drop (l.take k) id) := drop_take_hit hlt he
          clear he
          go_wp2
          go_roundw
          case rel => exact ⟨k + 1, by omega, by go_num, by rw [HD.out]; exact hown, hst⟩
          case measure => simp [intOf]; omega
        · have hb : ((at' l k).1 == id) = false := by simpa using he
          have HD : Hid (HP.drop (l.take (k + 1)) id = HP.drop (l.take k) id ++ [at' l k]) := drop_take_miss hlt he
          have hle : (HP.drop (l.take k) id).length + 1 ≤ 8796093022208 := by
            have h1 := drop_len (l.take k) id
            rw [List.length_take] at h1
            omega
          clear he
          go_wp2_with (first
            | (at_builtin; refine wpList_append_pair _ rfl _ _ 25 42 rfl Try.underlying25 item_info w.heap.size u5 (HP.drop (l.take k) id) rfl (by exact hown.alloc _) wr.heap.size (at' l k).1 (at' l k).2 rfl (by exact heap_alloc_new wr _) hle (by have := hst.size; simp; omega) ?_; intro g' cap' w2 row2 hg2 hloc)
            | fail)
          have hs2 := step_own hst hown hg2
          go_roundw
          case rel => exact ⟨k + 1, by omega, by go_num, by rw [HD.out, List.length_append]; exact row2, hs2⟩
          case measure => simp [intOf]; omega
      · have hlt' : ¬ (k : Int) < (l.length : Int) := by omega
        have HD : Hid (l.take k = l) := List.take_of_length_le (by omega)
        go_wp2
        go_ret
        exact ⟨_, rfl, ⟨by rw [HD.out] at hown; exact hown, Nat.le_trans (drop_len l id) hlen⟩, hst⟩

theorem lt_ge_trans' {a b c : E} (h : ltB a b = true) (k : ltB c b = false) : ltB c a = false := by rw [ltB_false] at *; rw [ltB_iff] at h; omega

theorem ins_at (x : E) : ∀ (l : List E) (i : Nat), i ≤ l.length → (∀ j, j < i → ltB x (at' l j) = false) → (i < l.length → ltB x (at' l i) = true) → ins x l = l.take i ++ x :: l.drop i
  | [], i, hi, _, _ => by
    have : i = 0 := by simpa using hi
    subst this; rfl
  | a :: r, 0, _, _, h2 => by
    have := h2 (by simp)
    simp only [at', List.getD_cons_zero] at this
    simp [ins, this]
  | a :: r, i + 1, hi, h1, h2 => by
    have h0 := h1 0 (by omega)
    simp only [at', List.getD_cons_zero] at h0
    simp only [ins, h0, List.take_succ_cons, List.drop_succ_cons, List.cons_append]
    rw [ins_at x r i (by simpa using hi) (fun j hj => by simpa [at'] using h1 (j + 1) (by omega)) (fun hl => by simpa [at'] using h2 (by simpa using hl))]
    simp

/-- while it moves on: i of the others are ahead of it -/
def mid (x : E) (l : List E) (i : Nat) : List E := l.take i ++ x :: l.drop i

theorem mid_len {x : E} {l : List E} {i : Nat} (h : i ≤ l.length) : (mid x l i).length = l.length + 1 := by simp [mid]; omega
theorem mid_at {x : E} {l : List E} {i : Nat} (h : i ≤ l.length) : at' (mid x l i) i = x := by
  unfold mid at'
  rw [List.getD_eq_getElem?_getD, List.getElem?_append_right (by simp; omega)]
  simp [Nat.min_eq_left h]
theorem mid_lt {x : E} {l : List E} {i j : Nat} (h : i ≤ l.length) (hj : j < i) : at' (mid x l i) j = at' l j := by
  unfold mid at'
  rw [List.getD_eq_getElem?_getD, List.getD_eq_getElem?_getD, List.getElem?_append_left (by simp; omega), List.getElem?_take, if_pos hj]
theorem mid_swp {x : E} {l : List E} {i : Nat} (h : i + 1 ≤ l.length) : swp (mid x l (i + 1)) (i + 1) i = mid x l i := by
  apply List.ext_getElem (by rw [swp_len, mid_len h, mid_len (by omega)])
  intro k h1 h2
  rw [← at_get h1, ← at_get h2, at_swp (by rw [mid_len h]; omega) (by rw [mid_len h]; omega), mid_at h, mid_lt h (by omega)]
  by_cases e1 : k = i
  · subst e1; rw [if_pos rfl, mid_at (by omega)]
  · rw [if_neg e1]
    by_cases e2 : k = i + 1
    · subst e2
      rw [if_pos rfl]
      unfold mid at'
      rw [List.getD_eq_getElem?_getD, List.getD_eq_getElem?_getD, List.getElem?_append_right (by simp; omega)]
      simp [show min i l.length = i from by omega, show i + 1 - i = 1 from by omega]
    · rw [if_neg e2]
      by_cases e3 : k < i
      · rw [mid_lt h (by omega), mid_lt (by omega) e3]
      · unfold mid at'
        rw [List.getD_eq_getElem?_getD, List.getD_eq_getElem?_getD, List.getElem?_append_right (by simp; omega), List.getElem?_append_right (by simp; omega)]
        simp only [List.length_take, show min i l.length = i from by omega, show min (i + 1) l.length = i + 1 from by omega]
        obtain ⟨d, rfl⟩ : ∃ d, k = i + 2 + d := ⟨k - (i + 2), by omega⟩
        rw [show i + 2 + d - (i + 1) = d + 1 from by omega, show i + 2 + d - i = d + 1 + 1 from by omega]
        simp only [List.getElem?_cons_succ, List.getElem?_drop]
        rw [show i + 1 + d = i + (d + 1) from by omega]

/-- where it stops -/
theorem mid_stop {x : E} {l : List E} {i : Nat} (hs : Sorted l) (hi : i ≤ l.length) (h1 : i = 0 ∨ ltB x (at' l (i - 1)) = false) (h2 : ∀ j, i ≤ j → j < l.length → ltB x (at' l j) = true) : mid x l i = ins x l := by
  refine (ins_at x l i hi (fun j hj => ?_) (fun h => h2 i (Nat.le_refl _) h)).symm
  rcases h1 with h1 | h1
  · omega
  · by_cases e : j = i - 1
    · subst e; exact h1
    · have : ltB (at' l j) (at' l (i - 1)) = true := by
        have hp := List.pairwise_iff_getElem.1 hs j (i - 1) (by omega) (by omega) (by omega)
        rw [at_get (by omega), at_get (by omega)]; exact hp
      exact lt_ge_trans' this h1

theorem row_swp {w : World} {base g cap : Nat} {e : TypeId} {es : List E} (h : w.ownsRow base e 2 (.slice (some ⟨g, 0, none⟩) es.length cap) es.length (flat es)) {a b : Nat} (ha : a < es.length) (hb : b < es.length) (w1 : World)
    (q : ((((w.setCell ⟨g, a * 2, none⟩ (.int .i64 (at' es b).1)).setCell ⟨g, a * 2 + 1, none⟩ (.int .i64 (at' es b).2)).setCell ⟨g, b * 2, none⟩ (.int .i64 (at' es a).1)).setCell ⟨g, b * 2 + 1, none⟩ (.int .i64 (at' es a).2)) = w1) :
    w1.ownsRow base e 2 (.slice (some ⟨g, 0, none⟩) es.length cap) es.length (flat (swp es a b)) ∧ Step (fun k => k = g) w w1 := by
  subst q
  have s1 := (h.stored (a * 2) (.int .i64 (at' es b).1)).1
  have s2 := (s1.stored (a * 2 + 1) (.int .i64 (at' es b).2)).1
  have s3 := (s2.stored (b * 2) (.int .i64 (at' es a).1)).1
  have s4 := (s3.stored (b * 2 + 1) (.int .i64 (at' es a).2)).1
  rw [flat_set es a (at' es b) ha, flat_set (es.set a (at' es b)) b (at' es a) (by simpa using hb)] at s4
  exact ⟨s4, (((((Step.refl (fun k => k = g) w).setCell (p := ⟨g, a * 2, none⟩) rfl _).setCell (p := ⟨g, a * 2 + 1, none⟩) rfl _).setCell (p := ⟨g, b * 2, none⟩) rfl _).setCell (p := ⟨g, b * 2 + 1, none⟩) rfl _)⟩

theorem step_mono_new {w wr w1 : World} {g : Nat} (h : Step (fun _ => False) w wr) (hg : w.heap.size ≤ g) (h1 : Step (fun k => k = g) wr w1) : Step (fun _ => False) w w1 :=
  ⟨h1.os.trans h.os, h1.tape.trans h.tape, h1.output.trans h.output, Nat.le_trans h.size h1.size, fun k hk _ => (h1.block k (Nat.lt_of_lt_of_le hk h.size) (by omega)).trans (h.block k hk (fun q => q))⟩

end Go.Proofs.Ytldinhemgmnppaa.HW
