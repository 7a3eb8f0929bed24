/- Whatever is done: all answers. -/
import Derived.Test.YtldinhemgmnppaaSortsW
namespace Go.Proofs.Ytldinhemgmnppaa.HW
open Go.ChangeShapes Go.WideShapes Go.ChangeAt Go.RowKit Go.Proofs.Ytldinhemgmnppaa.HP Go.Maps Go.Proofs.Ytldinhemgmnppaa.HM Go.Proofs.Ytldinhemgmnppaa.AR

/-- the number j of the record k -/
def fld (rows : List (List Int)) (k j : Nat) : Int := (rows.getD k []).getD j 0

theorem fld_wf {w : World} {ao : Option Addr} {len n : Nat} {rows : List (List Int)} {k : Nat} (h : RecAt w n ao len rows) (hk : k < len) (j : Nat) : W64 (fld rows k j) := by
  have hl := h.1
  have hm : rows.getD k [] ∈ rows := by simp [List.getD_eq_getElem?_getD, show k < rows.length by omega]
  obtain ⟨_, h2⟩ := h.2.1 _ hm
  unfold fld
  by_cases hj : j < (rows.getD k []).length
  · exact h2 _ (by rw [List.getD_eq_getElem?_getD (l := rows.getD k []), List.getElem?_eq_getElem hj]; exact List.getElem_mem hj)
  · rw [List.getD_eq_getElem?_getD (l := rows.getD k []), List.getElem?_eq_none (by omega)]; exact ⟨by decide, by decide⟩

theorem fld_at {w wr : World} {ao : Option Addr} {len n : Nat} {rows : List (List Int)} {k : Nat} (h : RecAt w n ao len rows) (hk : k < len) (hb : Below w.heap.size w wr) : ∃ b off, ao = some ⟨b, off, none⟩ ∧ ∀ j, j < n → wr.cell? ⟨b, off + k * n + j, none⟩ = some (.int .i64 (fld rows k j)) := by
  rcases h.2.2 with h0 | ⟨b, off, e, hlt, hc⟩
  · omega
  · exact ⟨b, off, e, fun j hj => by rw [hb.cell (by exact hlt)]; exact hc k j hk hj⟩

/-- .. and a block of another one's, which stays -/
def TwoB (W w : World) (v : Value) (l lh : List E) (b : Nat) (o : Obj) : Prop := ∃ A, TwoA W w v l lh A ∧ w.heap[b]? = some o ∧ ¬ A b

theorem twoB_alloc {W w : World} {v : Value} {l lh : List E} (h : Two W w v l lh) (c : Array Value) (t : TypeId) : TwoB W (w.alloc (.cells c t)) v l lh w.heap.size (.cells c t (0, 0)) := by
  obtain ⟨A, h⟩ := h
  exact ⟨A, h.still ((Step.refl _ w).alloc _), heap_alloc_new w _, fun q => by have := (h.own _ q).2; omega⟩

theorem TwoB.two {W w : World} {v : Value} {l lh : List E} {b : Nat} {o : Obj} (h : TwoB W w v l lh b o) : Two W w v l lh := by
  obtain ⟨A, h, _⟩ := h; exact ⟨A, h⟩

theorem TwoB.blk {W w : World} {v : Value} {l lh : List E} {b : Nat} {o : Obj} (h : TwoB W w v l lh b o) : w.heap[b]? = some o := by
  obtain ⟨A, _, h, _⟩ := h; exact h

theorem TwoB.still {W w w' : World} {v : Value} {l lh : List E} {b : Nat} {o : Obj} (h : TwoB W w v l lh b o) (hs : Step (fun _ => False) w w') : TwoB W w' v l lh b o := by
  obtain ⟨A, h, hb, hn⟩ := h
  exact ⟨A, h.still hs, by rw [hs.block b (lt_of_block hb) (fun q => q)]; exact hb, hn⟩

theorem TwoB.cell {W w : World} {v : Value} {l lh : List E} {b : Nat} {c : Array Value} {t : TypeId} (h : TwoB W w v l lh b (.cells c t (0, 0))) (j : Nat) : w.cell? ⟨b, j, none⟩ = c[j]? := by
  simp [World.cell?, h.blk]

theorem push2b (W w : World) (v : Value) (l lh : List E) (id key : Int) (b : Nat) (o : Obj) (h : TwoB W w v l lh b o) (hwi : W64 id) (hk : W64 key) (hl : lh.length + 1 ≤ 8796093022208) :
    Calls Try.prog 11 #[.pointer (some ⟨W.heap.size, 0, none⟩), .int .i64 id, .int .i64 key] w fun e w' => e = .returned (.tuple #[]) ∧ Two W w' v l ((id, key) :: HP.drop lh id) ∧ w'.heap[b]? = some o := by
  obtain ⟨A, h, hb, hn⟩ := h
  refine (push_any W.heap.size A lh id key w h.rep hwi hk hl).mono ?_
  rintro e w' ⟨rfl, hw⟩
  refine ⟨rfl, h.went hw, ?_⟩
  obtain ⟨A', _, m'⟩ := hw
  rw [m'.stp.block b (lt_of_block hb) hn]; exact hb

theorem remove2b (W w : World) (v : Value) (l lh : List E) (id : Int) (b : Nat) (o : Obj) (h : TwoB W w v l lh b o) (hwi : W64 id) :
    Calls Try.prog 13 #[.pointer (some ⟨W.heap.size, 0, none⟩), .int .i64 id] w fun e w' => e = .returned (.bool (decide (id ∈ ids lh))) ∧ Two W w' v l (HP.drop lh id) ∧ w'.heap[b]? = some o := by
  obtain ⟨A, h, hb, hn⟩ := h
  refine (remove_any W.heap.size A lh id w h.rep hwi).mono ?_
  rintro e w' ⟨rfl, hw⟩
  refine ⟨rfl, h.went hw, ?_⟩
  obtain ⟨A', _, m'⟩ := hw
  rw [m'.stp.block b (lt_of_block hb) hn]; exact hb

theorem first_any (base : Nat) (v : Value) (l : List E) (w : World) (h : Lst w base v l) :
    Calls Try.prog 10 #[v] w fun e w' => e = .returned (.tuple #[.int .i64 (at' l 0).1, .int .i64 (at' l 0).2, .bool (decide (0 < l.length))]) ∧ Step (fun _ => False) w w' := by
  cases l with
  | nil =>
    refine (first_nil base v w h).mono ?_
    rintro e w' ⟨rfl, rfl⟩
    exact ⟨rfl, Step.refl _ _⟩
  | cons x r =>
    refine (first_cons base v x r w h).mono ?_
    rintro e w' ⟨rfl, hs⟩
    exact ⟨by simp [at'], hs⟩

theorem top2_any (W w : World) (v : Value) (l lh : List E) (h : Two W w v l lh) (hs : Sorted lh) :
    Calls Try.prog 15 #[.pointer (some ⟨W.heap.size, 0, none⟩)] w fun e w' => e = .returned (.tuple #[.int .i64 (at' lh 0).1, .int .i64 (at' lh 0).2, .bool (decide (0 < lh.length))]) ∧ Two W w' v l lh := by
  cases lh with
  | nil =>
    refine (top2_nil W w v l h).mono ?_
    rintro e w' ⟨rfl, rfl⟩
    exact ⟨rfl, h⟩
  | cons x r =>
    refine (top2_cons W w v l x r h hs).mono ?_
    rintro e w' ⟨rfl, hs⟩
    exact ⟨by simp [at'], hs⟩

theorem pop2_any (W w : World) (v : Value) (l lh : List E) (h : Two W w v l lh) (hs : Sorted lh) :
    Calls Try.prog 16 #[.pointer (some ⟨W.heap.size, 0, none⟩)] w fun e w' => e = .returned (.tuple #[.int .i64 (at' lh 0).1, .int .i64 (at' lh 0).2, .bool (decide (0 < lh.length))]) ∧ Two W w' v l lh.tail := by
  cases lh with
  | nil =>
    refine (pop2_nil W w v l h).mono ?_
    rintro e w' ⟨rfl, rfl⟩
    exact ⟨rfl, h⟩
  | cons x r =>
    refine (pop2_cons W w v l x r h hs).mono ?_
    rintro e w' ⟨rfl, hs⟩
    exact ⟨by simp [at'], hs⟩

theorem key2_any (W w : World) (v : Value) (l lh : List E) (id : Int) (h : Two W w v l lh) (hw : W64 id) :
    Calls Try.prog 17 #[.pointer (some ⟨W.heap.size, 0, none⟩), .int .i64 id] w fun e w' => e = .returned (.tuple #[.int .i64 (keyV lh id), .bool (decide (id ∈ ids lh))]) ∧ w' = w := by
  by_cases hi : id ∈ ids lh
  · rw [decide_eq_true hi]
    exact key2_yes W w v l lh id _ h (keyV_mem lh id hi)
  · rw [decide_eq_false hi, keyV_none lh id hi]
    exact key2_no W w v l lh id h hi hw

theorem drop_first {l : List E} (hn : (ids l).Nodup) (h : 0 < l.length) : HP.drop l (at' l 0).1 = l.tail := by
  cases l with
  | nil => simp at h
  | cons x r =>
    have := drop_cons hn
    simpa [at'] using this

theorem tail_len (l : List E) : l.tail.length ≤ l.length := by simp

theorem Two.lst {W w : World} {v : Value} {l lh : List E} (h : Two W w v l lh) : Lst w W.heap.size v l := by
  obtain ⟨A, h⟩ := h; exact h.lst

set_option maxHeartbeats 8000000 in
set_option maxRecDepth 100000 in
theorem heapPlays_walk (ao : Option Addr) (len cap : Nat) (rows : List (List Int)) (w : World) (ra : RecAt w 3 ao len rows) (lb : len * 24 ≤ 140737488351232) :
    Calls Try.prog 3 #[.slice ao len cap] w fun e w' => e = .returned (.bool true) ∧ Below w.heap.size w w' := by
  go_enter Try.func3, Try.ntmps3
  go_wp2_with fail
  refine (new_any _).mono ?_
  rintro e w0 ⟨rfl, r0, s0⟩
  have T0 := two_new r0 s0
  clear r0 s0
  go_wp2_with fail
  go_loopw [4, 5] (fun v i wr => ∃ (k : Nat) (l : List E), k ≤ len ∧ i = .int .i64 k ∧ l.length ≤ k ∧ Hid (Sorted l) ∧ Two w wr v l l) (fun _ i _ => len - (intOf i).toNat)
  case atStart => exact ⟨0, [], Nat.zero_le _, rfl, Nat.le_refl _, List.Pairwise.nil, T0⟩
  case round =>
    obtain ⟨k, l, hk, rfl, hll, hso, T⟩ := hrel
    by_cases hlt : k < len
    · have wk := fld_wf ra hlt
      obtain ⟨bk, off, rfl, c⟩ := fld_at ra hlt T.bel
      have c0 := c 0 (by omega)
      have c1 := c 1 (by omega)
      have c2 := c 2 (by omega)
      clear c
      rw [Nat.add_zero] at c0
      have hlt' : (k : Int) < (len : Int) := by omega
      have wid : W64 (fld rows k 1) := wk 1
      have wkey : W64 (fld rows k 2) := wk 2
      clear wk
      generalize fld rows k 0 = kd at c0
      generalize fld rows k 1 = id at c1 wid
      generalize fld rows k 2 = key at c2 wkey
      obtain ⟨ao2, cap2, rfl⟩ := T.shape
      have hlen := T.len
      go_wp2_with fail
      have B1 := twoB_alloc T #[.int .i64 kd, .int .i64 id, .int .i64 key] 27
      refine (key_any _ l id w.heap.size _ B1.two.lst).mono ?_
      rintro e w1 ⟨rfl, rfl⟩
      go_wp2_with fail
      refine (first_any w.heap.size _ l _ B1.two.lst).mono ?_
      rintro e w2 ⟨rfl, s2⟩
      have B2 := B1.still s2
      have d0 := B2.cell 0
      have d1 := B2.cell 1
      have d2 := B2.cell 2
      simp only [List.getElem?_toArray, List.getElem?_cons_zero, List.getElem?_cons_succ] at d0 d1 d2
      clear c0 c1 c2 B1 s2
      by_cases h0 : kd = 0
      · subst h0
        go_wp2_with (go_at_call 11; refine (push2b w _ _ _ l id key _ _ B2 wid wkey (by omega)).mono ?_; rintro e w3 ⟨rfl, T3, b3⟩; have e1 : w3.cell? ⟨wr.heap.size, 1, none⟩ = some (.int .i64 id) := (by simp [World.cell?, b3]); have e2 : w3.cell? ⟨wr.heap.size, 2, none⟩ = some (.int .i64 key) := (by simp [World.cell?, b3]))
        refine (refpush2 w _ _ _ _ id key T3 hso.out (by omega)).mono ?_
        rintro e w4 ⟨v4, rfl, T4⟩
        have T5 := T4.perm (ins_perm (id, key) _).symm
        go_wp2
        go_roundw
        case rel => exact ⟨k + 1, _, by omega, by go_num, by have := ins_drop_len (id, key) l; exact Nat.le_trans this (by omega), ins_sorted _ _ (sorted_drop hso.out) ids_drop, T5⟩
        case measure => simp [intOf]; omega
      · have n0 : (kd == 0) = false := by simpa using h0
        by_cases h1 : kd = 1
        · subst h1
          go_wp2_with (go_at_call 13; refine (remove2b w _ _ _ l id _ _ B2 wid).mono ?_; rintro e w3 ⟨rfl, T3, b3⟩; have e1 : w3.cell? ⟨wr.heap.size, 1, none⟩ = some (.int .i64 id) := (by simp [World.cell?, b3]))
          refine (refdrop2 w _ _ _ _ id T3).mono ?_
          rintro e w4 ⟨v4, rfl, T4⟩
          go_wp2
          go_roundw
          case rel => exact ⟨k + 1, _, by omega, by go_num, by have := drop_len l id; omega, sorted_drop hso.out, T4⟩
          case measure => simp [intOf]; omega
        · have n1 : (kd == 1) = false := by simpa using h1
          by_cases h2 : kd = 2
          · subst h2
            go_wp2_with (go_at_call 15; refine (top2_any w _ _ _ l B2.two hso.out).mono ?_; rintro e w3 ⟨rfl, T3⟩)
            go_roundw
            case rel => exact ⟨k + 1, _, by omega, by go_num, by omega, hso, T3⟩
            case measure => simp [intOf]; omega
          · have n2 : (kd == 2) = false := by simpa using h2
            by_cases h3 : kd = 3
            · subst h3
              by_cases hz : 0 < l.length
              · have hz' : decide (0 < l.length) = true := decide_eq_true hz
                have HD : Hid (HP.drop l (at' l 0).1 = l.tail) := drop_first B2.two.nodup hz
                go_wp2_with (go_at_call 16; refine (pop2_any w _ _ _ l B2.two hso.out).mono ?_; rintro e w3 ⟨rfl, T3⟩)
                refine (refdrop2 w _ _ _ _ _ T3).mono ?_
                rintro e w4 ⟨v4, rfl, T4⟩
                rw [HD.out] at T4
                go_wp2
                go_roundw
                case rel => exact ⟨k + 1, _, by omega, by go_num, by have := tail_len l; omega, List.Pairwise.sublist (List.tail_sublist l) hso.out, T4⟩
                case measure => simp [intOf]; omega
              · have hz' : decide (0 < l.length) = false := decide_eq_false hz
                have HL : Hid (l.tail = l) := by
                  show l.tail = l
                  rw [List.length_eq_zero_iff.1 (show l.length = 0 by omega)]; rfl
                go_wp2_with (go_at_call 16; refine (pop2_any w _ _ _ l B2.two hso.out).mono ?_; rintro e w3 ⟨rfl, T3⟩)
                rw [HL.out] at T3
                go_roundw
                case rel => exact ⟨k + 1, _, by omega, by go_num, by omega, hso, T3⟩
                case measure => simp [intOf]; omega
            · have n3 : (kd == 3) = false := by simpa using h3
              by_cases h4 : kd = 4
              · subst h4
                go_wp2_with (go_at_call 17; refine (key2_any w _ _ _ l id B2.two wid).mono ?_; rintro e w3 ⟨rfl, rfl⟩)
                go_roundw
                case rel => exact ⟨k + 1, _, by omega, by go_num, by omega, hso, B2.two⟩
                case measure => simp [intOf]; omega
              · have n4 : (kd == 4) = false := by simpa using h4
                go_wp2_with (go_at_call 18; refine (len2 w _ _ _ l l.length B2.two rfl).mono ?_; rintro e w3 ⟨rfl, rfl⟩)
                go_roundw
                case rel => exact ⟨k + 1, _, by omega, by go_num, by omega, hso, B2.two⟩
                case measure => simp [intOf]; omega
    · have hlt' : ¬ (k : Int) < (len : Int) := by omega
      obtain ⟨ao2, cap2, rfl⟩ := T.shape
      have hlen := T.len
      go_wp2_with fail
      refine (answers2 w _ _ _ _ T).mono ?_
      rintro e w6 ⟨rfl, T6⟩
      go_wp2_with fail
      refine (len2 w _ _ _ _ l.length T6 rfl).mono ?_
      rintro e w7 ⟨rfl, rfl⟩
      go_wp2
      go_ret
      exact ⟨rfl, T6.bel⟩

end Go.Proofs.Ytldinhemgmnppaa.HW
