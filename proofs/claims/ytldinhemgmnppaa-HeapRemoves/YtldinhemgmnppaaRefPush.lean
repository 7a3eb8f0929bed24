/- What the document's own Push answers. -/
import Derived.Test.YtldinhemgmnppaaRef
namespace Go.Proofs.Ytldinhemgmnppaa.HW
open Go.ChangeShapes Go.WideShapes Go.ChangeAt Go.RowKit Go.Proofs.Ytldinhemgmnppaa.HP Go.Maps Go.Proofs.Ytldinhemgmnppaa.HM

set_option maxHeartbeats 4000000 in
set_option maxRecDepth 100000 in
theorem refpush_any (v : Value) (l : List E) (id key : Int) (base : Nat) (w : World) (h : Lst w base v l) (hs : Sorted l) (hl : l.length + 1 ≤ 8796093022208) :
    Calls Try.prog 12 #[v, .int .i64 id, .int .i64 key] w fun e w' => ∃ v', e = .returned v' ∧ Lst w' w.heap.size v' (ins (id, key) (HP.drop l id)) ∧ Step (fun _ => False) w w' := by
  have hsd := sorted_drop (id := id) hs
  have hdl := drop_len l id
  have hil : (ins (id, key) (HP.drop l id)).length = (HP.drop l id).length + 1 := by rw [(ins_perm _ _).length_eq]; simp
  go_enter Try.func12, Try.ntmps12
  go_wp2_with fail
  refine (drop_any v l id base _ h).mono ?_
  rintro e w1 ⟨v1, rfl, h1, s1⟩
  generalize hd : HP.drop l id = l0 at h1 hsd hdl hil ⊢
  have hrow := h1.row
  go_wp2_with (first
    | (at_builtin; refine wpList_append_pair _ rfl _ _ 25 42 rfl Try.underlying25 item_info w.heap.size v1 l0 rfl (by exact hrow.alloc _) w1.heap.size id key rfl (by exact heap_alloc_new w1 _) (by omega) (by have := s1.size; simp; omega) ?_; intro g cap w2 row2 hg2 hloc)
    | fail)
  have s2 := step_own s1 hrow hg2
  have hgb : w.heap.size ≤ g := (row2.lt g rfl).1
  clear hg2 hloc hrow h1
  have e0 : l0 ++ [(id, key)] = mid (id, key) l0 l0.length := by simp [mid]
  rw [e0] at row2
  go_loopw [7] (fun i wr => ∃ k : Nat, k ≤ l0.length ∧ i = .int .i64 k ∧ wr.ownsRow w.heap.size 42 2 (.slice (some ⟨g, 0, none⟩) (l0.length + 1) cap) (l0.length + 1) (flat (mid (id, key) l0 k)) ∧ Hid (∀ j, k ≤ j → j < l0.length → ltB (id, key) (at' l0 j) = true) ∧ Step (fun _ => False) w wr) (fun i _ => (intOf i).toNat)
  case atStart => exact ⟨l0.length, Nat.le_refl _, by go_num, row2, fun j h1 h2 => by omega, s2⟩
  case round =>
    obtain ⟨k, hk, rfl, hown, HJ, hst⟩ := hrel
    by_cases k0 : k = 0
    · have HI : Hid (mid (id, key) l0 k = ins (id, key) l0) := mid_stop hsd hk (.inl k0) HJ.out
      have hb : decide ((0 : Int) < (k : Int)) = false := decide_eq_false (by omega)
      have hb2 : decide (0 < k) = false := decide_eq_false (by omega)
      clear k0
      go_wp2_with fail
      go_quiet (fail)
      go_wp2
      go_ret
      refine ⟨_, rfl, ?_, ⟨hst.os, hst.tape, hst.output, hst.size, hst.block⟩⟩
      rw [hd]
      refine ⟨?_, by rw [hil]; omega⟩
      rw [hil, ← HI.out]
      exact hown
    · obtain ⟨q, rfl⟩ : ∃ q, k = q + 1 := ⟨k - 1, by omega⟩
      have hm : (mid (id, key) l0 (q + 1)).length = l0.length + 1 := mid_len hk
      have hown' : wr.ownsRow w.heap.size 42 2 (.slice (some ⟨g, 0, none⟩) (mid (id, key) l0 (q + 1)).length cap) (mid (id, key) l0 (q + 1)).length (flat (mid (id, key) l0 (q + 1))) := by rw [hm]; exact hown
      have f1 := hown'.cellAt ((q + 1) * 2) (by rw [hm]; omega)
      have f2 := hown'.cellAt ((q + 1) * 2 + 1) (by rw [hm]; omega)
      have f3 := hown'.cellAt (q * 2) (by rw [hm]; omega)
      have f4 := hown'.cellAt (q * 2 + 1) (by rw [hm]; omega)
      rw [(flat_get _ _ (by rw [hm]; omega)).1, mid_at hk] at f1
      rw [(flat_get _ _ (by rw [hm]; omega)).2, mid_at hk] at f2
      rw [(flat_get _ _ (by rw [hm]; omega)).1, mid_lt hk (by omega)] at f3
      rw [(flat_get _ _ (by rw [hm]; omega)).2, mid_lt hk (by omega)] at f4
      have z1 := hown'.frozenAt ((q + 1) * 2)
      have z2 := hown'.frozenAt ((q + 1) * 2 + 1)
      have z3 := hown'.frozenAt (q * 2)
      have z4 := hown'.frozenAt (q * 2 + 1)
      have HS : Hid (∀ n w1, (((((wr.drewN n).setCell ⟨g, (q + 1) * 2, none⟩ (.int .i64 (at' l0 q).1)).setCell ⟨g, (q + 1) * 2 + 1, none⟩ (.int .i64 (at' l0 q).2)).setCell ⟨g, q * 2, none⟩ (.int .i64 id)).setCell ⟨g, q * 2 + 1, none⟩ (.int .i64 key)) = w1 → w1.ownsRow w.heap.size 42 2 (.slice (some ⟨g, 0, none⟩) (l0.length + 1) cap) (l0.length + 1) (flat (mid (id, key) l0 q)) ∧ Step (fun _ => False) w w1) := fun n w1 e => by
        have := row_swp (w := wr.drewN n) (by exact hown') (a := q + 1) (b := q) (by rw [hm]; omega) (by rw [hm]; omega) w1 (by rw [mid_at hk, mid_lt hk (by omega)]; exact e)
        rw [mid_swp hk, hm] at this
        exact ⟨this.1, step_mono_new (wr := wr.drewN n) ⟨hst.os, hst.tape, hst.output, hst.size, hst.block⟩ hgb this.2⟩
      have HSt : Hid (ltB (id, key) (at' l0 q) = false → mid (id, key) l0 (q + 1) = ins (id, key) l0) := fun e => mid_stop hsd hk (.inr e) HJ.out
      have HGo : Hid (ltB (id, key) (at' l0 q) = true → ∀ j, q ≤ j → j < l0.length → ltB (id, key) (at' l0 j) = true) := fun e j h1 h2 => by
        by_cases e2 : j = q
        · subst e2; exact e
        · exact HJ.out j (by omega) h2
      clear k0 HJ hown'
      have HL : Hid (ltB (id, key) (at' l0 q) = decide (key < (at' l0 q).2 ∨ (key = (at' l0 q).2 ∧ id < (at' l0 q).1))) := rfl
      generalize ltB (id, key) (at' l0 q) = bt at HSt HGo HL
      generalize (at' l0 q).1 = y1 at f3 HS HL
      generalize (at' l0 q).2 = y2 at f4 HS HL
      have i1 : (q : Int) + 1 < (l0.length : Int) + 1 := by omega
      have i2 : (q : Int) < (l0.length : Int) + 1 := by omega
      have t1 : ((q : Int) + 1).toNat = q + 1 := by omega
      have p1 : (0 : Int) ≤ (q : Int) + 1 := by omega
      have g0 : (0 : Int) < (q : Int) + 1 := by omega
      by_cases c1 : key < y2
      · -- the key is less
        have HJ2 : Hid (∀ j, q ≤ j → j < l0.length → ltB (id, key) (at' l0 j) = true) := HGo.out (by rw [HL.out]; exact decide_eq_true (.inl c1))
        clear HSt HGo HL
        go_wp2_with fail
        go_quiet (fail)
        go_wp2_with fail
        go_region
        go_wp2
        go_roundw
        case rel => exact ⟨q, by omega, by go_num, (HS.out _ _ rfl).1, HJ2, (HS.out _ _ rfl).2⟩
        case measure => simp [intOf]
      · have d1 : decide (key < y2) = false := decide_eq_false c1
        by_cases c2 : key = y2
        · have d2 : (key == y2) = true := by simp [c2]
          have C2 : Hid (key = y2) := c2
          clear c2
          by_cases c3 : id < y1
          · -- one key, the id is less
            have HJ2 : Hid (∀ j, q ≤ j → j < l0.length → ltB (id, key) (at' l0 j) = true) := HGo.out (by rw [HL.out]; exact decide_eq_true (.inr ⟨C2.out, c3⟩))
            clear HSt HGo HL
            go_wp2_with fail
            go_quiet (fail)
            go_wp2_with fail
            go_region
            go_wp2
            go_roundw
            case rel => exact ⟨q, by omega, by go_num, (HS.out _ _ rfl).1, HJ2, (HS.out _ _ rfl).2⟩
            case measure => simp [intOf]
          · have d3 : decide (id < y1) = false := decide_eq_false c3
            have HI : Hid (mid (id, key) l0 (q + 1) = ins (id, key) l0) := HSt.out (by rw [HL.out]; exact decide_eq_false (fun h => h.elim c1 (fun h => c3 h.2)))
            clear HSt HGo HL HS
            go_wp2_with fail
            go_quiet (fail)
            go_wp2
            go_ret
            refine ⟨_, rfl, ?_, ⟨hst.os, hst.tape, hst.output, hst.size, hst.block⟩⟩
            rw [hd]
            refine ⟨?_, by rw [hil]; omega⟩
            rw [hil, ← HI.out]
            exact hown
        · have d2 : (key == y2) = false := by simpa using c2
          have HI : Hid (mid (id, key) l0 (q + 1) = ins (id, key) l0) := HSt.out (by rw [HL.out]; exact decide_eq_false (fun h => h.elim c1 (fun h => c2 h.1)))
          clear HSt HGo HL HS
          go_wp2_with fail
          go_quiet (fail)
          go_wp2
          go_ret
          refine ⟨_, rfl, ?_, ⟨hst.os, hst.tape, hst.output, hst.size, hst.block⟩⟩
          rw [hd]
          refine ⟨?_, by rw [hil]; omega⟩
          rw [hil, ← HI.out]
          exact hown

end Go.Proofs.Ytldinhemgmnppaa.HW
