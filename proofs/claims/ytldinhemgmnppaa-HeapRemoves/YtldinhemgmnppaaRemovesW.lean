/- What is removed does not come out; all else does, in order. -/
import Derived.Test.YtldinhemgmnppaaSortsW
namespace Go.Proofs.Ytldinhemgmnppaa.HW
open Go.ChangeShapes Go.WideShapes Go.ChangeAt Go.RowKit Go.Proofs.Ytldinhemgmnppaa.HP Go.Maps Go.Proofs.Ytldinhemgmnppaa.HM Go.Proofs.Ytldinhemgmnppaa.AR

theorem ints_wf {w : World} {ao : Option Addr} {len : Nat} {zs : List Int} {k : Nat} (h : IntsAt w ao len zs) (hk : k < len) : W64 (zs.getD k 0) :=
  h.2.1 _ (by have := h.1; simp [List.getD_eq_getElem?_getD, show k < zs.length by omega])

theorem ints_at' {w wr : World} {ao : Option Addr} {len : Nat} {zs : List Int} {k : Nat} (h : IntsAt w ao len zs) (hk : k < len) (hb : Below w.heap.size w wr) : ∃ b off, ao = some ⟨b, off, none⟩ ∧ wr.cell? ⟨b, off + k, none⟩ = some (.int .i64 (zs.getD k 0)) := by
  rcases h.2.2 with h0 | ⟨b, off, e, hlt, hc⟩
  · omega
  · exact ⟨b, off, e, by rw [hb.cell (by exact hlt)]; exact hc k hk⟩

theorem ints_in {w wr : World} {b off len : Nat} {zs : List Int} {k : Nat} (h : IntsAt w (some ⟨b, off, none⟩) len zs) (hk : k < len) (hb : Below w.heap.size w wr) : wr.cell? ⟨b, off + k, none⟩ = some (.int .i64 (zs.getD k 0)) := by
  obtain ⟨b', off', e, h1⟩ := ints_at' h hk hb
  simp only [Option.some.injEq, Addr.mk.injEq, and_true] at e
  obtain ⟨rfl, rfl⟩ := e
  exact h1

set_option maxHeartbeats 4000000 in
theorem heapRemoves_walk (ao : Option Addr) (len cap : Nat) (rows : List (List Int)) (aq : Option Addr) (lenq capq : Nat) (zs : List Int) (w : World) (ra : RecAt w 2 ao len rows) (lb : len * 16 ≤ 140737488351232) (rq : IntsAt w aq lenq zs) (lq : lenq * 8 ≤ 140737488351232) :
    Calls Try.prog 5 #[.slice ao len cap, .slice aq lenq capq] w fun e w' => e = .returned (.bool true) ∧ Below w.heap.size w w' := by
  go_enter Try.func5, Try.ntmps5
  go_wp2_with fail
  refine (new_any _).mono ?_
  rintro e w0 ⟨rfl, r0, s0⟩
  have T0 := two_new r0 s0
  clear r0 s0
  go_wp2_with fail
  go_loopw [6, 7] (fun v i wr => ∃ (k : Nat) (l : List E), k ≤ len ∧ i = .int .i64 k ∧ l.length ≤ k ∧ Hid (Sorted l) ∧ Two w wr v l l) (fun _ i _ => len - (intOf i).toNat)
  case atStart => exact ⟨0, [], Nat.zero_le _, rfl, Nat.le_refl _, List.Pairwise.nil, T0⟩
  case round =>
    obtain ⟨k, l, hk, rfl, hll, hso, T⟩ := hrel
    by_cases hlt : k < len
    · obtain ⟨wf1, wf2⟩ := prow_wf ra hlt
      obtain ⟨bk, off, rfl, c0, c1⟩ := prow_at ra hlt T.bel
      have hlt' : (k : Int) < (len : Int) := by omega
      go_wp2_with fail
      go_still_tail 11, (by kernel_rfl)
      go_wp2_with (go_at_call 11; refine (push2 w _ _ _ l _ _ (by exact T.still ⟨rfl, rfl, rfl, Nat.le_refl _, fun _ _ _ => rfl⟩) wf1 wf2 (by omega)).mono ?_; rintro e w2 ⟨rfl, T2⟩)
      clear c0 c1
      obtain ⟨c0, c1⟩ := prow_in ra hlt T2.bel
      go_still_tail 11, (by kernel_rfl)
      go_wp2_with (go_at_call 12; refine (refpush2 w _ _ _ _ _ _ (by exact T2.still ⟨rfl, rfl, rfl, Nat.le_refl _, fun _ _ _ => rfl⟩) hso.out (by omega)).mono ?_; rintro e w3 ⟨v3, rfl, T3⟩)
      have T4 := T3.perm (ins_perm (prow rows k) _).symm
      go_roundw
      case rel => exact ⟨k + 1, _, by omega, by go_num, by have := ins_drop_len (prow rows k) l; exact Nat.le_trans this (by omega), ins_sorted _ _ (sorted_drop hso.out) ids_drop, T4⟩
      case measure => simp [intOf]; omega
    · have hlt' : ¬ (k : Int) < (len : Int) := by omega
      go_wp2_with fail
      go_loopw [6, 8] (fun v i wr => ∃ (k : Nat) (l : List E), k ≤ lenq ∧ i = .int .i64 k ∧ Hid (Sorted l) ∧ Two w wr v l l) (fun _ i _ => lenq - (intOf i).toNat)
      case atStart => exact ⟨0, l, Nat.zero_le _, rfl, hso, T⟩
      case round =>
        clear T hso hll
        obtain ⟨q, l, hq, rfl, hso, T⟩ := hrel
        by_cases hqt : q < lenq
        · have hqt' : (q : Int) < (lenq : Int) := by omega
          have wz := ints_wf rq hqt
          obtain ⟨bz, oz, rfl, c0⟩ := ints_at' rq hqt T.bel
          go_wp2_with (go_at_call 13; refine (remove2 w _ _ _ _ _ T wz).mono ?_; rintro e w2 ⟨rfl, T2⟩; have c0' := ints_in rq hqt T2.bel)
          refine (refdrop2 w _ _ _ _ _ T2).mono ?_
          rintro e w3 ⟨v3, rfl, T3⟩
          have c3 := ints_in rq hqt T3.bel
          go_wp2_with (go_at_call 17; refine (key2_no w _ _ _ _ _ T3 ids_drop wz).mono ?_; rintro e w4 ⟨rfl, rfl⟩)
          go_roundw
          case rel => exact ⟨q + 1, _, by omega, by go_num, sorted_drop hso.out, T3⟩
          case measure => simp [intOf]; omega
        · have hqt' : ¬ (q : Int) < (lenq : Int) := by omega
          obtain ⟨ao2, cap2, rfl⟩ := T.shape
          have hlen := T.len
          go_wp2_with fail
          go_loopw [11] (fun i wr => ∃ (j : Nat), j ≤ l.length ∧ i = .int .i64 j ∧ Two w wr (.slice ao2 l.length cap2) l (l.drop j)) (fun i _ => l.length - (intOf i).toNat)
          case atStart => exact ⟨0, Nat.zero_le _, rfl, T⟩
          case round =>
            clear T
            obtain ⟨j, hj, rfl, T⟩ := hrel
            by_cases hjt : j < l.length
            · have hjt' : (j : Int) < (l.length : Int) := by omega
              rw [drop_at hjt] at T
              have HSj : Hid (Sorted (at' l j :: l.drop (j + 1))) := by
                have := drop_sorted hso.out j
                rw [drop_at hjt] at this; exact this
              go_wp2_with (go_at_call 16; refine (pop2_cons w _ _ _ _ _ T HSj.out).mono ?_; rintro e w2 ⟨rfl, T2⟩; obtain ⟨g, hg, c0, c1⟩ := T2.at_l hjt; subst hg)
              go_roundw
              case rel => exact ⟨j + 1, by omega, by go_num, T2⟩
              case measure => simp [intOf]; omega
            · have hjt' : ¬ (j : Int) < (l.length : Int) := by omega
              rw [List.drop_eq_nil_of_le (by omega)] at T
              go_wp2_with fail
              refine (answers2 w _ _ _ _ T).mono ?_
              rintro e w6 ⟨rfl, T6⟩
              go_wp2_with fail
              refine (len2 w _ _ _ _ 0 T6 rfl).mono ?_
              rintro e w7 ⟨rfl, rfl⟩
              go_wp2
              go_ret
              exact ⟨rfl, T6.bel⟩

end Go.Proofs.Ytldinhemgmnppaa.HW
