/- Whatever is pushed comes out by key, of equal keys by id, each id once, with the key that it had last; what is removed does not come out. -/
import Derived.Test.YtldinhemgmnppaaKeysW
namespace Go.Proofs.Ytldinhemgmnppaa.HW
open Go.ChangeShapes Go.WideShapes Go.ChangeAt Go.RowKit Go.Proofs.Ytldinhemgmnppaa.HP Go.Maps Go.Proofs.Ytldinhemgmnppaa.HM Go.Proofs.Ytldinhemgmnppaa.AR

theorem prow_in {w wr : World} {b off len : Nat} {rows : List (List Int)} {k : Nat} (h : RecAt w 2 (some ⟨b, off, none⟩) len rows) (hk : k < len) (hb : Below w.heap.size w wr) : wr.cell? ⟨b, off + k * 2, none⟩ = some (.int .i64 (prow rows k).1) ∧ wr.cell? ⟨b, off + k * 2 + 1, none⟩ = some (.int .i64 (prow rows k).2) := by
  obtain ⟨b', off', e, h1, h2⟩ := prow_at h hk hb
  simp only [Option.some.injEq, Addr.mk.injEq, and_true] at e
  obtain ⟨rfl, rfl⟩ := e
  exact ⟨h1, h2⟩

theorem Two.shape {W w : World} {v : Value} {l lh : List E} (h : Two W w v l lh) : ∃ ao cap, v = .slice ao l.length cap := by
  obtain ⟨A, h⟩ := h
  rcases h.lst.cases with ⟨rfl, rfl⟩ | ⟨g, cap, rfl, _⟩
  · exact ⟨none, 0, rfl⟩
  · exact ⟨_, cap, rfl⟩

theorem Two.at_l {W w : World} {ao : Option Addr} {cap : Nat} {l lh : List E} (h : Two W w (.slice ao l.length cap) l lh) {k : Nat} (hk : k < l.length) : ∃ g, ao = some ⟨g, 0, none⟩ ∧ w.cell? ⟨g, k * 2, none⟩ = some (.int .i64 (at' l k).1) ∧ w.cell? ⟨g, k * 2 + 1, none⟩ = some (.int .i64 (at' l k).2) := by
  obtain ⟨A, h⟩ := h
  rcases h.lst.cases with ⟨_, rfl⟩ | ⟨g, cap', e, _, _, hc, _⟩
  · simp at hk
  · simp only [Value.slice.injEq, true_and] at e
    exact ⟨g, e.1, hc k hk⟩

theorem Two.len {W w : World} {v : Value} {l lh : List E} (h : Two W w v l lh) : l.length ≤ 8796093022208 := by
  obtain ⟨A, h⟩ := h; exact h.lst.len

theorem drop_at {l : List E} {k : Nat} (h : k < l.length) : l.drop k = at' l k :: l.drop (k + 1) := by
  rw [at_get h, List.drop_eq_getElem_cons h]

theorem drop_sorted {l : List E} (h : Sorted l) (k : Nat) : Sorted (l.drop k) := List.Pairwise.sublist (List.drop_sublist k l) h

set_option maxHeartbeats 4000000 in
theorem heapSorts_walk (ao : Option Addr) (len cap : Nat) (rows : List (List Int)) (w : World) (ra : RecAt w 2 ao len rows) (lb : len * 16 ≤ 140737488351232) :
    Calls Try.prog 4 #[.slice ao len cap] w fun e w' => e = .returned (.bool true) ∧ Below w.heap.size w w' := by
  go_enter Try.func4, Try.ntmps4
  go_wp2_with fail
  refine (new_any _).mono ?_
  rintro e w0 ⟨rfl, r0, s0⟩
  have T0 := two_new r0 s0
  clear r0 s0
  go_wp2_with fail
  go_loopw [4, 5] (fun v i wr => ∃ (k : Nat) (l : List E), k ≤ len ∧ i = .int .i64 k ∧ l.length ≤ k ∧ Hid (Sorted l) ∧ Two w wr v l l) (fun _ i _ => len - (intOf i).toNat)
  case atStart => exact ⟨0, [], Nat.zero_le _, rfl, Nat.le_refl _, List.Pairwise.nil, T0⟩
  case round =>
    obtain ⟨k, l, hk, rfl, hll, hso, T⟩ := hrel
    by_cases hlt : k < len
    · obtain ⟨wf1, wf2⟩ := prow_wf ra hlt
      obtain ⟨bk, off, rfl, c0, c1⟩ := prow_at ra hlt T.bel
      have hlt' : (k : Int) < (len : Int) := by omega
      go_wp2_with fail
      go_still_tail 11, (by kernel_rfl)
      go_wp2_with (go_at_call 11; refine (push2 w _ _ _ l _ _ (by exact T.still ⟨rfl, rfl, rfl, Nat.le_refl _, fun _ _ _ => rfl⟩) wf1 wf2 (by omega)).mono ?_; rintro e w2 ⟨rfl, T2⟩)
      clear c0 c1
      obtain ⟨c0, c1⟩ := prow_in ra hlt T2.bel
      go_still_tail 11, (by kernel_rfl)
      go_wp2_with (go_at_call 12; refine (refpush2 w _ _ _ _ _ _ (by exact T2.still ⟨rfl, rfl, rfl, Nat.le_refl _, fun _ _ _ => rfl⟩) hso.out (by omega)).mono ?_; rintro e w3 ⟨v3, rfl, T3⟩)
      have T4 := T3.perm (ins_perm (prow rows k) _).symm
      go_roundw
      case rel => exact ⟨k + 1, _, by omega, by go_num, by have := ins_drop_len (prow rows k) l; exact Nat.le_trans this (by omega), ins_sorted _ _ (sorted_drop hso.out) ids_drop, T4⟩
      case measure => simp [intOf]; omega
    · have hlt' : ¬ (k : Int) < (len : Int) := by omega
      obtain ⟨ao2, cap2, rfl⟩ := T.shape
      have hlen := T.len
      go_wp2_with fail
      go_loopw [6] (fun i wr => ∃ (j : Nat), j ≤ l.length ∧ i = .int .i64 j ∧ Two w wr (.slice ao2 l.length cap2) l (l.drop j)) (fun i _ => l.length - (intOf i).toNat)
      case atStart => exact ⟨0, Nat.zero_le _, rfl, T⟩
      case round =>
        obtain ⟨j, hj, rfl, T⟩ := hrel
        by_cases hjt : j < l.length
        · have hjt' : (j : Int) < (l.length : Int) := by omega
          rw [drop_at hjt] at T
          have HSj : Hid (Sorted (at' l j :: l.drop (j + 1))) := by
            have := drop_sorted hso.out j
            rw [drop_at hjt] at this; exact this
          go_wp2_with (go_at_call 16; refine (pop2_cons w _ _ _ _ _ T HSj.out).mono ?_; rintro e w2 ⟨rfl, T2⟩; obtain ⟨g, hg, c0, c1⟩ := T2.at_l hjt; subst hg)
          go_roundw
          case rel => exact ⟨j + 1, by omega, by go_num, T2⟩
          case measure => simp [intOf]; omega
        · have hjt' : ¬ (j : Int) < (l.length : Int) := by omega
          rw [List.drop_eq_nil_of_le (by omega)] at T
          go_wp2_with fail
          refine (pop2_nil w _ _ _ T).mono ?_
          rintro e w5 ⟨rfl, rfl⟩
          go_wp2_with fail
          refine (answers2 w _ _ _ _ T).mono ?_
          rintro e w6 ⟨rfl, T6⟩
          go_wp2_with fail
          refine (len2 w _ _ _ _ 0 T6 rfl).mono ?_
          rintro e w7 ⟨rfl, rfl⟩
          go_wp2
          go_ret
          exact ⟨rfl, T6.bel⟩

end Go.Proofs.Ytldinhemgmnppaa.HW
