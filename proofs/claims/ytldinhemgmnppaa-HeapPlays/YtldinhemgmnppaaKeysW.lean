/- An id that is pushed again has the key that was told last, and is there once. -/
import Derived.Test.YtldinhemgmnppaaLaw
namespace Go.Proofs.Ytldinhemgmnppaa.HW
open Go.ChangeShapes Go.WideShapes Go.ChangeAt Go.RowKit Go.Proofs.Ytldinhemgmnppaa.HP Go.Maps Go.Proofs.Ytldinhemgmnppaa.HM Go.Proofs.Ytldinhemgmnppaa.AR

/-- the record at k as a pair -/
def prow (rows : List (List Int)) (k : Nat) : E := ((rows.getD k []).getD 0 0, (rows.getD k []).getD 1 0)

theorem prow_wf {w : World} {ao : Option Addr} {len : Nat} {rows : List (List Int)} {k n : Nat} (h : RecAt w n ao len rows) (hk : k < len) : W64 (prow rows k).1 ∧ W64 (prow rows k).2 := by
  have hl := h.1
  have hm : rows.getD k [] ∈ rows := by simp [List.getD_eq_getElem?_getD, show k < rows.length by omega]
  obtain ⟨_, h2⟩ := h.2.1 _ hm
  have : ∀ j, W64 ((rows.getD k []).getD j 0) := by
    intro j
    by_cases hj : j < (rows.getD k []).length
    · exact h2 _ (by rw [List.getD_eq_getElem?_getD (l := rows.getD k []), List.getElem?_eq_getElem hj]; exact List.getElem_mem hj)
    · rw [List.getD_eq_getElem?_getD (l := rows.getD k []), List.getElem?_eq_none (by omega)]; exact ⟨by decide, by decide⟩
  exact ⟨this 0, this 1⟩

theorem prow_at {w wr : World} {ao : Option Addr} {len : Nat} {rows : List (List Int)} {k : Nat} (h : RecAt w 2 ao len rows) (hk : k < len) (hb : Below w.heap.size w wr) : ∃ b off, ao = some ⟨b, off, none⟩ ∧ wr.cell? ⟨b, off + k * 2, none⟩ = some (.int .i64 (prow rows k).1) ∧ wr.cell? ⟨b, off + k * 2 + 1, none⟩ = some (.int .i64 (prow rows k).2) := by
  rcases h.2.2 with h0 | ⟨b, off, e, hlt, hc⟩
  · omega
  · refine ⟨b, off, e, ?_, ?_⟩
    · rw [hb.cell (by exact hlt)]; exact hc k 0 hk (by omega)
    · rw [hb.cell (by exact hlt)]; exact hc k 1 hk (by omega)

theorem drop_cons_same (id a : Int) (l : List E) : HP.drop ((id, a) :: HP.drop l id) id = HP.drop l id := by
  have h1 : HP.drop (HP.drop l id) id = HP.drop l id := drop_none ids_drop
  unfold HP.drop at *
  rw [List.filter_cons, if_neg (by simp)]
  exact h1

set_option maxHeartbeats 4000000 in
theorem heapKeys_walk (ao : Option Addr) (len cap : Nat) (rows : List (List Int)) (id a b : Int) (w : World) (ra : RecAt w 2 ao len rows) (lb : len * 16 ≤ 140737488351232) (h1 : (Lit.int .i64 id).wf = true) (h2 : (Lit.int .i64 a).wf = true) (h3 : (Lit.int .i64 b).wf = true) :
    Calls Try.prog 6 #[.slice ao len cap, .int .i64 id, .int .i64 a, .int .i64 b] w fun e w' => e = .returned (.bool true) ∧ Below w.heap.size w w' := by
  have wi : W64 id := i64_of_wf h1
  have wa : W64 a := i64_of_wf h2
  have wb : W64 b := i64_of_wf h3
  clear h1 h2 h3
  go_enter Try.func6, Try.ntmps6
  go_wp2_with fail
  refine (new_any _).mono ?_
  rintro e w0 ⟨rfl, r0, s0⟩
  have T0 := two_new r0 s0
  clear r0 s0
  go_wp2_with fail
  go_loopw [10] (fun i wr => ∃ (k : Nat) (lh : List E), k ≤ len ∧ i = .int .i64 k ∧ lh.length ≤ k ∧ Two w wr (.slice none 0 0) [] lh) (fun i _ => len - (intOf i).toNat)
  case atStart => exact ⟨0, [], Nat.zero_le _, rfl, Nat.le_refl _, T0⟩
  case round =>
    obtain ⟨k, lh, hk, rfl, hll, T⟩ := hrel
    by_cases hlt : k < len
    · obtain ⟨wf1, wf2⟩ := prow_wf ra hlt
      obtain ⟨bk, off, rfl, c0, c1⟩ := prow_at ra hlt T.bel
      have hlt' : (k : Int) < (len : Int) := by omega
      go_wp2_with fail
      go_still_tail 11, (by kernel_rfl)
      go_wp2_with (go_at_call 11; refine (push2 w _ _ _ lh _ _ (by exact T.still ⟨rfl, rfl, rfl, Nat.le_refl _, fun _ _ _ => rfl⟩) wf1 wf2 (by omega)).mono ?_; rintro e w2 ⟨rfl, T2⟩)
      go_roundw
      case rel => exact ⟨k + 1, _, by omega, by go_num, by simp; have := drop_len lh (prow rows k).1; omega, T2⟩
      case measure => simp [intOf]; omega
    · have hlt' : ¬ (k : Int) < (len : Int) := by omega
      have hd := drop_len lh id
      obtain ⟨n, hn⟩ : ∃ n, (HP.drop lh id).length = n := ⟨_, rfl⟩
      have HN : Hid ((HP.drop lh id).length = n) := hn
      have hnb : n ≤ 8796093021952 := by omega
      have HD : Hid (HP.drop ((id, a) :: HP.drop lh id) id = HP.drop lh id ∧ HP.drop ((id, b) :: HP.drop lh id) id = HP.drop lh id) := ⟨drop_cons_same id a lh, drop_cons_same id b lh⟩
      clear hn
      go_wp2_with fail
      refine (push2 w _ _ _ lh id a T wi wa (by omega)).mono ?_
      rintro e w1 ⟨rfl, T1⟩
      go_wp2_with fail
      refine (len2 w _ _ _ _ (n + 1) T1 (by rw [List.length_cons, HN.out])).mono ?_
      rintro e w2 ⟨rfl, rfl⟩
      go_wp2_with fail
      refine (push2 w _ _ _ _ id b T1 wi wb (by rw [List.length_cons, HN.out]; omega)).mono ?_
      rintro e w3 ⟨rfl, T3⟩
      rw [HD.out.1] at T3
      go_wp2_with fail
      refine (key2_yes w _ _ _ _ id b T3 (by simp)).mono ?_
      rintro e w4 ⟨rfl, rfl⟩
      go_wp2_with fail
      refine (answers2 w _ _ _ _ T3).mono ?_
      rintro e w5 ⟨rfl, T5⟩
      go_wp2_with fail
      refine (len2 w _ _ _ _ (n + 1) T5 (by rw [List.length_cons, HN.out])).mono ?_
      rintro e w6 ⟨rfl, rfl⟩
      go_wp2_with fail
      refine (remove2_yes w _ _ _ _ id T5 wi (by simp [ids])).mono ?_
      rintro e w7 ⟨rfl, T7⟩
      rw [HD.out.2] at T7
      go_wp2_with fail
      refine (remove2_no w _ _ _ _ id T7 wi ids_drop).mono ?_
      rintro e w8 ⟨rfl, T8⟩
      go_wp2_with fail
      refine (len2 w _ _ _ _ n T8 HN.out).mono ?_
      rintro e w9 ⟨rfl, rfl⟩
      go_wp2
      go_ret
      exact ⟨rfl, T8.bel⟩

end Go.Proofs.Ytldinhemgmnppaa.HW
