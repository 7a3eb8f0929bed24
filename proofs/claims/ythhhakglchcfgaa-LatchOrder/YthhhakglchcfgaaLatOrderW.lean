/- What was put comes in order, of one moment by its task, each once, with its cycles; what is later waits. -/
import Derived.Test.YthhhakglchcfgaaLatPlaysW
namespace Go.Proofs.Ythhhakglchcfgaa.LT
open Go.ChangeShapes Go.WideShapes Go.ChangeAt Go.RowKit Go.Proofs.Ythhhakglchcfgaa.HP Go.Maps Go.Proofs.Ythhhakglchcfgaa.HM Go.Proofs.Ythhhakglchcfgaa.HW Go.Proofs.Ythhhakglchcfgaa.AR

/-- no more are there than rounds are left, or none is due -/
def Left (M : List O4) (now n : Int) : Prop := (M.length : Int) ≤ n ∨ ∀ i, i < M.length → now < (atO M i).2.2.1

theorem left_next {W w' : World} {M : List O4} {now n : Int} {v' : Value} (h : Left M now n) (q : Nxt W M now v' w') : ∃ M', Tw W w' v' M' (tl M') ∧ M'.length ≤ M.length ∧ Left M' now (n - 1) := by
  obtain ⟨M', t, hl, q⟩ := q
  refine ⟨M', t, hl, ?_⟩
  rcases q with ⟨rfl, q⟩ | ⟨q, i, hi, hd⟩
  · exact .inr q
  · rcases h with h | h
    · exact .inl (by omega)
    · have := h i hi; omega

set_option maxRecDepth 100000 in
set_option maxHeartbeats 16000000 in
theorem latchOrder_walk (ao : Option Addr) (len cap : Nat) (rows : List (List Int)) (now : Int) (w : World) (ra : RecAt w 4 ao len rows) (lb : len * 32 ≤ 140737488351232) (_ : (Lit.int .i64 now).wf = true) :
    Calls Try.prog 4 #[.slice ao len cap, .int .i64 now] w fun e w' => e = .returned (.bool true) ∧ Below w.heap.size w w' := by
  go_enter Try.func4, Try.ntmps4
  go_wp2_with fail
  refine (lnew_any _).mono ?_
  rintro e w0 ⟨rfl, r0, s0⟩
  have T0 := tw_new r0 s0
  clear r0 s0
  go_wp2_with fail
  go_loopw [6, 7] (fun v i wr => ∃ (k : Nat) (M : List O4), k ≤ len ∧ i = .int .i64 k ∧ M.length ≤ k ∧ Tw w wr v M (tl M)) (fun _ i _ => len - (intOf i).toNat)
  case atStart => exact ⟨0, [], Nat.zero_le _, rfl, Nat.le_refl _, T0⟩
  case round =>
    obtain ⟨k, M, hk, rfl, hll, T⟩ := hrel
    obtain ⟨lm, hlm⟩ : ∃ lm, Hid (M.length = lm) := ⟨_, rfl⟩
    by_cases hlt : k < len
    · have wk := fld_wf ra hlt
      obtain ⟨bk, off, rfl, hbk, cA⟩ := fld_at ra hlt
      have c := cA _ T.bel
      have c0 := c 0 (by omega)
      have c1 := c 1 (by omega)
      have c2 := c 2 (by omega)
      have c3 := c 3 (by omega)
      rw [Nat.add_zero] at c0
      have hlt' : (k : Int) < (len : Int) := by omega
      have wid : W64 (fld rows k 1) := wk 1
      have wat : W64 (fld rows k 2) := wk 2
      have wev : W64 (fld rows k 3) := wk 3
      have HC : Hid (∀ W, Below w.heap.size w W → W.cell? ⟨bk, off + k * 4, none⟩ = some (.int .i64 (fld rows k 0)) ∧ W.cell? ⟨bk, off + k * 4 + 1, none⟩ = some (.int .i64 (fld rows k 1)) ∧ W.cell? ⟨bk, off + k * 4 + 2, none⟩ = some (.int .i64 (fld rows k 2)) ∧ W.cell? ⟨bk, off + k * 4 + 3, none⟩ = some (.int .i64 (fld rows k 3))) := fun W b => ⟨cA W b 0 (by omega), cA W b 1 (by omega), cA W b 2 (by omega), cA W b 3 (by omega)⟩
      clear wk c cA
      generalize fld rows k 0 = kd at *
      generalize fld rows k 1 = id at *
      generalize fld rows k 2 = a at *
      generalize fld rows k 3 = ev at *
      obtain ⟨ao2, cap2, rfl, O2, _, _⟩ := T.shape
      have hll' : lm ≤ k := by rw [← hlm.out]; exact hll
      rw [hlm.out] at O2
      have HT : Hid (Tw w wr (.slice ao2 lm cap2) M (tl M)) := by rw [← hlm.out]; exact T
      have HH : Hid (∀ W, Step (fun _ => False) wr W → Calls Try.prog 8 #[.slice ao2 lm cap2, .int .i64 id] W fun e w' => e = .returned (.bool (decide (id ∈ idt (tl M)))) ∧ w' = W) := fun W s => has_any ao2 lm cap2 M id W (O2.kept s) (by omega)
      have HL : Hid ((tl M).length + 1 ≤ 8796093022208) := by show _ ≤ _; rw [tl_len, hlm.out]; omega
      clear O2 T hll
      by_cases hin : id ∈ idt (tl M)
      · have hd : decide (id ∈ idt (tl M)) = true := decide_eq_true hin
        have HP : Hid (putT (tl M) id a ev = tl M) := putT_has hin
        rw [hd] at HH
        go_wp2_with fail
        rw [hlm.out]
        refine (HH.out _ (Step.refl _ _)).mono ?_
        rintro e w1 ⟨rfl, rfl⟩
        have hq : Hid (∀ W, Tw w W (.slice ao2 lm cap2) M (tl M) → Calls Try.prog 9 #[.pointer (some ⟨w.heap.size, 0, none⟩), .int .i64 id, .int .i64 a, .int .i64 ev] W fun e w' => e = .returned (.bool false) ∧ Tw w w' (.slice ao2 lm cap2) M (tl M)) := fun W t => by
          have := put2 w _ _ _ _ id a ev t wid wat wev HL.out
          rw [hd, HP.out] at this
          exact this
        clear hin hd
        go_wp2_with fail
        go_region_held3 (fun w' => w'.cell? ⟨bk, off + k * 4 + 1, none⟩ = some (.int .i64 id) ∧ w'.cell? ⟨bk, off + k * 4 + 2, none⟩ = some (.int .i64 a) ∧ w'.cell? ⟨bk, off + k * 4 + 3, none⟩ = some (.int .i64 ev)) (go_keep) (first
          | (go_at_call 9; refine (hq.out _ (HT.out.still (step_drew _))).mono ?_; rintro e w3 ⟨rfl, T3⟩; obtain ⟨_, d1, d2, d3⟩ := HC.out _ T3.bel)
          | fail)
        all_goals
          go_wp2
          go_roundw
          case rel => exact ⟨k + 1, M, by omega, by go_num, by rw [hlm.out]; omega, T3⟩
          case measure => simp [intOf]; omega
      · have hd : decide (id ∈ idt (tl M)) = false := decide_eq_false hin
        have HP : Hid (putT (tl M) id a ev = tl (M ++ [(kd, id, a, ev)])) := put_len M (kd, id, a, ev) hin
        have HM : Hid (M.length + 1 ≤ 4398046511104) := by show _ ≤ _; rw [hlm.out]; omega
        rw [hd] at HH
        go_wp2_with fail
        rw [hlm.out]
        refine (HH.out _ (Step.refl _ _)).mono ?_
        rintro e w1 ⟨rfl, rfl⟩
        have hq : Hid (∀ W, Tw w W (.slice ao2 lm cap2) M (tl M) → Calls Try.prog 9 #[.pointer (some ⟨w.heap.size, 0, none⟩), .int .i64 id, .int .i64 a, .int .i64 ev] W fun e w' => e = .returned (.bool true) ∧ Tw w w' (.slice ao2 lm cap2) M (tl (M ++ [(kd, id, a, ev)]))) := fun W t => by
          have := put2 w _ _ _ _ id a ev t wid wat wev HL.out
          rw [hd, HP.out] at this
          exact this
        clear hin hd
        go_wp2_with fail
        go_region_held3 (fun w' => w'.cell? ⟨bk, off + k * 4, none⟩ = some (.int .i64 kd) ∧ w'.cell? ⟨bk, off + k * 4 + 1, none⟩ = some (.int .i64 id) ∧ w'.cell? ⟨bk, off + k * 4 + 2, none⟩ = some (.int .i64 a) ∧ w'.cell? ⟨bk, off + k * 4 + 3, none⟩ = some (.int .i64 ev)) (go_keep) (first
          | (go_at_call 9; refine (hq.out _ (HT.out.still (step_drew _))).mono ?_; rintro e w3 ⟨rfl, T3⟩; obtain ⟨d0, d1, d2, d3⟩ := HC.out _ T3.bel)
          | fail)
        all_goals
          go_wp2_with (first
            | (at_builtin; refine wpList_append_quad _ rfl _ _ 22 26 rfl Try.underlying22 op_info w.heap.size _ M rfl (by exact T3.lst.row.alloc _) w3.heap.size (kd, id, a, ev) rfl (by exact heap_alloc_new w3 _) HM.out (by have := T3.bel.size; simp; omega) ?_; intro g4 cap4 w4 row4 hg4 hloc4; have T4 := T3.more HM.out row4 hg4 hloc4)
            | fail)
          go_roundw
          case rel => exact ⟨k + 1, _, by omega, by go_num, by rw [List.length_append, hlm.out]; simp; omega, T4⟩
          case measure => simp [intOf]; omega
    · have hlt' : ¬ (k : Int) < (len : Int) := by omega
      obtain ⟨ao2, cap2, rfl, _, _, _⟩ := T.shape
      have hlmk : lm ≤ len := by rw [← hlm.out]; omega
      rw [hlm.out] at T
      have HLM : Hid (Left M now (lm : Int)) := .inl (by rw [hlm.out]; exact Int.le_refl _)
      have HM0 : Hid (M.length ≤ 4398046510976) := by show _ ≤ _; rw [hlm.out]; omega
      clear hlt ra
      go_wp2_with fail
      rw [hlm.out]
      go_loopw [6, 9] (fun v i wr' => ∃ (n : Int) (M' : List O4), -1 ≤ n ∧ n ≤ 4398046510976 ∧ i = .int .i64 n ∧ Hid (M'.length ≤ 4398046510976) ∧ Hid (Left M' now n) ∧ Tw w wr' v M' (tl M')) (fun _ i _ => (intOf i + 1).toNat)
      case atStart => exact ⟨lm, M, by omega, by omega, rfl, HM0, HLM, T⟩
      case round =>
        obtain ⟨n, M', hn1, hn2, rfl, hb, hL, T'⟩ := hrel
        by_cases h0 : 0 ≤ n
        · have d0 : decide ((0 : Int) ≤ n) = true := decide_eq_true h0
          have hq := next_any w _ _ M' now T' hb.out
          go_wp2_with (go_at_call 10; refine hq.mono ?_; rintro e w3 ⟨v3, rfl, hN⟩)
          obtain ⟨M3, T3, hl3, hL3⟩ := left_next hL.out hN
          have hb3 : Hid (M3.length ≤ 4398046510976) := Nat.le_trans hl3 hb.out
          go_roundw
          case rel => exact ⟨n - 1, M3, by omega, by omega, by go_num, hb3, hL3, T3⟩
          case measure => simp [intOf]; omega
        · have d0 : decide ((0 : Int) ≤ n) = false := decide_eq_false h0
          have HNo : Hid (∀ i, i < M'.length → now < (atO M' i).2.2.1) := by
            rcases hL.out with q | q
            · omega
            · exact q
          obtain ⟨lm', hlm'⟩ : ∃ lm', Hid (M'.length = lm') := ⟨_, rfl⟩
          obtain ⟨ao3, cap3, rfl, O3, _, _⟩ := T'.shape
          rw [hlm'.out] at T' O3
          have hbl : lm' ≤ 4398046511104 := by have := hb.out; rw [hlm'.out] at this; omega
          have HTL : Hid ((tl M').length = lm') := by show _ = _; rw [tl_len, hlm'.out]
          go_wp2_with fail
          rw [hlm'.out]
          refine (answers2 w _ _ _ _ T').mono ?_
          rintro e w6 ⟨rfl, T6⟩
          obtain ⟨ao4, cap4, e4, O6, _, _⟩ := T6.shape
          rw [hlm'.out] at e4 O6
          cases e4
          go_wp2_with fail
          refine (first_any ao3 lm' cap3 M' now _ O6 hbl).mono ?_
          rintro e w7 ⟨b, rfl, hF, s7⟩
          have T7 := T6.still s7
          have hb1 : b = -1 := by
            rcases hF with ⟨rfl, _⟩ | ⟨j, hj, _, hjd, _⟩
            · rfl
            · have := HNo.out j (by rw [hlm'.out]; exact hj)
              omega
          subst hb1
          have bq : ((lm' : Int) == (lm' : Int)) = true := by simp
          go_wp2_with (go_at_call 12; refine (len2 w _ _ _ _ lm' T7 HTL.out).mono ?_; rintro e w8 ⟨rfl, rfl⟩)
          go_ret
          exact ⟨rfl, T7.bel⟩

end Go.Proofs.Ythhhakglchcfgaa.LT
