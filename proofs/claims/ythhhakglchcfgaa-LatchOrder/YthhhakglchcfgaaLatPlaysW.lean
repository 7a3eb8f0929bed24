/- Whatever is put, and comes: all answers. -/
import Derived.Test.YthhhakglchcfgaaLatCut
namespace Go.Proofs.Ythhhakglchcfgaa.LT
open Go.ChangeShapes Go.WideShapes Go.ChangeAt Go.RowKit Go.Proofs.Ythhhakglchcfgaa.HP Go.Maps Go.Proofs.Ythhhakglchcfgaa.HM Go.Proofs.Ythhhakglchcfgaa.HW Go.Proofs.Ythhhakglchcfgaa.AR

/-- the number j of the record k -/
def fld (rows : List (List Int)) (k j : Nat) : Int := (rows.getD k []).getD j 0

theorem fld_wf {w : World} {ao : Option Addr} {len n : Nat} {rows : List (List Int)} {k : Nat} (h : RecAt w n ao len rows) (hk : k < len) (j : Nat) : W64 (fld rows k j) := by
  have hl := h.1
  have hm : rows.getD k [] ∈ rows := by simp [List.getD_eq_getElem?_getD, show k < rows.length by omega]
  obtain ⟨_, h2⟩ := h.2.1 _ hm
  unfold fld
  by_cases hj : j < (rows.getD k []).length
  · exact h2 _ (by rw [List.getD_eq_getElem?_getD (l := rows.getD k []), List.getElem?_eq_getElem hj]; exact List.getElem_mem hj)
  · rw [List.getD_eq_getElem?_getD (l := rows.getD k []), List.getElem?_eq_none (by omega)]; exact ⟨by decide, by decide⟩

theorem fld_at {w : World} {ao : Option Addr} {len n : Nat} {rows : List (List Int)} {k : Nat} (h : RecAt w n ao len rows) (hk : k < len) : ∃ b off, ao = some ⟨b, off, none⟩ ∧ b < w.heap.size ∧ ∀ wr, Below w.heap.size w wr → ∀ j, j < n → wr.cell? ⟨b, off + k * n + j, none⟩ = some (.int .i64 (fld rows k j)) := by
  rcases h.2.2 with h0 | ⟨b, off, e, hlt, hc⟩
  · omega
  · exact ⟨b, off, e, hlt, fun wr hb j hj => by rw [hb.cell (by exact hlt)]; exact hc k j hk hj⟩

theorem put_len (M : List O4) (x : O4) (hn : x.2.1 ∉ idt (tl M)) : putT (tl M) x.2.1 x.2.2.1 x.2.2.2 = tl (M ++ [x]) := by rw [putT_new hn, tl_snoc]

set_option maxRecDepth 100000 in
set_option maxHeartbeats 16000000 in
theorem latchPlays_walk (ao : Option Addr) (len cap : Nat) (rows : List (List Int)) (w : World) (ra : RecAt w 4 ao len rows) (lb : len * 32 ≤ 140737488351232) :
    Calls Try.prog 3 #[.slice ao len cap] w fun e w' => e = .returned (.bool true) ∧ Below w.heap.size w w' := by
  go_enter Try.func3, Try.ntmps3
  go_wp2_with fail
  refine (lnew_any _).mono ?_
  rintro e w0 ⟨rfl, r0, s0⟩
  have T0 := tw_new r0 s0
  clear r0 s0
  go_wp2_with fail
  go_loopw [4, 5] (fun v i wr => ∃ (k : Nat) (M : List O4), k ≤ len ∧ i = .int .i64 k ∧ M.length ≤ k ∧ Tw w wr v M (tl M)) (fun _ i _ => len - (intOf i).toNat)
  case atStart => exact ⟨0, [], Nat.zero_le _, rfl, Nat.le_refl _, T0⟩
  case round =>
    obtain ⟨k, M, hk, rfl, hll, T⟩ := hrel
    by_cases hlt : k < len
    · have wk := fld_wf ra hlt
      obtain ⟨bk, off, rfl, hbk, c⟩ := fld_at ra hlt
      have c := c _ T.bel
      have c0 := c 0 (by omega)
      have c1 := c 1 (by omega)
      have c2 := c 2 (by omega)
      have c3 := c 3 (by omega)
      clear c
      rw [Nat.add_zero] at c0
      have hlt' : (k : Int) < (len : Int) := by omega
      have wid : W64 (fld rows k 1) := wk 1
      have wat : W64 (fld rows k 2) := wk 2
      have wev : W64 (fld rows k 3) := wk 3
      clear wk
      generalize fld rows k 0 = kd at c0
      generalize fld rows k 1 = id at c1 wid
      generalize fld rows k 2 = a at c2 wat
      generalize fld rows k 3 = ev at c3 wev
      obtain ⟨lm, hlm⟩ : ∃ lm, Hid (M.length = lm) := ⟨_, rfl⟩
      obtain ⟨ao2, cap2, rfl, O2, _, _⟩ := T.shape
      have B1 := twB_alloc T #[.int .i64 kd, .int .i64 id, .int .i64 a, .int .i64 ev] 26
      obtain ⟨X, HX⟩ : ∃ X, Hid (X = wr.alloc (.cells #[.int .i64 kd, .int .i64 id, .int .i64 a, .int .i64 ev] 26)) := ⟨_, rfl⟩
      rw [← HX.out] at B1
      have KX : Step (fun _ => False) wr X := by rw [HX.out]; exact (Step.refl _ _).alloc _
      have O2 := O2.kept KX
      have EX := B1.blk
      have p0 : X.cell? ⟨wr.heap.size, 0, none⟩ = some (.int .i64 kd) := by simp [World.cell?, EX]
      have p1 : X.cell? ⟨wr.heap.size, 1, none⟩ = some (.int .i64 id) := by simp [World.cell?, EX]
      have p2 : X.cell? ⟨wr.heap.size, 2, none⟩ = some (.int .i64 a) := by simp [World.cell?, EX]
      have p3 : X.cell? ⟨wr.heap.size, 3, none⟩ = some (.int .i64 ev) := by simp [World.cell?, EX]
      have hll' : lm ≤ k := by rw [← hlm.out]; exact hll
      rw [hlm.out] at O2
      have HB1 : Hid (TwB w X (.slice ao2 lm cap2) M (tl M) wr.heap.size (.cells #[.int .i64 kd, .int .i64 id, .int .i64 a, .int .i64 ev] 26 (0, 0))) := by rw [← hlm.out]; exact B1
      have HH : Hid (∀ W, Step (fun _ => False) X W → Calls Try.prog 8 #[.slice ao2 lm cap2, .int .i64 id] W fun e w' => e = .returned (.bool (decide (id ∈ idt (tl M)))) ∧ w' = W) := fun W s => has_any ao2 lm cap2 M id W (O2.kept s) (by omega)
      have HL : Hid ((tl M).length + 1 ≤ 8796093022208) := by show _ ≤ _; rw [tl_len, hlm.out]; omega
      have HTL : Hid ((tl M).length = lm) := by show _ = _; rw [tl_len, hlm.out]
      clear B1 O2 T EX hll
      by_cases h0 : kd = 0
      · subst h0
        by_cases hin : id ∈ idt (tl M)
        · have hd : decide (id ∈ idt (tl M)) = true := decide_eq_true hin
          have HP : Hid (putT (tl M) id a ev = tl M) := putT_has hin
          rw [hd] at HH
          go_wp2_with fail
          rw [hlm.out, ← HX.out]
          refine (HH.out _ (Step.refl _ _)).mono ?_
          rintro e w1 ⟨rfl, rfl⟩
          have hq := put2b w _ _ _ _ id a ev _ _ HB1.out wid wat wev HL.out
          rw [hd, HP.out] at hq
          clear hin hd
          go_wp2_with (go_at_call 9; refine hq.mono ?_; rintro e w3 ⟨rfl, T3, b3⟩; have e0 : w3.cell? ⟨wr.heap.size, 0, none⟩ = some (.int .i64 0) := (by simp [World.cell?, b3]))
          refine (len2 w _ _ _ _ lm T3 HTL.out).mono ?_
          rintro e w5 ⟨rfl, rfl⟩
          have bq : ((lm : Int) == (lm : Int)) = true := by simp
          go_wp2
          go_roundw
          case rel => exact ⟨k + 1, M, by omega, by go_num, by rw [hlm.out]; omega, T3⟩
          case measure => simp [intOf]; omega
        · have hd : decide (id ∈ idt (tl M)) = false := decide_eq_false hin
          have HP : Hid (putT (tl M) id a ev = tl (M ++ [((0 : Int), id, a, ev)])) := put_len M ((0 : Int), id, a, ev) hin
          have HL2 : Hid ((tl (M ++ [((0 : Int), id, a, ev)])).length = M.length + 1) := by show _ = _; rw [tl_len, List.length_append]; rfl
          have HM : Hid (M.length + 1 ≤ 4398046511104) := by show _ ≤ _; rw [hlm.out]; omega
          rw [hd] at HH
          go_wp2_with fail
          rw [hlm.out, ← HX.out]
          refine (HH.out _ (Step.refl _ _)).mono ?_
          rintro e w1 ⟨rfl, rfl⟩
          have hq := put2b w _ _ _ _ id a ev _ _ HB1.out wid wat wev HL.out
          rw [hd, HP.out] at hq
          have hwx : w.heap.size ≤ w1.heap.size := HB1.out.two.bel.size
          clear hin hd
          go_wp2_with (first
            | (go_at_call 9; refine hq.mono ?_; rintro e w3 ⟨rfl, T3, b3⟩; have e0 : w3.cell? ⟨wr.heap.size, 0, none⟩ = some (.int .i64 0) := (by simp [World.cell?, b3]); have e1 : w3.cell? ⟨wr.heap.size, 1, none⟩ = some (.int .i64 id) := (by simp [World.cell?, b3]); have e2 : w3.cell? ⟨wr.heap.size, 2, none⟩ = some (.int .i64 a) := (by simp [World.cell?, b3]); have e3 : w3.cell? ⟨wr.heap.size, 3, none⟩ = some (.int .i64 ev) := (by simp [World.cell?, b3]))
            | (at_builtin; refine wpList_append_quad _ rfl _ _ 22 26 rfl Try.underlying22 op_info w.heap.size _ M rfl (by exact T3.lst.row.alloc _) w3.heap.size ((0 : Int), id, a, ev) rfl (by exact heap_alloc_new w3 _) HM.out (by have := T3.bel.size; simp; omega) ?_; intro g4 cap4 w4 row4 hg4 hloc4; have T4 := T3.more HM.out row4 hg4 hloc4)
            | fail)
          refine (len2 w _ _ _ _ (M.length + 1) T4 HL2.out).mono ?_
          rintro e w5 ⟨rfl, rfl⟩
          have bq : (((M.length + 1 : Nat) : Int) == ((M.length + 1 : Nat) : Int)) = true := by simp
          go_wp2
          go_roundw
          case rel => exact ⟨k + 1, _, by omega, by go_num, by rw [List.length_append, hlm.out]; simp; omega, T4⟩
          case measure => simp [intOf]; omega
      · have n0 : (kd == 0) = false := by simpa using h0
        generalize hdq : decide (id ∈ idt (tl M)) = dq at HH
        have HDQ : Hid (decide (id ∈ idt (tl M)) = dq) := hdq
        clear hdq
        by_cases h1 : kd = 1
        · subst h1
          go_wp2_with fail
          rw [hlm.out, ← HX.out]
          refine (HH.out _ (Step.refl _ _)).mono ?_
          rintro e w1 ⟨rfl, rfl⟩
          have hq := next_any w w1 _ M a HB1.out.two (by rw [hlm.out]; omega)
          go_wp2_with (go_at_call 10; refine hq.mono ?_; rintro e w3 ⟨v3, rfl, M3, T3, hl3, _⟩; obtain ⟨ao3, cap3, rfl, _, _, _⟩ := T3.shape)
          refine (len2 w _ _ _ _ M3.length T3 (tl_len M3)).mono ?_
          rintro e w5 ⟨rfl, rfl⟩
          have bq : ((M3.length : Int) == (M3.length : Int)) = true := by simp
          go_wp2
          go_roundw
          case rel => exact ⟨k + 1, M3, by omega, by go_num, by rw [hlm.out] at hl3; omega, T3⟩
          case measure => simp [intOf]; omega
        · have n1 : (kd == 1) = false := by simpa using h1
          by_cases h2 : kd = 2
          · subst h2
            go_wp2_with fail
            rw [hlm.out, ← HX.out]
            refine (HH.out _ (Step.refl _ _)).mono ?_
            rintro e w1 ⟨rfl, rfl⟩
            have hq := waits2 w _ _ _ _ id HB1.out.two wid
            rw [HDQ.out] at hq
            have bd : (dq == dq) = true := by simp
            go_wp2_with (go_at_call 11; refine hq.mono ?_; rintro e w3 ⟨rfl, rfl⟩)
            refine (len2 w _ _ _ _ lm HB1.out.two HTL.out).mono ?_
            rintro e w5 ⟨rfl, rfl⟩
            have bq : ((lm : Int) == (lm : Int)) = true := by simp
            go_wp2
            go_roundw
            case rel => exact ⟨k + 1, M, by omega, by go_num, by rw [hlm.out]; omega, HB1.out.two⟩
            case measure => simp [intOf]; omega
          · have n2 : (kd == 2) = false := by simpa using h2
            go_wp2_with fail
            rw [hlm.out, ← HX.out]
            refine (HH.out _ (Step.refl _ _)).mono ?_
            rintro e w1 ⟨rfl, rfl⟩
            go_wp2_with fail
            refine (len2 w _ _ _ _ lm HB1.out.two HTL.out).mono ?_
            rintro e w5 ⟨rfl, rfl⟩
            have bq : ((lm : Int) == (lm : Int)) = true := by simp
            go_wp2
            go_roundw
            case rel => exact ⟨k + 1, M, by omega, by go_num, by rw [hlm.out]; omega, HB1.out.two⟩
            case measure => simp [intOf]; omega
    · have hlt' : ¬ (k : Int) < (len : Int) := by omega
      go_wp2_with fail
      refine (answers2 w _ _ _ _ T).mono ?_
      rintro e w6 ⟨rfl, T6⟩
      go_wp2
      go_ret
      exact ⟨rfl, T6.bel⟩

end Go.Proofs.Ythhhakglchcfgaa.LT
