/- The walk of TraceAdds. -/
import Derived.Test.YtbgpojhdkmhcbaaTrcTwin
namespace Go.Proofs.Ytbgpojhdkmhcbaa.TC
open Go.ChangeShapes Go.WideShapes Go.ChangeAt Go.RowKit Go.Proofs.Ytbgpojhdkmhcbaa.AR

set_option maxHeartbeats 8000000 in
theorem traceAdds_walk (ao : Option Addr) (len cap : Nat) (rows : List (List Int)) (w : World) (ra : RecAt w 6 ao len rows) (lb : len * 48 ≤ 140737488351232) :
    Calls Try.prog 3 #[.slice ao len cap] w fun e w' => e = .returned (.bool true) ∧ Below w.heap.size w w' := by
  have HM : Hid ((rows.map ivOf).length = len) := by show _ = _; rw [List.length_map]; exact ra.1
  have HC : Hid (∀ k, k < len → ∃ b off, ao = some ⟨b, off, none⟩ ∧ b < w.heap.size ∧ ∀ W', Kp w W' → C6 W' b (off + k * 6) (at6 (rows.map ivOf) k)) := fun k hk => rec_c6 ra hk
  generalize rows.map ivOf = M at *
  clear ra
  go_enter Try.func3, Try.ntmps3
  go_wp2_with (first
    | (go_at_call 8; refine (new_any _).mono ?_; rintro e w1 ⟨rfl, t1, k1⟩)
    | fail)
  have T1 : Twin w w1 w.heap.size (.slice none 0 0) (.slice none 0 0) (addAll (M.take 0)) (addAll (M.take 0)) := ⟨k1, t1, ls_nil _ _, Nat.le_refl _, fun g e => by simp [Value.ownBlock] at e⟩
  clear t1 k1
  go_loopw [4, 5] (fun v i wr => ∃ (k : Nat) (v1 : Value), k ≤ len ∧ i = .int .i64 k ∧ Twin w wr w.heap.size v1 v (addAll (M.take k)) (addAll (M.take k))) (fun _ i _ => len - (intOf i).toNat)
  case atStart => exact ⟨0, _, Nat.zero_le _, rfl, T1⟩
  case round =>
    obtain ⟨k, v1, hk, rfl, tw⟩ := hrel
    by_cases hlt : k < len
    · have hlt' : (k : Int) < (len : Int) := by omega
      have j1 : (0 : Int) ≤ (k : Int) := by omega
      have j3 : ((k : Int)).toNat = k := by omega
      obtain ⟨b, off, rfl, hb, hc⟩ := HC.out k hlt
      have HK : Hid (addAll (M.take (k + 1)) = addL (addAll (M.take k)) (at6 M k)) := by show _ = _; rw [take_snoc6 (by rw [HM.out]; exact hlt), addAll_snoc]
      have HL : Hid ((addAll (M.take k)).length + 1 ≤ 2932031007402) := by show _ ≤ _; have := addAll_len k M (by rw [HM.out]; exact hk); omega
      have HX : Hid (∀ W', Kp w W' → C6 W' b (off + k * 6) (at6 M k)) := hc
      clear hc
      generalize addAll (M.take k) = L at *
      generalize at6 M k = x at *
      have HS : Hid (∀ W, Calls Try.prog 9 #[.agg #[.int .i64 x.k, .int .i64 x.f, .int .i64 x.l, .int .i64 x.a, .int .i64 x.t, .int .i64 x.c]] W fun e w' => e = .returned (.bool (smallB x)) ∧ Kp W w') := fun W => small_any x W
      obtain ⟨s1, r1⟩ : ∃ s, smallB x = s := ⟨_, rfl⟩
      rw [r1] at HS
      clear r1
      obtain ⟨a0, a1, a2, a3, a4, a5, _⟩ := HX.out _ tw.kp
      cases s1
      · go_wp2_with (first
          | (go_at_call 9; refine (HS.out _).mono ?_; rintro e w2 ⟨rfl, k2⟩)
          | (go_at_call 10; refine (answers_any _).mono ?_; rintro e w3 ⟨rfl, k3⟩)
          | fail)
        go_ret
        exact ⟨rfl, ((tw.kp.trans k2).trans k3).below⟩
      · have HA : Hid (∀ W v v2 L2, Twin w W w.heap.size v v2 L L2 → Calls Try.prog 11 #[.pointer (some ⟨w.heap.size, 0, none⟩), .agg #[.int .i64 x.k, .int .i64 x.f, .int .i64 x.l, .int .i64 x.a, .int .i64 x.t, .int .i64 x.c]] W fun e w' => e = .returned (.tuple #[]) ∧ ∃ v', Twin w w' w.heap.size v' v2 (addL L x) L2) := by
          intro W v v2 L2 h
          refine (add_any w.heap.size w.heap.size v L x W h.tr HL.out h.base).mono ?_
          rintro e w' ⟨rfl, a⟩
          exact ⟨rfl, h.addT a⟩
        have HP : Hid (∀ W v1 v L1, Twin w W w.heap.size v1 v L1 L → Calls Try.prog 12 #[v, .agg #[.int .i64 x.k, .int .i64 x.f, .int .i64 x.l, .int .i64 x.a, .int .i64 x.t, .int .i64 x.c]] W fun e w' => ∃ v', e = .returned v' ∧ Twin w w' w.heap.size v1 v' L1 (addL L x)) := by
          intro W v1 v L1 h
          refine (put_any w.heap.size v L x W h.ls HL.out h.base).mono ?_
          rintro e w' ⟨v', rfl, p⟩
          exact ⟨v', rfl, h.addL p⟩
        have HZ : Hid (0 < (addL L x).length) := addL_pos L x
        rw [← HK.out] at HA HP HZ
        obtain ⟨N, HN0⟩ : ∃ N, Hid (N = addAll (M.take (k + 1))) := ⟨_, rfl⟩
        rw [← HN0.out] at HA HP HZ
        clear HK
        go_wp2_with (first
          | (go_at_call 9; refine (HS.out _).mono ?_; rintro e w2 ⟨rfl, k2⟩; have t2 := tw.still k2; clear tw k2 a0 a1 a2 a3 a4 a5; obtain ⟨a0, a1, a2, a3, a4, a5, _⟩ := HX.out _ t2.kp)
          | (go_at_call 11; refine (HA.out _ _ _ _ t2).mono ?_; rintro e w3 ⟨rfl, v3, t3⟩; clear t2 a0 a1 a2 a3 a4 a5; obtain ⟨a0, a1, a2, a3, a4, a5, _⟩ := HX.out _ t3.kp)
          | (go_at_call 12; refine (HP.out _ _ _ _ t3).mono ?_; rintro e w4 ⟨v4, rfl, t4⟩; clear t3; obtain ⟨g, cp, rfl, _, hg, _, hc⟩ := t4.ls.pos HZ.out; obtain ⟨n, hn, e1, i0, i1, i2, i3, i4⟩ := last_ix t4.ls.len HZ.out; have u4 := hc n hn; have HE : Hid (endOf N = IntKind.i64.wrap ((at6 N n).f + (at6 N n).l)) := endOf_last e1 HZ.out; clear hc e1; generalize at6 N n = z at *; obtain ⟨d0, d1, d2, d3, d4, d5, _⟩ := u4)
          | fail)
        obtain ⟨Wf, hWf, t5, z5⟩ : ∃ Wf, Hid (Wf = _) ∧ Twin w Wf w.heap.size v3 (.slice (some ⟨g, 0, none⟩) N.length cp) N N ∧ B6 Wf w4.heap.size z := ⟨_, rfl, t4.still ((Step.refl _ _).alloc _), b6_new (Step.refl _ _)⟩
        rw [← hWf.out]
        clear hWf t4 d0 d1 d2 d3 d4 d5
        have HN : Hid (∀ W, Twin w W w.heap.size v3 (.slice (some ⟨g, 0, none⟩) N.length cp) N N → Calls Try.prog 13 #[.pointer (some ⟨w.heap.size, 0, none⟩)] W fun e w' => e = .returned (.int .i64 (endOf N)) ∧ Kp W w') := fun W h => trend_any _ _ _ _ W h.tr
        have HQ : (endOf N != IntKind.i64.wrap (z.f + z.l)) = false := by rw [HE.out]; simp
        clear HE
        generalize endOf N = eN at *
        obtain ⟨d0, d1, d2, d3, d4, d5⟩ := z5.cl
        go_region_held3 (fun w' => w'.cell? ⟨w4.heap.size, 1, none⟩ = some (.int .i64 z.f) ∧ w'.cell? ⟨w4.heap.size, 2, none⟩ = some (.int .i64 z.l)) (go_keep) (first
          | (go_at_call 13; refine (HN.out _ (t5.still ((Step.refl _ _).drew))).mono ?_; rintro e w6 ⟨rfl, k6⟩; have K6 : Kp Wf w6 := ⟨k6.os, k6.tape, k6.output, k6.size, k6.block⟩; clear k6; have y1 := (z5.kp K6).cl.2.1; have y2 := (z5.kp K6).cl.2.2.1)
          | fail)
        all_goals
          have t6 := t5.still K6
          go_wp2
          go_roundw
          case rel => exact ⟨k + 1, v3, by omega, by go_num, by rw [← HN0.out]; exact t6⟩
          case measure => simp [intOf]; omega
    · have hlt' : ¬ (k : Int) < (len : Int) := by omega
      generalize addAll (M.take k) = L at *
      go_wp2_with (first
        | (go_at_call 10; refine (answers_any _).mono ?_; rintro e w2 ⟨rfl, k2⟩; have t2 := tw.still k2)
        | (go_at_call 15; refine (list_any _ _ _ _ _ t2.tr).mono ?_; rintro e w3 ⟨rfl, l3, k3⟩; have t3 := t2.still k3)
        | (go_at_call 14; refine (same_any _ _ _ _ L _ l3 t3.ls).mono ?_; rintro e w4 ⟨rfl, k4⟩)
        | fail)
      go_ret
      exact ⟨rfl, (t3.kp.trans k4).below⟩

end Go.Proofs.Ytbgpojhdkmhcbaa.TC
