/- The walk of TraceWhole. -/
import Derived.Test.YtbgpojhdkmhcbaaTrcChn
import Derived.Test.YtbgpojhdkmhcbaaTrcOwnW
namespace Go.Proofs.Ytbgpojhdkmhcbaa.TC
open Go.ChangeShapes Go.WideShapes Go.ChangeAt Go.RowKit Go.Proofs.Ytbgpojhdkmhcbaa.AR

theorem and63 (n : Int) : 0 ≤ bits .and .i64 n 63 ∧ bits .and .i64 n 63 ≤ 63 := by
  have h63 : (BitVec.ofInt 64 63).toNat = 2 ^ 6 - 1 := by decide
  have key : (BitVec.ofInt 64 n &&& BitVec.ofInt 64 63).toNat = (n % ((2 ^ 64 : Nat) : Int)).toNat % 2 ^ 6 := by
    rw [BitVec.toNat_and, BitVec.toNat_ofInt, h63, Nat.and_two_pow_sub_one_eq_mod]
  have e : bits .and .i64 n 63 = IntKind.i64.wrap ((BitVec.ofInt 64 n &&& BitVec.ofInt 64 63).toNat : Nat) := rfl
  rw [e, key, IntKind.wrap_i64]
  omega

/-- an Add beside a variable that was made ahead of it -/
theorem Solo.addBox {w W W' : World} {tb g : Nat} {v : Value} {L M : List I6} {y : I6} (h : Solo w W tb v L) (b : B6 W g y) (h1 : tb < g) (h2 : ∀ k, v.ownBlock = some k → k < g) (a : Added W tb w.heap.size v M W') : ∃ v', Solo w W' tb v' M ∧ B6 W' g y := by
  obtain ⟨v', so⟩ := h.add a
  obtain ⟨_, _, s, _⟩ := a
  refine ⟨v', so, b.kept s (fun q => ?_)⟩
  rcases q with q | q
  · omega
  · have := h2 g q; omega

theorem wrap_in {z : Int} (h : -9223372036854775808 ≤ z ∧ z ≤ 9223372036854775807) : IntKind.i64.wrap z = z := by rw [IntKind.wrap_i64]; omega

theorem chn_end {L : List I6} {e n : Int} (h : Chn L e n) (h1 : e ≤ 536870975) : endOf L = e := by
  unfold endOf
  by_cases hp : 0 < L.length
  · rw [if_pos hp]
    have q := h.frm (L.length - 1) (by omega)
    have t := take_sum (L := L) (i := L.length - 1) (by omega)
    have m := sum_mono L (L.length - 1) h.nn
    rw [show L.length - 1 + 1 = L.length by omega, List.take_length, h.len] at t
    unfold en
    rw [q, ← t.1]
    exact wrap_id (by have := h.len; omega)
  · rw [if_neg hp]
    have hz : L = [] := List.length_eq_zero_iff.1 (by omega)
    subst hz
    exact h.len

set_option maxHeartbeats 8000000 in
theorem traceWhole_walk (ao : Option Addr) (len cap : Nat) (rows : List (List Int)) (w : World) (ra : RecAt w 6 ao len rows) (lb : len * 48 ≤ 140737488351232) :
    Calls Try.prog 5 #[.slice ao len cap] w fun e w' => e = .returned (.bool true) ∧ Below w.heap.size w w' := by
  have HC : Hid (∀ k, k < len → ∃ b off, ao = some ⟨b, off, none⟩ ∧ b < w.heap.size ∧ ∀ W', Kp w W' → C6 W' b (off + k * 6) (at6 (rows.map ivOf) k)) := fun k hk => rec_c6 ra hk
  generalize rows.map ivOf = M at *
  clear ra
  go_enter Try.func5, Try.ntmps5
  go_wp2_with (first
    | (go_at_call 8; refine (new_any _).mono ?_; rintro e w1 ⟨rfl, t1, k1⟩)
    | fail)
  have T1 : Solo w w1 w.heap.size (.slice none 0 0) [] := ⟨k1, t1, Nat.le_refl _⟩
  clear t1 k1
  go_loopw [4, 5, 6] (fun p q i wr => ∃ (k : Nat) (e n : Int) (v1 : Value) (L : List I6), k ≤ len ∧ p = .int .i64 e ∧ q = .int .i64 n ∧ i = .int .i64 k ∧ Solo w wr w.heap.size v1 L ∧ Chn L e n ∧ L.length ≤ k ∧ 0 ≤ e ∧ e ≤ 536870975 ∧ 0 ≤ n ∧ n ≤ 63 * k) (fun _ _ i _ => len - (intOf i).toNat)
  case atStart => exact ⟨0, 0, 0, _, [], Nat.zero_le _, rfl, rfl, rfl, T1, chn_nil, by simp, by omega, by omega, by omega, by omega⟩
  case round =>
    obtain ⟨k, e, n, v1, L, hk, rfl, rfl, rfl, so, ch, hLk, e0, e1, n0, n1⟩ := hrel
    by_cases hlt : k < len
    · have hlt' : (k : Int) < (len : Int) := by omega
      have j1 : (0 : Int) ≤ (k : Int) := by omega
      have j3 : ((k : Int)).toNat = k := by omega
      obtain ⟨b, off, rfl, hb, hc⟩ := HC.out k hlt
      obtain ⟨a0, a1, a2, a3, a4, a5, _⟩ := hc _ so.kp
      generalize at6 M k = x at *
      clear hc
      by_cases he : (536870912 : Int) < e
      · go_wp2_with (first
          | (go_at_call 10; refine (answers_any _).mono ?_; rintro e w3 ⟨rfl, k3⟩)
          | fail)
        go_ret
        exact ⟨rfl, ((so.kp.alloc _).trans k3).below⟩
      · obtain ⟨ml, B1⟩ : ∃ m, bits .and .i64 x.l 63 = m := ⟨_, rfl⟩
        obtain ⟨mc, B2⟩ : ∃ m, bits .and .i64 x.c 63 = m := ⟨_, rfl⟩
        have l1 : 0 ≤ ml ∧ ml ≤ 63 := by rw [← B1]; exact and63 _
        have l2 : 0 ≤ mc ∧ mc ≤ 63 := by rw [← B2]; exact and63 _
        obtain ⟨y, HY⟩ : ∃ y : I6, Hid (y = ⟨x.k, e, ml, x.a, x.t, mc⟩) := ⟨_, rfl⟩
        have HA : Hid (∀ W, Solo w W w.heap.size v1 L → B6 W wr.heap.size y → Calls Try.prog 11 #[.pointer (some ⟨w.heap.size, 0, none⟩), .agg #[.int .i64 x.k, .int .i64 e, .int .i64 ml, .int .i64 x.a, .int .i64 x.t, .int .i64 mc]] W fun e w' => e = .returned (.tuple #[]) ∧ ∃ v', Solo w w' w.heap.size v' (addL L y) ∧ B6 w' wr.heap.size y) := by
          intro W h bb
          have q := add_any w.heap.size w.heap.size v1 L y W h.tr (by omega) h.kp.size
          rw [show y.v = .agg #[.int .i64 x.k, .int .i64 e, .int .i64 ml, .int .i64 x.a, .int .i64 x.t, .int .i64 mc] by rw [HY.out]] at q
          refine q.mono ?_
          rintro e w' ⟨rfl, a⟩
          exact ⟨rfl, h.addBox bb so.tr.lt (fun k hk => (so.tr.ls.row.lt k hk).2) a⟩
        have HCh : Hid (Chn (addL L y) (e + ml) (n + mc)) := by
          have q := ch.add (y := y) (by rw [HY.out]) (by rw [HY.out]; exact l1) (by rw [HY.out]; exact l2) (by omega) (by omega)
          rw [show y.l = ml by rw [HY.out], show y.c = mc by rw [HY.out]] at q
          exact q
        have HLn : Hid ((addL L y).length ≤ k + 1) := by have := addL_len L y; show _ ≤ _; omega
        have HBx : Hid (B6 (wr.alloc (.cells #[.int .i64 x.k, .int .i64 e, .int .i64 ml, .int .i64 x.a, .int .i64 x.t, .int .i64 mc] 27)) wr.heap.size y) := by
          have q := b6_new (w := wr) (x := y) (Step.refl _ _)
          rw [HY.out] at q ⊢
          exact q
        have HCl : Hid (∀ W, B6 W wr.heap.size y → W.cell? ⟨wr.heap.size, 2, none⟩ = some (.int .i64 ml) ∧ W.cell? ⟨wr.heap.size, 5, none⟩ = some (.int .i64 mc)) := by
          intro W q
          have := q.cl
          rw [HY.out] at this
          exact ⟨this.2.2.1, this.2.2.2.2.2⟩
        generalize addL L y = N at *
        go_wp2_with (first
          | (go_at_call 11; refine (HA.out _ (so.still ((Step.refl _ _).alloc _)) HBx.out).mono ?_; rintro e w3 ⟨rfl, v3, so3, b3⟩; obtain ⟨c2, c5⟩ := HCl.out _ b3)
          | fail)
        have W1 : IntKind.i64.wrap (e + ml) = e + ml := wrap_in (by omega)
        have W2 : IntKind.i64.wrap (n + mc) = n + mc := wrap_in (by omega)
        go_quiet (fail)
        generalize hwq : World.drewN w3 _ = w4
        have so4 : Solo w w4 w.heap.size v3 N := by rw [← hwq]; exact so3.still (kp_drewN _ _)
        clear hwq
        go_wp2
        go_roundw
        case rel => exact ⟨k + 1, e + ml, n + mc, v3, N, by omega, rfl, rfl, by go_num, so4, HCh.out, HLn.out, by omega, by omega, by omega, by omega⟩
        case measure => simp [intOf]; omega
    · have hlt' : ¬ (k : Int) < (len : Int) := by omega
      go_wp2_with (first
        | (go_at_call 15; refine (list_any _ _ _ _ _ so.tr).mono ?_; rintro e' w2 ⟨rfl, l2, k2⟩; have so2 := so.still k2)
        | fail)
      have hLb : L.length ≤ 2932031007402 := so.tr.ls.len
      have HLL : Hid ((L.length : Int) ≤ (len : Int)) := by show _ ≤ _; omega
      have HEn : Hid (endOf L = e) := chn_end ch e1
      generalize hga : wr.heap.size = ga at *
      clear hga so
      go_loopw [9, 10, 11] (fun p q i wr => ∃ (j : Nat), j ≤ L.length ∧ p = .int .i64 (sumL (L.take j)) ∧ q = .int .i64 (sumC (L.take j)) ∧ i = .int .i64 j ∧ Kp w2 wr) (fun _ _ i _ => L.length - (intOf i).toNat)
      case atStart => exact ⟨0, Nat.zero_le _, rfl, rfl, rfl, Step.refl _ _⟩
      case round =>
        obtain ⟨j, hj, rfl, rfl, rfl, kj⟩ := hrel
        by_cases hlt2 : j < L.length
        · have hlt2' : (j : Int) < (L.length : Int) := by omega
          have j1 : (0 : Int) ≤ (j : Int) := by omega
          have j3 : ((j : Int)).toNat = j := by omega
          obtain ⟨g', c', e', _, _, _, hc⟩ := (l2.kp kj).pos (by omega)
          simp only [Value.slice.injEq, Option.some.injEq, Addr.mk.injEq, and_true, true_and] at e'
          obtain ⟨rfl, rfl⟩ := e'
          have x0 := hc j hlt2
          have HF := ch.frm j hlt2
          have HT := take_sum hlt2
          have HM1 := sum_mono L j ch.nn
          have HM2 := sum_mono L (j + 1) ch.nn
          rw [ch.len, ch.cyc] at HM1 HM2
          rw [HT.1, HT.2] at HM2
          have HTH : Hid (sumL (L.take (j + 1)) = sumL (L.take j) + (at6 L j).l ∧ sumC (L.take (j + 1)) = sumC (L.take j) + (at6 L j).c) := HT
          clear HT
          obtain ⟨E, hE⟩ : ∃ E, sumL (L.take j) = E := ⟨_, rfl⟩
          obtain ⟨C, hC⟩ : ∃ C, sumC (L.take j) = C := ⟨_, rfl⟩
          rw [hE, hC] at HTH HM1 HM2
          rw [hE] at HF
          rw [hE, hC]
          by_cases hj0 : j = 0
          · have hgt : ¬ (0 : Int) < (j : Int) := by omega
            clear hc hj0
            generalize at6 L j = x at *
            have f0 : (x.f != E) = false := by simpa using HF
            obtain ⟨a0, a1, a2, a3, a4, a5, _⟩ := x0
            have W1 : IntKind.i64.wrap (E + x.l) = E + x.l := wrap_in (by omega)
            have W2 : IntKind.i64.wrap (C + x.c) = C + x.c := wrap_in (by omega)
            clear HF
            go_wp2_with fail
            go_quiet (fail)
            generalize hwq : World.drewN wr _ = w4
            have k4 : Kp w2 w4 := by rw [← hwq]; exact kj.trans (kp_drewN _ _)
            clear hwq
            go_wp2
            go_roundw
            case rel => exact ⟨j + 1, by omega, by rw [HTH.out.1], by rw [HTH.out.2], by go_num, k4⟩
            case measure => simp [intOf]; omega
          · have hgt : (0 : Int) < (j : Int) := by omega
            obtain ⟨m, hm⟩ : ∃ m, m + 1 = j := ⟨j - 1, by omega⟩
            have y0 := hc m (by omega)
            have x0' := x0
            have hnj := ch.nj m (by omega)
            rw [hm] at hnj
            have p0 : IntKind.i64.wrap ((j : Int) - 1) = (m : Int) := by rw [wrap_in (by omega)]; omega
            have p1 : (0 : Int) ≤ (m : Int) := by omega
            have p2 : (m : Int) < (L.length : Int) := by omega
            have p3 : ((m : Int)).toNat = m := by omega
            clear hc
            generalize at6 L j = x at *
            generalize at6 L m = y at *
            have f0 : (x.f != E) = false := by simpa using HF
            obtain ⟨a0, a1, a2, a3, a4, a5, _⟩ := x0
            have W1 : IntKind.i64.wrap (E + x.l) = E + x.l := wrap_in (by omega)
            have W2 : IntKind.i64.wrap (C + x.c) = C + x.c := wrap_in (by omega)
            clear HF
            have HX : Hid (∀ W', Kp wr W' → C6 W' ga (j * 6) x ∧ C6 W' ga (m * 6) y) := fun W' k => ⟨x0'.kept k (fun q => q), y0.kept k (fun q => q)⟩
            have HJ : Hid (∀ W, Calls Try.prog 16 #[.agg #[.int .i64 y.k, .int .i64 y.f, .int .i64 y.l, .int .i64 y.a, .int .i64 y.t, .int .i64 y.c], .agg #[.int .i64 x.k, .int .i64 x.f, .int .i64 x.l, .int .i64 x.a, .int .i64 x.t, .int .i64 x.c]] W fun e w' => e = .returned (.tuple #[.agg #[.int .i64 0, .int .i64 0, .int .i64 0, .int .i64 0, .int .i64 0, .int .i64 0], .bool false]) ∧ Kp W w') := by
              intro W
              refine (join_any y x W).mono ?_
              rintro e w' ⟨rfl, k⟩
              have e2 : joined y x = zI := by unfold joined; rw [hnj]; rfl
              rw [e2, hnj]
              exact ⟨rfl, k⟩
            clear hnj
            go_wp2_with fail
            go_quiet (fail)
            generalize hwq : World.drewN wr _ = w4
            have k4 : Kp wr w4 := by rw [← hwq]; exact kp_drewN _ _
            clear hwq a0 a1 a2 a3 a4 a5
            go_wp2_with fail
            obtain ⟨⟨a0, a1, a2, a3, a4, a5, _⟩, b0, b1, b2, b3, b4, b5, _⟩ := HX.out _ k4
            have n0 := World.new_ne w4 ⟨ga, j * 6, none⟩ a0
            go_region_held3 (fun w' => w'.cell? ⟨ga, j * 6, none⟩ = some (.int .i64 x.k) ∧ w'.cell? ⟨ga, j * 6 + 1, none⟩ = some (.int .i64 x.f) ∧ w'.cell? ⟨ga, j * 6 + 2, none⟩ = some (.int .i64 x.l) ∧ w'.cell? ⟨ga, j * 6 + 3, none⟩ = some (.int .i64 x.a) ∧ w'.cell? ⟨ga, j * 6 + 4, none⟩ = some (.int .i64 x.t) ∧ w'.cell? ⟨ga, j * 6 + 5, none⟩ = some (.int .i64 x.c) ∧ w'.cell? ⟨ga, m * 6, none⟩ = some (.int .i64 y.k) ∧ w'.cell? ⟨ga, m * 6 + 1, none⟩ = some (.int .i64 y.f) ∧ w'.cell? ⟨ga, m * 6 + 2, none⟩ = some (.int .i64 y.l) ∧ w'.cell? ⟨ga, m * 6 + 3, none⟩ = some (.int .i64 y.a) ∧ w'.cell? ⟨ga, m * 6 + 4, none⟩ = some (.int .i64 y.t) ∧ w'.cell? ⟨ga, m * 6 + 5, none⟩ = some (.int .i64 y.c)) (go_keep) (first
              | (go_at_call 16; refine (HJ.out _).mono ?_; rintro e w5 ⟨rfl, k5⟩; (first | (have K5 : Kp (w4.alloc (.cells #[.int .i64 0, .int .i64 0, .int .i64 0, .int .i64 0, .int .i64 0, .int .i64 0] 27)) w5 := ⟨k5.os, k5.tape, k5.output, k5.size, k5.block⟩; have L5 : Kp w4 w5 := ((Step.refl _ w4).alloc _).trans K5; have BZ := b6_new (x := zI) K5; have bf := BZ.fr; obtain ⟨o0, o1, o2, o3, o4, o5⟩ := BZ.cl; have f0 := bf 0; have f1 := bf 1; have f2 := bf 2; have f3 := bf 3; have f4 := bf 4; have f5 := bf 5) | (have L5 : Kp w4 w5 := ⟨k5.os, k5.tape, k5.output, k5.size, k5.block⟩)); clear k5; obtain ⟨⟨t0, t1, t2, t3, t4, t5, _⟩, u0, u1, u2, u3, u4, u5, _⟩ := HX.out _ (k4.trans L5); have n0 := World.new_ne w5 ⟨ga, j * 6, none⟩ t0)
              | fail)
            all_goals
              obtain ⟨Wf, hWf, kf⟩ : ∃ Wf, Hid (Wf = _) ∧ Kp w2 Wf := (by first | exact ⟨_, rfl, zero6_new (g := w4.heap.size) ((kj.trans k4).trans (((Step.refl _ w4).alloc _).trans K5)) (kj.trans k4).size⟩ | exact ⟨_, rfl, ((kj.trans k4).trans L5).alloc (.cells #[.int .i64 0, .int .i64 0, .int .i64 0, .int .i64 0, .int .i64 0, .int .i64 0] 27)⟩)
              rw [← hWf.out]
              clear hWf
              go_wp2
              go_roundw
              case rel => exact ⟨j + 1, by omega, by rw [HTH.out.1], by rw [HTH.out.2], by go_num, kf⟩
              case measure => simp [intOf]; omega
        · have hlt2' : ¬ (j : Int) < (L.length : Int) := by omega
          obtain rfl : j = L.length := by omega
          have q1 : sumL (L.take L.length) = e := by rw [List.take_length]; exact ch.len
          have q2 : sumC (L.take L.length) = n := by rw [List.take_length]; exact ch.cyc
          rw [q1, q2]
          clear q1 q2
          have HN : Hid (∀ W, Solo w W w.heap.size v1 L → Calls Try.prog 13 #[.pointer (some ⟨w.heap.size, 0, none⟩)] W fun r w' => r = .returned (.int .i64 e) ∧ Kp W w') := by
            intro W h
            have q := trend_any w.heap.size w.heap.size v1 L W h.tr
            rw [HEn.out] at q
            exact q
          have b1 : (e == e) = true := by simp
          have b2 : (n == n) = true := by simp
          have b3 := HLL.out
          have so3 := so2.still kj
          go_wp2_with (first
            | (go_at_call 10; refine (answers_any _).mono ?_; rintro r w5 ⟨rfl, k5⟩; have so5 := so3.still k5)
            | (go_at_call 13; refine (HN.out _ so5).mono ?_; rintro r w6 ⟨rfl, k6⟩)
            | fail)
          go_ret
          exact ⟨rfl, (so5.kp.trans k6).below⟩

end Go.Proofs.Ytbgpojhdkmhcbaa.TC
