/- Jobs stand by deadline, then by task, each task once, with the job that was put last: the statement's walk. -/
import Derived.Test.YtphaedkmijdphaaRdyLaw
import Derived.Test.YtphaedkmijdphaaRdyOrdP
namespace Go.Proofs.Ytphaedkmijdphaa.RD
open Go.ChangeShapes Go.WideShapes Go.ChangeAt Go.RowKit Go.Proofs.Ytphaedkmijdphaa.AR Go.Proofs.Ytphaedkmijdphaa.HP Go.Maps Go.Proofs.Ytphaedkmijdphaa.HM Go.Proofs.Ytphaedkmijdphaa.HW

set_option maxRecDepth 100000 in
set_option maxHeartbeats 8000000 in
theorem readyOrder_go (ao : Option Addr) (len cap : Nat) (M : List Jb) (w : World) (J : JobsAt w ao len M) (hby : len * 48 ≤ 140737488351232) :
    Calls Try.prog 4 #[.slice ao len cap] w fun e w' => e = .returned (.bool true) ∧ Kp w w' := by
  have HJ : Hid (JobsAt w ao len M) := J
  have HM : Hid (M.length = len) := J.ln
  obtain ⟨L, hL⟩ : ∃ L, Hid (putAll M = L) := ⟨_, rfl⟩
  have HLL : Hid (L.length ≤ len ∧ SJ L ∧ (tks L).Nodup) := by
    have := all_len HM.out (Nat.le_refl len)
    rw [all_done HM.out, hL.out] at this
    exact ⟨this.2.2, this.1, this.2.1⟩
  have HMEM : Hid (∀ c ∈ L, ∃ n, n < len ∧ atJ M n = c ∧ ∀ m, n < m → m < len → (atJ M m).t ≠ c.t) := by
    have := putAll_mem (M := M) len (by rw [HM.out]; exact Nat.le_refl _)
    rw [all_done HM.out, hL.out] at this
    exact this
  have HHAS : Hid (∀ n, n < len → (atJ M n).t ∈ tks L) := by
    have := putAll_has (M := M) len (by rw [HM.out]; exact Nat.le_refl _)
    rw [all_done HM.out, hL.out] at this
    exact this
  have hlb : Hid (L.length ≤ 2932031007402) := by have := HLL.out.1; show L.length ≤ _; omega
  clear J
  go_enter Try.func4, Try.ntmps4
  try dsimp only [List.append]
  go_wp2_with fail
  refine (new_set _).mono ?_
  rintro e w0 ⟨rfl, r0, s0⟩
  have S0 := SetOf.of_new r0 s0
  clear r0 s0
  go_wp2
  go_loopw [4] (fun i wr => ∃ k : Nat, k ≤ len ∧ i = .int .i64 k ∧ ∃ A, Hid (SetOf w wr w.heap.size A (putAll (M.take k)))) (fun i _ => len - (intOf i).toNat)
  case atStart => exact ⟨0, Nat.zero_le _, rfl, _, S0⟩
  case round =>
    obtain ⟨k, hk, rfl, A, G⟩ := hrel
    by_cases hlt : k < len
    · obtain ⟨b, off, rfl, hb, hwj, hc⟩ := HJ.out.one hlt
      have hlt' : (k : Int) < (len : Int) := by omega
      have i1 : (0 : Int) ≤ (k : Int) := by omega
      have i3 : ((k : Int)).toNat = k := by omega
      have hq := (all_len HM.out (Nat.le_of_lt hlt)).2.2
      have HS : Hid (putAll (M.take (k + 1)) = putL (putAll (M.take k)) (atJ M k)) := putAll_take (by rw [HM.out]; exact hlt)
      obtain ⟨a0, a1, a2, a3, a4, a5, _⟩ := hc wr G.out.kp
      clear hc
      generalize atJ M k = z at *
      go_wp2_with (first
        | (go_at_call 9; refine (put_any w.heap.size A _ z _ G.out.rep hwj (by omega)).mono ?_; rintro e w2 ⟨rfl, hw⟩)
        | fail)
      obtain ⟨A2, G2⟩ := G.out.went hw
      rw [← HS.out] at G2
      go_roundw
      case rel => exact ⟨k + 1, by omega, by go_num, A2, G2⟩
      case measure => simp [intOf]; omega
    · have hlt' : ¬ (k : Int) < (len : Int) := by omega
      obtain rfl : k = len := by omega
      have G1 := G.out
      rw [all_done HM.out, hL.out] at G1
      clear G
      go_wp2_with fail
      refine (list_any w.heap.size A L _ G1.rep hlb.out).mono ?_
      rintro e w1 ⟨v1, rfl, l1, k1⟩
      have KW : Hid (Kp w w1) := Step.trans G1.kp k1
      clear G1 hk hlt hlt'
      by_cases hp : 0 < L.length
      · obtain ⟨g1, c1, rfl, hb1, hg1, _, hc1⟩ := l1.pos hp
        have HC1 : Hid (∀ W', Kp w1 W' → ∀ i, i < L.length → C6 W' g1 (i * 6) (atJ L i)) := fun W' kk i hi => (hc1 i hi).kept kk (fun q => q)
        have HL1 : Hid (Ls w1 wr.heap.size (.slice (some ⟨g1, 0, none⟩) L.length c1) L) := l1
        have hk0 : 0 < k := by have := HLL.out.1; omega
        obtain ⟨b, off, rfl, hb, _, _⟩ := HJ.out.one hk0
        have HCM : Hid (∀ W', Kp w1 W' → ∀ i, i < k → C6 W' b (off + i * 6) (atJ M i)) := fun W' kk i hi => by
          obtain ⟨b', off', e, _, _, hc⟩ := HJ.out.one hi
          simp only [Option.some.injEq, Addr.mk.injEq, and_true] at e
          obtain ⟨rfl, rfl⟩ := e
          exact hc W' (Step.trans KW.out kk)
        have HP : Hid (0 < L.length) := hp
        clear l1 hc1 hp hb hb1 hg1
        go_wp2
        go_loopw [6] (fun i wr => ∃ q : Nat, q ≤ L.length ∧ i = .int .i64 q ∧ Hid (Kp w1 wr)) (fun i _ => L.length - (intOf i).toNat)
        case atStart => exact ⟨0, Nat.zero_le _, rfl, Step.refl _ _⟩
        case round =>
          obtain ⟨q, hq, rfl, KQ⟩ := hrel
          have hb9 := hlb.out
          by_cases hlq : q < L.length
          · have hlq' : (q : Int) < (L.length : Int) := by omega
            have i1 : (0 : Int) ≤ (q : Int) := by omega
            have i3 : ((q : Int)).toNat = q := by omega
            obtain ⟨c, hc⟩ : ∃ c, Hid (atJ L q = c) := ⟨_, rfl⟩
            have HCQ : Hid (∀ W', Kp w1 W' → C6 W' g1 (q * 6) c) := fun W' kk => by have := HC1.out W' kk q hlq; rwa [hc.out] at this
            obtain ⟨n0, hn0, hcn, hlast⟩ := HMEM.out c (by rw [← hc.out]; exact atJ_mem hlq)
            have HLAST : Hid (∀ z, Lat M c.t k z → z = (n0 : Int)) := fun z kz => lat_end kz hn0 hcn hlast
            have HCN : Hid (∀ W', Kp w1 W' → C6 W' b (off + n0 * 6) c) := fun W' kk => by have := HCM.out W' kk n0 hn0; rwa [hcn] at this
            have HE : Hid (∀ W : World, (Op.equalIn 10000 27 (.agg #[.int .i64 c.t, .int .i64 c.r, .int .i64 c.d, .int .i64 c.l, .int .i64 c.x, .bool c.s]) (.agg #[.int .i64 c.t, .int .i64 c.r, .int .i64 c.d, .int .i64 c.l, .int .i64 c.x, .bool c.s])).run Try.prog W = .ok true W) := eqJ c
            clear hlast hcn
            have HW10 : Hid (q = 0 ∨ ∃ r, q = r + 1 ∧ (((atJ L r).d < c.d) ∨ ((atJ L r).d = c.d ∧ (atJ L r).t < c.t))) := by
              rcases Nat.eq_zero_or_pos q with e | e
              · exact .inl e
              · refine .inr ⟨q - 1, by omega, ?_⟩
                have := sj_at HLL.out.2.1 (r := q - 1) (by omega)
                rw [show q - 1 + 1 = q from by omega, hc.out] at this
                exact this
            obtain ⟨a0, a1, a2, a3, a4, a5, _⟩ := HCQ.out _ KQ.out
            rcases HW10.out with e | ⟨r, e, h | ⟨h1, h2⟩⟩
            · have g0 : decide ((0 : Int) < (q : Int)) = false := decide_eq_false (by omega)
              have g0' : decide (0 < q) = false := decide_eq_false (by omega)
              clear HW10 e
              go_wp2_with fail
              go_quiet (fail)
              generalize hwq : World.drewN wr _ = w2
              have K2 : Hid (Kp w1 w2) := by show Kp w1 w2; rw [← hwq]; exact Step.drewN KQ.out _
              clear hwq a0 a1 a2 a3 a4 a5
              go_wp2
              go_loopw [7, 8] (fun a n wr => ∃ m : Nat, m ≤ k ∧ n = .int .i64 m ∧ ∃ z : Int, a = .int .i64 z ∧ Hid (Lat M c.t m z ∧ Kp w1 wr)) (fun _ n _ => k - (intOf n).toNat)
              case atStart => exact ⟨0, Nat.zero_le _, rfl, _, rfl, lat_start _ _, K2.out⟩
              case round =>
                obtain ⟨m, hm, rfl, z, rfl, T⟩ := hrel
                obtain ⟨a0, a1, a2, a3, a4, a5, _⟩ := HCQ.out _ T.out.2
                by_cases hlm : m < k
                · have hlm' : (m : Int) < (k : Int) := by omega
                  have j1 : (0 : Int) ≤ (m : Int) := by omega
                  have j3 : ((m : Int)).toNat = m := by omega
                  obtain ⟨b0, b1, b2, b3, b4, b5, _⟩ := HCM.out _ T.out.2 m hlm
                  by_cases e : (atJ M m).t = c.t
                  · have e' : ((atJ M m).t == c.t) = true := by simp [e]
                    have T2 : Hid (Lat M c.t (m + 1) (m : Int)) := lat_hit e
                    clear e
                    generalize atJ M m = y at *
                    go_wp2_with fail
                    go_quiet (fail)
                    generalize hwq : World.drewN _ _ = w3
                    have K3 : Kp w1 w3 := by rw [← hwq]; exact Step.drewN T.out.2 _
                    clear hwq
                    go_wp2
                    go_roundw
                    case rel => exact ⟨m + 1, by omega, by go_num, _, rfl, T2.out, K3⟩
                    case measure => simp [intOf]; omega
                  · have e' : ((atJ M m).t == c.t) = false := by simp [e]
                    have T2 : Hid (Lat M c.t (m + 1) z) := lat_miss e T.out.1
                    clear e
                    generalize atJ M m = y at *
                    go_wp2_with fail
                    go_quiet (fail)
                    generalize hwq : World.drewN _ _ = w3
                    have K3 : Kp w1 w3 := by rw [← hwq]; exact Step.drewN T.out.2 _
                    clear hwq
                    go_wp2
                    go_roundw
                    case rel => exact ⟨m + 1, by omega, by go_num, _, rfl, T2.out, K3⟩
                    case measure => simp [intOf]; omega
                · have hlm' : ¬ (m : Int) < (k : Int) := by omega
                  have hmk : m = k := by omega
                  have ez : z = (n0 : Int) := HLAST.out z (by rw [← hmk]; exact T.out.1)
                  subst ez
                  have l1 : (n0 : Int) < (k : Int) := by omega
                  have l2 : (0 : Int) ≤ (n0 : Int) := by omega
                  have l3 : ((n0 : Int)).toNat = n0 := by omega
                  have l4 : decide ((n0 : Int) < 0) = false := decide_eq_false (by omega)
                  have E := HE.out
                  obtain ⟨b0, b1, b2, b3, b4, b5, _⟩ := HCN.out _ T.out.2
                  clear hmk
                  go_wp2_with fail
                  go_quiet (fail)
                  generalize hwq : World.drewN _ _ = w3
                  have K3 : Hid (Kp w1 w3) := by show Kp w1 w3; rw [← hwq]; exact Step.drewN T.out.2 _
                  clear hwq
                  go_wp2
                  go_roundw
                  case rel => exact ⟨q + 1, by omega, by go_num, K3⟩
                  case measure => simp [intOf]; omega
            · have hr : r < L.length := by omega
              have g0 : decide ((0 : Int) < (q : Int)) = true := decide_eq_true (by omega)
              have g0' : decide (0 < q) = true := decide_eq_true (by omega)
              have v1 : IntKind.i64.wrap ((q : Int) - 1) = (r : Int) := by rw [IntKind.wrap_i64]; omega
              have r1 : (0 : Int) ≤ (r : Int) := by omega
              have r2 : (r : Int) < (L.length : Int) := by omega
              have r3 : ((r : Int)).toNat = r := by omega
              obtain ⟨d0, d1, d2, d3, d4, d5, _⟩ := HC1.out _ KQ.out r hr
              generalize atJ L r = p at *
              have t1 : decide (c.d < p.d) = false := decide_eq_false (by omega)
              have t2 : (c.d == p.d) = false := beq_eq_false_iff_ne.2 (by omega)
              clear HW10 e h
              go_wp2_with fail
              go_quiet (fail)
              generalize hwq : World.drewN wr _ = w2
              have K2 : Hid (Kp w1 w2) := by show Kp w1 w2; rw [← hwq]; exact Step.drewN KQ.out _
              clear hwq a0 a1 a2 a3 a4 a5
              go_wp2
              go_loopw [7, 8] (fun a n wr => ∃ m : Nat, m ≤ k ∧ n = .int .i64 m ∧ ∃ z : Int, a = .int .i64 z ∧ Hid (Lat M c.t m z ∧ Kp w1 wr)) (fun _ n _ => k - (intOf n).toNat)
              case atStart => exact ⟨0, Nat.zero_le _, rfl, _, rfl, lat_start _ _, K2.out⟩
              case round =>
                obtain ⟨m, hm, rfl, z, rfl, T⟩ := hrel
                obtain ⟨a0, a1, a2, a3, a4, a5, _⟩ := HCQ.out _ T.out.2
                by_cases hlm : m < k
                · have hlm' : (m : Int) < (k : Int) := by omega
                  have j1 : (0 : Int) ≤ (m : Int) := by omega
                  have j3 : ((m : Int)).toNat = m := by omega
                  obtain ⟨b0, b1, b2, b3, b4, b5, _⟩ := HCM.out _ T.out.2 m hlm
                  by_cases e : (atJ M m).t = c.t
                  · have e' : ((atJ M m).t == c.t) = true := by simp [e]
                    have T2 : Hid (Lat M c.t (m + 1) (m : Int)) := lat_hit e
                    clear e
                    generalize atJ M m = y at *
                    go_wp2_with fail
                    go_quiet (fail)
                    generalize hwq : World.drewN _ _ = w3
                    have K3 : Kp w1 w3 := by rw [← hwq]; exact Step.drewN T.out.2 _
                    clear hwq
                    go_wp2
                    go_roundw
                    case rel => exact ⟨m + 1, by omega, by go_num, _, rfl, T2.out, K3⟩
                    case measure => simp [intOf]; omega
                  · have e' : ((atJ M m).t == c.t) = false := by simp [e]
                    have T2 : Hid (Lat M c.t (m + 1) z) := lat_miss e T.out.1
                    clear e
                    generalize atJ M m = y at *
                    go_wp2_with fail
                    go_quiet (fail)
                    generalize hwq : World.drewN _ _ = w3
                    have K3 : Kp w1 w3 := by rw [← hwq]; exact Step.drewN T.out.2 _
                    clear hwq
                    go_wp2
                    go_roundw
                    case rel => exact ⟨m + 1, by omega, by go_num, _, rfl, T2.out, K3⟩
                    case measure => simp [intOf]; omega
                · have hlm' : ¬ (m : Int) < (k : Int) := by omega
                  have hmk : m = k := by omega
                  have ez : z = (n0 : Int) := HLAST.out z (by rw [← hmk]; exact T.out.1)
                  subst ez
                  have l1 : (n0 : Int) < (k : Int) := by omega
                  have l2 : (0 : Int) ≤ (n0 : Int) := by omega
                  have l3 : ((n0 : Int)).toNat = n0 := by omega
                  have l4 : decide ((n0 : Int) < 0) = false := decide_eq_false (by omega)
                  have E := HE.out
                  obtain ⟨b0, b1, b2, b3, b4, b5, _⟩ := HCN.out _ T.out.2
                  clear hmk
                  go_wp2_with fail
                  go_quiet (fail)
                  generalize hwq : World.drewN _ _ = w3
                  have K3 : Hid (Kp w1 w3) := by show Kp w1 w3; rw [← hwq]; exact Step.drewN T.out.2 _
                  clear hwq
                  go_wp2
                  go_roundw
                  case rel => exact ⟨q + 1, by omega, by go_num, K3⟩
                  case measure => simp [intOf]; omega
            · have hr : r < L.length := by omega
              have g0 : decide ((0 : Int) < (q : Int)) = true := decide_eq_true (by omega)
              have g0' : decide (0 < q) = true := decide_eq_true (by omega)
              have v1 : IntKind.i64.wrap ((q : Int) - 1) = (r : Int) := by rw [IntKind.wrap_i64]; omega
              have r1 : (0 : Int) ≤ (r : Int) := by omega
              have r2 : (r : Int) < (L.length : Int) := by omega
              have r3 : ((r : Int)).toNat = r := by omega
              obtain ⟨d0, d1, d2, d3, d4, d5, _⟩ := HC1.out _ KQ.out r hr
              generalize atJ L r = p at *
              have t1 : decide (c.d < p.d) = false := decide_eq_false (by omega)
              have t2 : (c.d == p.d) = true := beq_iff_eq.2 (by omega)
              have t3 : decide (c.t ≤ p.t) = false := decide_eq_false (by omega)
              clear HW10 e h1 h2
              go_wp2_with fail
              go_quiet (fail)
              generalize hwq : World.drewN wr _ = w2
              have K2 : Hid (Kp w1 w2) := by show Kp w1 w2; rw [← hwq]; exact Step.drewN KQ.out _
              clear hwq a0 a1 a2 a3 a4 a5
              go_wp2
              go_loopw [7, 8] (fun a n wr => ∃ m : Nat, m ≤ k ∧ n = .int .i64 m ∧ ∃ z : Int, a = .int .i64 z ∧ Hid (Lat M c.t m z ∧ Kp w1 wr)) (fun _ n _ => k - (intOf n).toNat)
              case atStart => exact ⟨0, Nat.zero_le _, rfl, _, rfl, lat_start _ _, K2.out⟩
              case round =>
                obtain ⟨m, hm, rfl, z, rfl, T⟩ := hrel
                obtain ⟨a0, a1, a2, a3, a4, a5, _⟩ := HCQ.out _ T.out.2
                by_cases hlm : m < k
                · have hlm' : (m : Int) < (k : Int) := by omega
                  have j1 : (0 : Int) ≤ (m : Int) := by omega
                  have j3 : ((m : Int)).toNat = m := by omega
                  obtain ⟨b0, b1, b2, b3, b4, b5, _⟩ := HCM.out _ T.out.2 m hlm
                  by_cases e : (atJ M m).t = c.t
                  · have e' : ((atJ M m).t == c.t) = true := by simp [e]
                    have T2 : Hid (Lat M c.t (m + 1) (m : Int)) := lat_hit e
                    clear e
                    generalize atJ M m = y at *
                    go_wp2_with fail
                    go_quiet (fail)
                    generalize hwq : World.drewN _ _ = w3
                    have K3 : Kp w1 w3 := by rw [← hwq]; exact Step.drewN T.out.2 _
                    clear hwq
                    go_wp2
                    go_roundw
                    case rel => exact ⟨m + 1, by omega, by go_num, _, rfl, T2.out, K3⟩
                    case measure => simp [intOf]; omega
                  · have e' : ((atJ M m).t == c.t) = false := by simp [e]
                    have T2 : Hid (Lat M c.t (m + 1) z) := lat_miss e T.out.1
                    clear e
                    generalize atJ M m = y at *
                    go_wp2_with fail
                    go_quiet (fail)
                    generalize hwq : World.drewN _ _ = w3
                    have K3 : Kp w1 w3 := by rw [← hwq]; exact Step.drewN T.out.2 _
                    clear hwq
                    go_wp2
                    go_roundw
                    case rel => exact ⟨m + 1, by omega, by go_num, _, rfl, T2.out, K3⟩
                    case measure => simp [intOf]; omega
                · have hlm' : ¬ (m : Int) < (k : Int) := by omega
                  have hmk : m = k := by omega
                  have ez : z = (n0 : Int) := HLAST.out z (by rw [← hmk]; exact T.out.1)
                  subst ez
                  have l1 : (n0 : Int) < (k : Int) := by omega
                  have l2 : (0 : Int) ≤ (n0 : Int) := by omega
                  have l3 : ((n0 : Int)).toNat = n0 := by omega
                  have l4 : decide ((n0 : Int) < 0) = false := decide_eq_false (by omega)
                  have E := HE.out
                  obtain ⟨b0, b1, b2, b3, b4, b5, _⟩ := HCN.out _ T.out.2
                  clear hmk
                  go_wp2_with fail
                  go_quiet (fail)
                  generalize hwq : World.drewN _ _ = w3
                  have K3 : Hid (Kp w1 w3) := by show Kp w1 w3; rw [← hwq]; exact Step.drewN T.out.2 _
                  clear hwq
                  go_wp2
                  go_roundw
                  case rel => exact ⟨q + 1, by omega, by go_num, K3⟩
                  case measure => simp [intOf]; omega
          · have hlq' : ¬ (q : Int) < (L.length : Int) := by omega
            clear hlq hq
            go_wp2
            go_loopw [9] (fun i wr => ∃ n : Nat, n ≤ k ∧ i = .int .i64 n ∧ Hid (Kp w1 wr)) (fun i _ => k - (intOf i).toNat)
            case atStart => exact ⟨0, Nat.zero_le _, rfl, KQ⟩
            case round =>
              obtain ⟨n, hn, rfl, KN⟩ := hrel
              by_cases hln : n < k
              · have hln' : (n : Int) < (k : Int) := by omega
                have i1 : (0 : Int) ≤ (n : Int) := by omega
                have i3 : ((n : Int)).toNat = n := by omega
                have hmem := HHAS.out n hln
                obtain ⟨a0, a1, a2, a3, a4, a5, _⟩ := HCM.out _ KN.out n hln
                have HO : Hid (∀ W, Kp w1 W → ∃ y : Jb, Calls Try.prog 14 #[.slice (some ⟨g1, 0, none⟩) L.length c1, .int .i64 (atJ M n).t] W fun e w' => e = .returned (.tuple #[.agg #[.int .i64 y.t, .int .i64 y.r, .int .i64 y.d, .int .i64 y.l, .int .i64 y.x, .bool y.s], .bool true]) ∧ Kp W w') := by
                  intro W kk
                  refine ⟨jobOf L (atJ M n).t, ?_⟩
                  have := rof_any _ _ L (atJ M n).t W (HL1.out.kp kk) (jobOf L (atJ M n).t) rfl
                  rw [decide_eq_true hmem] at this
                  exact this
                clear hmem
                generalize (atJ M n).t = t at *
                obtain ⟨y, HOY⟩ := HO.out wr KN.out
                go_wp2_with (first
                  | (go_at_call 14; refine HOY.mono ?_; rintro e w5 ⟨rfl, k5⟩)
                  | fail)
                have K6 : Hid (Kp w1 (w5.alloc (.cells #[.int .i64 y.t, .int .i64 y.r, .int .i64 y.d, .int .i64 y.l, .int .i64 y.x, .bool y.s] 27))) := Step.trans KN.out (Step.alloc k5 _)
                go_roundw
                case rel => exact ⟨n + 1, by omega, by go_num, K6⟩
                case measure => simp [intOf]; omega
              · have hln' : ¬ (n : Int) < (k : Int) := by omega
                go_wp2_with (first
                  | (go_at_call 21; refine (answers_any _).mono ?_; rintro e w5 ⟨rfl, k5⟩)
                  | fail)
                go_ret
                exact ⟨rfl, Step.trans (Step.trans KW.out KN.out) k5⟩
      · have hz : L = [] := List.length_eq_zero_iff.1 (by omega)
        have hk0 : k = 0 := by
          refine Decidable.byContradiction fun e => ?_
          have := HHAS.out 0 (by omega)
          rw [hz] at this
          simp [tks] at this
        have q1 : ∃ a c, v1 = .slice a 0 c := by
          subst hz
          rcases l1.cases with ⟨rfl, _⟩ | ⟨g, cap, rfl, _⟩
          · exact ⟨_, _, rfl⟩
          · exact ⟨_, _, rfl⟩
        obtain ⟨a1, c1, rfl⟩ := q1
        subst hk0
        go_wp2
        refine wp_loop_rounds 1 ?_
        rw [rounds_succ]
        go_wp2
        refine wp_loop_rounds 1 ?_
        rw [rounds_succ]
        go_wp2_with (first
          | (go_at_call 21; refine (answers_any _).mono ?_; rintro e w5 ⟨rfl, k5⟩)
          | fail)
        go_ret
        exact ⟨rfl, Step.trans KW.out k5⟩

theorem readyOrder_walk (ao : Option Addr) (len cap : Nat) (M : List Jb) (w : World) (J : JobsAt w ao len M) (hby : len * 48 ≤ 140737488351232) :
    Calls Try.prog 4 #[.slice ao len cap] w fun e w' => e = .returned (.bool true) ∧ Below w.heap.size w w' :=
  (readyOrder_go ao len cap M w J hby).mono fun _ _ ⟨he, k⟩ => ⟨he, Kp.bel k⟩

end Go.Proofs.Ytphaedkmijdphaa.RD
