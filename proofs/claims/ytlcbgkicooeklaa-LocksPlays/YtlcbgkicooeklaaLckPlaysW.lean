/- Whatever is taken, given, spent and freed: all answers, and all that is held. -/
import Derived.Test.YtlcbgkicooeklaaLckTwin
namespace Go.Proofs.Ytlcbgkicooeklaa.LK
open Go.ChangeShapes Go.WideShapes Go.ChangeAt Go.RowKit Go.Proofs.Ytlcbgkicooeklaa.AR

/-- under way -/
def Pl (w wr : World) (l : Value) (k : Nat) : Prop := ∃ A L, Tw w wr w.heap.size A L l L ∧ L.length ≤ k

set_option maxRecDepth 100000 in
set_option maxHeartbeats 16000000 in
theorem locksPlays_walk (ao : Option Addr) (len cap : Nat) (T : List TK.Tk) (oo : Option Addr) (n ocap : Nat) (rows : List (List Int)) (w : World) (ht : TK.LAt w ao len T) (_ : len * 64 ≤ 140737488351232) (hr : RecAt w 4 oo n rows) (hn : n * 32 ≤ 140737488351232) :
    Calls Try.prog 3 #[.slice ao len cap, .slice oo n ocap] w fun e w' => e = .returned (.bool true) ∧ Below w.heap.size w w' := by
  have HE : Hid (∀ w', Kp w w' → Below w.heap.size w w') := fun w' q => Kp.below q
  have HT : Hid (∀ W, Kp w W → TK.LAt W ao len T) := fun W q => ht.kept (Kp.tb q)
  have HRC : Hid (RecAt w 4 oo n rows) := hr
  clear ht hr
  go_enter Try.func3, Try.ntmps3
  go_wp2_with fail
  refine (new_any _).mono ?_
  rintro e w1 ⟨rfl, r1, k1⟩
  have P1 : Hid (Pl w w1 (.slice none 0 0) 0) := ⟨_, [], tw_new (lkOf_new r1 k1), Nat.le_refl _⟩
  clear r1 k1
  go_wp2
  go_loopw [6, 7] (fun l i wr => ∃ k : Nat, k ≤ n ∧ i = .int .i64 k ∧ Hid (Pl w wr l k)) (fun _ i _ => n - (intOf i).toNat)
  case atStart => exact ⟨0, Nat.zero_le _, rfl, P1⟩
  case round =>
    obtain ⟨k, hk, rfl, G⟩ := hrel
    obtain ⟨A, L, T0, hL⟩ := G.out
    by_cases hlt : k < n
    · have hlt' : (k : Int) < (n : Int) := by omega
      obtain ⟨b, off, rfl, hb, hc⟩ := rec_c4 HRC.out hlt
      obtain ⟨hbw, c0, c1, c2, c3⟩ := hc wr T0.kp
      clear hc
      generalize atO rows k = x at *
      obtain ⟨W0, HW⟩ : ∃ W0, Hid (W0 = wr.alloc (.cells #[.int .i64 x.k, .int .i64 x.t, .int .i64 x.s, .int .i64 x.c] 28)) := ⟨_, rfl⟩
      obtain ⟨k0, bx⟩ := b4_new HW.out
      have T1 := T0.still k0
      have hA : ¬ A wr.heap.size := fun q => absurd (T0.x.rep.lt _ q) (Nat.lt_irrefl _)
      have HKW : Hid (Kp w W0) := T1.kp
      clear k0 T0 G
      by_cases g1 : x.c < -1073741824
      · have g1' : decide (x.c < -1073741824) = true := decide_eq_true g1
        go_wp2_with fail
        rw [← HW.out]
        refine (answers_any _).mono ?_
        rintro e w2 ⟨rfl, k2⟩
        go_wp2
        go_ret
        exact ⟨rfl, HE.out _ (HKW.out.trans k2)⟩
      · have g1' : decide (x.c < -1073741824) = false := decide_eq_false g1
        by_cases g2 : x.c > 1073741824
        · have g2' : decide (1073741824 < x.c) = true := decide_eq_true g2
          go_wp2_with fail
          rw [← HW.out]
          refine (answers_any _).mono ?_
          rintro e w2 ⟨rfl, k2⟩
          go_wp2
          go_ret
          exact ⟨rfl, HE.out _ (HKW.out.trans k2)⟩
        · have g2' : decide (1073741824 < x.c) = false := decide_eq_false g2
          by_cases g3 : (n : Int) > 1048576
          · have g3' : decide ((1048576 : Int) < (n : Int)) = true := decide_eq_true g3
            go_wp2_with fail
            rw [← HW.out]
            refine (answers_any _).mono ?_
            rintro e w2 ⟨rfl, k2⟩
            go_wp2
            go_ret
            exact ⟨rfl, HE.out _ (HKW.out.trans k2)⟩
          · have g3' : decide ((1048576 : Int) < (n : Int)) = false := decide_eq_false g3
            have HL : Hid (L.length + 1 ≤ 5864062014805) := by show _ ≤ _; omega
            by_cases e0 : x.k = 0
            · have e0' : (x.k == 0) = true := by simp [e0]
              clear e0
              go_wp2_with fail
              rw [← HW.out]
              refine (T1.rtake x.t x.s x.c HL.out).mono ?_
              rintro e w3 ⟨v3, rfl, T3, k3⟩
              have bx3 := bx.kp k3
              obtain ⟨p0, p1, p2, p3⟩ := bx3.all
              clear k3 T1 bx
              go_wp2_with fail
              refine (T3.take x.t x.s x.c HL.out).mono ?_
              rintro e w4 ⟨rfl, A4, T4, hq4⟩
              clear hq4 p0 p1 p2 p3 T3 bx3
              go_wp2_with fail
              refine (code_any _ _).mono ?_
              rintro e w5 ⟨rfl, rfl⟩
              go_wp2_with fail
              refine (T4.seen).mono ?_
              rintro e w8 ⟨a8, c8, rfl, l8, T8, k8⟩
              clear k8
              go_wp2_with fail
              refine (T8.same l8).mono ?_
              rintro e w9 ⟨rfl, T9, k9⟩
              clear k9 l8
              have P9 : Hid (Pl w w9 _ (k + 1)) := ⟨_, _, T9, by have := takeL_len L ⟨x.t, x.s, x.c⟩; omega⟩
              clear T8 T9
              go_wp2
              go_roundw
              case rel => exact ⟨k + 1, by omega, by go_num, P9⟩
              case measure => simp [intOf]; omega
            · have e0' : (x.k == 0) = false := by simp [e0]
              by_cases e1 : x.k = 1
              · have e1' : (x.k == 1) = true := by simp [e1]
                clear e1
                go_wp2_with fail
                rw [← HW.out]
                refine (T1.rgive x.t x.s).mono ?_
                rintro e w3 ⟨v3, rfl, T3, k3⟩
                have bx3 := bx.kp k3
                obtain ⟨p0, p1, p2, p3⟩ := bx3.all
                clear k3 T1 bx
                go_wp2_with fail
                refine (T3.give x.t x.s).mono ?_
                rintro e w4 ⟨rfl, A4, T4, hq4⟩
                clear hq4 p0 p1 p2 p3 T3 bx3
                go_wp2_with fail
                refine (code_any _ _).mono ?_
                rintro e w5 ⟨rfl, rfl⟩
                go_wp2_with fail
                refine (T4.seen).mono ?_
                rintro e w8 ⟨a8, c8, rfl, l8, T8, k8⟩
                clear k8
                go_wp2_with fail
                refine (T8.same l8).mono ?_
                rintro e w9 ⟨rfl, T9, k9⟩
                clear k9 l8
                have P9 : Hid (Pl w w9 _ (k + 1)) := ⟨_, _, T9, by have := giveL_len L x.t x.s; omega⟩
                clear T8 T9
                go_wp2
                go_roundw
                case rel => exact ⟨k + 1, by omega, by go_num, P9⟩
                case measure => simp [intOf]; omega
              · have e1' : (x.k == 1) = false := by simp [e1]
                by_cases e2 : x.k = 2
                · have e2' : (x.k == 2) = true := by simp [e2]
                  clear e2
                  go_wp2_with fail
                  rw [← HW.out]
                  refine (T1.spend x.t).mono ?_
                  rintro e w3 ⟨rfl, A3, T3, hq3⟩
                  obtain ⟨hA3, bx3⟩ := hq3 _ _ hA bx
                  obtain ⟨p0, p1, p2, p3⟩ := bx3.all
                  clear hq3 T1 bx
                  go_wp2_with fail
                  refine (T3.rspend x.t).mono ?_
                  rintro e w4 ⟨v4, rfl, T4, k4⟩
                  clear k4 p0 p1 p2 p3 T3 bx3
                  go_wp2_with fail
                  refine (T4.seen).mono ?_
                  rintro e w8 ⟨a8, c8, rfl, l8, T8, k8⟩
                  clear k8
                  go_wp2_with fail
                  refine (T8.same l8).mono ?_
                  rintro e w9 ⟨rfl, T9, k9⟩
                  clear k9 l8
                  have P9 : Hid (Pl w w9 _ (k + 1)) := ⟨_, _, T9, by rw [spendL_len]; omega⟩
                  clear T8 T9
                  go_wp2
                  go_roundw
                  case rel => exact ⟨k + 1, by omega, by go_num, P9⟩
                  case measure => simp [intOf]; omega
                · have e2' : (x.k == 2) = false := by simp [e2]
                  by_cases e3 : x.k = 3
                  · have e3' : (x.k == 3) = true := by simp [e3]
                    clear e3
                    go_wp2_with fail
                    rw [← HW.out]
                    obtain ⟨p0, p1, p2, p3⟩ := bx.all
                    have n0 := World.new_ne W0 ⟨wr.heap.size, 0, none⟩ p0
                    have HO1 : Hid (∀ W, Kp W0 W → Calls Try.prog 17 #[.pointer (some ⟨w.heap.size, 0, none⟩), .int .i64 x.t] W fun e w' => e = .returned (.bool (overB L x.t)) ∧ Kp W w') := fun W q => over_any _ A L x.t W (T1.x.rep.kp q)
                    have HO2 : Hid (∀ W, Kp W0 W → Calls Try.prog 18 #[u6, .int .i64 x.t] W fun e w' => e = .returned (.bool (overB L x.t)) ∧ Kp W w') := fun W q => rover_any _ _ u6 L x.t W (T1.l.kp q)
                    have HT1 : Hid (∀ W, Kp W0 W → Tw w W w.heap.size A L u6 L) := fun W q => T1.still q
                    have HBX : Hid (∀ W, Kp W0 W → B4 W wr.heap.size x) := fun W q => bx.kp q
                    clear T1 bx hA
                    generalize overB L x.t = ob at *
                    go_region_held3 (fun w' => w'.cell? ⟨wr.heap.size, 0, none⟩ = some (.int .i64 x.k) ∧ w'.cell? ⟨wr.heap.size, 1, none⟩ = some (.int .i64 x.t) ∧ w'.cell? ⟨wr.heap.size, 2, none⟩ = some (.int .i64 x.s) ∧ w'.cell? ⟨wr.heap.size, 3, none⟩ = some (.int .i64 x.c)) (go_keep) (first
                      | (go_at_call 17; refine (HO1.out _ (by exact (Step.refl _ _).drew)).mono ?_; rintro e w3 ⟨rfl, k3⟩; have KC : Kp W0 w3 := ⟨k3.os, k3.tape, k3.output, k3.size, k3.block⟩; clear k3; obtain ⟨z0, z1, z2, z3⟩ := (HBX.out _ KC).all)
                      | (go_at_call 18; refine (HO2.out _ KC).mono ?_; rintro e w4 ⟨rfl, k4⟩; have KD : Kp W0 w4 := KC.trans k4; clear k4; obtain ⟨y0, y1, y2, y3⟩ := (HBX.out _ KD).all)
                      | fail)
                    all_goals
                      have T4 := HT1.out _ KD
                      go_wp2_with fail
                      refine (T4.seen).mono ?_
                      rintro e w8 ⟨a8, c8, rfl, l8, T8, k8⟩
                      clear k8
                      go_wp2_with fail
                      refine (T8.same l8).mono ?_
                      rintro e w9 ⟨rfl, T9, k9⟩
                      clear k9 l8
                      have P9 : Hid (Pl w w9 _ (k + 1)) := ⟨_, _, T9, by omega⟩
                      clear T8 T9
                      go_wp2
                      go_roundw
                      case rel => exact ⟨k + 1, by omega, by go_num, P9⟩
                      case measure => simp [intOf]; omega
                  · have e3' : (x.k == 3) = false := by simp [e3]
                    by_cases e4 : x.k = 4
                    · have e4' : (x.k == 4) = true := by simp [e4]
                      clear e4
                      go_wp2_with fail
                      rw [← HW.out]
                      refine (T1.free x.t).mono ?_
                      rintro e w3 ⟨rfl, A3, T3, hq3⟩
                      obtain ⟨hA3, bx3⟩ := hq3 _ _ hA bx
                      obtain ⟨p0, p1, p2, p3⟩ := bx3.all
                      clear hq3 T1 bx
                      go_wp2_with fail
                      refine (T3.rfree x.t).mono ?_
                      rintro e w4 ⟨v4, rfl, T4, k4⟩
                      clear k4 p0 p1 p2 p3 T3 bx3
                      go_wp2_with fail
                      refine (T4.seen).mono ?_
                      rintro e w8 ⟨a8, c8, rfl, l8, T8, k8⟩
                      clear k8
                      go_wp2_with fail
                      refine (T8.same l8).mono ?_
                      rintro e w9 ⟨rfl, T9, k9⟩
                      clear k9 l8
                      have P9 : Hid (Pl w w9 _ (k + 1)) := ⟨_, _, T9, by have := freeL_len L x.t; omega⟩
                      clear T8 T9
                      go_wp2
                      go_roundw
                      case rel => exact ⟨k + 1, by omega, by go_num, P9⟩
                      case measure => simp [intOf]; omega
                    · have e4' : (x.k == 4) = false := by simp [e4]
                      go_wp2_with fail
                      rw [← HW.out]
                      refine (lceil_any _ A L ao len cap T _ T1.x.rep (HT.out _ HKW.out)).mono ?_
                      rintro e w3 ⟨rfl, k3⟩
                      have T3 := T1.still k3
                      clear k3 T1
                      go_wp2_with fail
                      refine (rsys_any _ _ u6 L ao len cap T _ T3.l (HT.out _ T3.kp)).mono ?_
                      rintro e w4 ⟨rfl, k4⟩
                      have T4 := T3.still k4
                      clear k4 T3
                      go_wp2_with fail
                      refine (T4.seen).mono ?_
                      rintro e w8 ⟨a8, c8, rfl, l8, T8, k8⟩
                      clear k8
                      go_wp2_with fail
                      refine (T8.same l8).mono ?_
                      rintro e w9 ⟨rfl, T9, k9⟩
                      clear k9 l8
                      have P9 : Hid (Pl w w9 _ (k + 1)) := ⟨_, _, T9, by omega⟩
                      clear T8 T9
                      go_wp2
                      go_roundw
                      case rel => exact ⟨k + 1, by omega, by go_num, P9⟩
                      case measure => simp [intOf]; omega
    · have hlt' : ¬ (k : Int) < (n : Int) := by omega
      go_wp2_with fail
      refine (answers_any _).mono ?_
      rintro e w2 ⟨rfl, k2⟩
      go_wp2
      go_ret
      exact ⟨rfl, HE.out _ (T0.kp.trans k2)⟩

end Go.Proofs.Ytlcbgkicooeklaa.LK
