/- In a machine that may be, a stay in a sleep state of its Even or more costs no more than to idle; a device that is away so long no more than if it is on. -/
import Derived.Test.YtcdjgmcepjaldaaAns
namespace Go.Proofs.Ytcdjgmcepjaldaa.TB
open Go.ChangeShapes Go.WideShapes Go.ChangeAt Go.RowKit Go.Proofs.Ytcdjgmcepjaldaa.AR

/-- to be away for longer pays too -/
theorem away_more {on off down up downE upE even more : Int} (h : awayB on off down up downE upE even = true) (h0 : 0 ≤ more ∧ more ≤ 65535) :
    (0 ≤ down ∧ down ≤ 256) ∧ (0 ≤ up ∧ up ≤ 256) ∧ (0 ≤ downE ∧ downE ≤ 65536) ∧ (0 ≤ upE ∧ upE ≤ 65536) ∧ (1 ≤ even ∧ down + up ≤ even ∧ even ≤ 16384) ∧
      ¬ wrap64 (on * (even + more)) < wrap64 (downE + upE + wrap64 (off * (even + more - down - up))) := by
  obtain ⟨h1, h2, h3, h4, h5, h6, hE, h8⟩ := awayB_t.1 h
  refine ⟨h3, h4, h5, h6, hE, ?_⟩
  have m1 := mul_bound (a := off) (b := even + more - down - up) (A := 65536) (B := 131072) h2.1 (by omega) (by omega) (by omega)
  have m2 := mul_bound (a := on) (b := even + more) (A := 65536) (B := 131072) h1.1 h1.2 (by omega) (by omega)
  have m3 : off * more ≤ on * more := Int.mul_le_mul_of_nonneg_right h2.2 h0.1
  have e1 : off * (even + more - down - up) = off * (even - down - up) + off * more := by rw [← Int.mul_add]; congr 1; omega
  have e2 : on * (even + more) = on * even + on * more := Int.mul_add _ _ _
  rw [IntWalk.wrap64_in (off * (even + more - down - up)) (by omega), IntWalk.wrap64_in (on * (even + more)) (by omega), IntWalk.wrap64_in _ (by omega)]
  omega

theorem u16_bound {x : Int} (h : (Lit.int .u16 x).wf = true) : 0 ≤ x ∧ x ≤ 65535 := by
  simp [Lit.wf, IntKind.min, IntKind.max, IntKind.signed, IntKind.bits] at h
  omega

set_option maxRecDepth 100000 in
set_option maxHeartbeats 8000000 in
theorem tableSaves_walk (aL : Option Addr) (lL cL : Nat) (rL : List (List Int)) (aS : Option Addr) (lS cS : Nat) (rS : List (List Int)) (aD : Option Addr) (lD cD : Nat) (rD : List (List Int)) (idle crit sw swe sems hor : Int) (more : Int) (w : World)
    (h : Mach w aL lL rL aS lS rS aD lD rD) (hmo : (Lit.int .u16 more).wf = true) :
    Calls Try.prog 4 #[pv aL lL cL aS lS cS aD lD cD idle crit sw swe sems hor, .int .u16 more] w
      fun e w' => e = .returned (.bool true) ∧ Below w.heap.size w w' := by
  have HB : Hid (∀ o, Kp w (w.alloc o)) := fun o => (Kp.refl w).alloc o
  have HE : Hid (∀ w', Kp w w' → Below w.heap.size w w') := fun w' q => q
  have HX : Hid (Bx w (w.alloc (.cells #[.slice aL lL cL, .slice aS lS cS, .slice aD lD cD, .int .i64 idle, .int .i64 crit, .int .i64 sw, .int .i64 swe, .int .i64 sems, .int .i64 hor] 26)) (.slice aL lL cL) (.slice aS lS cS) (.slice aD lD cD) idle crit) := bx_new w _ _ _ _ _ _ _ _ _
  have et : Hid (erc true = 0) := rfl
  have ef : Hid (erc false = 2) := rfl
  have hmb := u16_bound hmo
  clear hmo
  unfold pv
  cases hm : mayB lL rL lS rS lD rD idle crit sw swe sems hor with
  | false =>
    go_enter Try.func4, Try.ntmps4
    try dsimp only [List.append]
    go_wp2_with fail
    refine (check_any aL lL cL rL aS lS cS rS aD lD cD rD _ _ _ _ _ _ _ (h.kept (HB.out _))).mono ?_
    rintro e w1 ⟨rfl, k1⟩
    rw [hm, ef.out]
    go_wp2_with fail
    refine (tanswers_any _).mono ?_
    rintro e w2 ⟨rfl, k2⟩
    go_wp2
    go_ret
    exact ⟨rfl, HE.out _ ((HB.out _).trans (k1.trans k2))⟩
  | true =>
    obtain ⟨q1, q2, q3, q4, q5⟩ := mayB_t.1 hm
    have Q4 : Hid (∀ i, i < lS → awayB idle (fd rS i 0) (fd rS i 1) (fd rS i 2) (fd rS i 3) (fd rS i 4) (fd rS i 5) = true) := q4.2
    have Q5 : Hid (∀ i, i < lD → awayB (fd rD i 0) (fd rD i 1) (fd rD i 2) (fd rD i 3) (fd rD i 4) (fd rD i 5) (fd rD i 6) = true) := q5.2
    have a2 := q4.1
    have a3 := q5.1
    clear q1 q2 q3 q4 q5
    go_enter Try.func4, Try.ntmps4
    try dsimp only [List.append]
    go_wp2_with fail
    refine (check_any aL lL cL rL aS lS cS rS aD lD cD rD _ _ _ _ _ _ _ (h.kept (HB.out _))).mono ?_
    rintro e w1 ⟨rfl, k1⟩
    rw [hm, et.out]
    clear hm
    have X := HX.out.still k1
    clear k1 HX
    go_wp2_with fail
    go_loopw [5] (fun i wr => ∃ k : Nat, k ≤ lS ∧ i = .int .i64 k ∧ Bx w wr (.slice aL lL cL) (.slice aS lS cS) (.slice aD lD cD) idle crit) (fun i _ => lS - (intOf i).toNat)
    case atStart => exact ⟨0, Nat.zero_le _, rfl, X⟩
    case round =>
      obtain ⟨k, hk, rfl, Y⟩ := hrel
      clear X
      have d1 := Y.d1
      have d3 := Y.d3
      have hsz := Y.sz
      have hne : w.heap.size ≠ wr.heap.size := Nat.ne_of_lt Y.sz
      by_cases hlt : k < lS
      · have hlt' : (k : Int) < (lS : Int) := by omega
        obtain ⟨b, off, rfl, hb, hc⟩ := fd_at h.slp hlt Y.kp
        have c0 := hc 0 (by omega)
        have c1 := hc 1 (by omega)
        have c2 := hc 2 (by omega)
        have c3 := hc 3 (by omega)
        have c4 := hc 4 (by omega)
        have c5 := hc 5 (by omega)
        clear hc
        simp only [Nat.add_zero] at c0
        obtain ⟨g1, g2, g3, g4, g5, g6⟩ := away_more (Q4.out k hlt) hmb
        generalize fd rS k 0 = x0 at *
        generalize fd rS k 1 = x1 at *
        generalize fd rS k 2 = x2 at *
        generalize fd rS k 3 = x3 at *
        generalize fd rS k 4 = x4 at *
        generalize fd rS k 5 = x5 at *
        go_wp2
        go_roundw
        case rel => exact ⟨k + 1, by omega, by go_num, Y.still ((Kp.refl _).alloc _)⟩
        case measure => simp [intOf]; omega
      · have hlt' : ¬ (k : Int) < (lS : Int) := by omega
        go_wp2_with fail
        clear d1 d3 hlt' hlt hsz hne
        go_loopw [8] (fun i wr => ∃ q : Nat, q ≤ lD ∧ i = .int .i64 q ∧ Bx w wr (.slice aL lL cL) (.slice aS lS cS) (.slice aD lD cD) idle crit) (fun i _ => lD - (intOf i).toNat)
        case atStart => exact ⟨0, Nat.zero_le _, rfl, Y⟩
        case round =>
          obtain ⟨q, hq, rfl, Z⟩ := hrel
          clear Y
          have d2 := Z.d2
          have hsz := Z.sz
          have hne : w.heap.size ≠ wr.heap.size := Nat.ne_of_lt Z.sz
          by_cases hlt : q < lD
          · have hlt' : (q : Int) < (lD : Int) := by omega
            obtain ⟨b, off, rfl, hb, hc⟩ := fd_at h.dvs hlt Z.kp
            have c0 := hc 0 (by omega)
            have c1 := hc 1 (by omega)
            have c2 := hc 2 (by omega)
            have c3 := hc 3 (by omega)
            have c4 := hc 4 (by omega)
            have c5 := hc 5 (by omega)
            have c6 := hc 6 (by omega)
            clear hc
            simp only [Nat.add_zero] at c0
            obtain ⟨g1, g2, g3, g4, g5, g6⟩ := away_more (Q5.out q hlt) hmb
            generalize fd rD q 0 = x0 at *
            generalize fd rD q 1 = x1 at *
            generalize fd rD q 2 = x2 at *
            generalize fd rD q 3 = x3 at *
            generalize fd rD q 4 = x4 at *
            generalize fd rD q 5 = x5 at *
            generalize fd rD q 6 = x6 at *
            go_wp2
            go_roundw
            case rel => exact ⟨q + 1, by omega, by go_num, Z.still ((Kp.refl _).alloc _)⟩
            case measure => simp [intOf]; omega
          · have hlt' : ¬ (q : Int) < (lD : Int) := by omega
            go_wp2_with fail
            refine (tanswers_any _).mono ?_
            rintro e w2 ⟨rfl, k2⟩
            go_wp2
            go_ret
            exact ⟨rfl, HE.out _ (Z.kp.trans k2)⟩

end Go.Proofs.Ytcdjgmcepjaldaa.TB
