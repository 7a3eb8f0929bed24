/- How many cycles, and how many switches, a list of intervals has. -/
import Derived.Test.YtbhgjaaaffjjeaaGagFun
namespace Go.Proofs.Ytbhgjaaaffjjeaa.GG
open Go.ChangeShapes Go.WideShapes Go.ChangeAt Go.RowKit Go.Proofs.Ytbhgjaaaffjjeaa.AR Go.Proofs.Ytbhgjaaaffjjeaa.TB
set_option linter.unusedVariables false

theorem cyS_one {r : List (List Int)} {k : Nat} (h : fd r k 0 = 1) : wrap64 (wrap64 (cyS r k) + fd r k 5) = wrap64 (cyS r (k + 1)) := by rw [wrap_add]; show _ = wrap64 (_ + if _ then _ else _); rw [if_pos h]
theorem cyS_no {r : List (List Int)} {k : Nat} (h : ¬ fd r k 0 = 1) : wrap64 (cyS r k) = wrap64 (cyS r (k + 1)) := by show _ = wrap64 (_ + if _ then _ else _); rw [if_neg h, Int.add_zero]
theorem swS_one {r : List (List Int)} {k : Nat} (h : fd r k 0 = 3) : wrap64 (wrap64 (swS r k) + 1) = wrap64 (swS r (k + 1)) := by rw [wrap_add]; show _ = wrap64 (_ + if _ then _ else _); rw [if_pos h]
theorem swS_no {r : List (List Int)} {k : Nat} (h : ¬ fd r k 0 = 3) : wrap64 (swS r k) = wrap64 (swS r (k + 1)) := by show _ = wrap64 (_ + if _ then _ else _); rw [if_neg h, Int.add_zero]

set_option maxHeartbeats 4000000 in
theorem cycles_any (ao : Option Addr) (len cap : Nat) (rows : List (List Int)) (w : World) (h : RecAt w 6 ao len rows) (hb : len ≤ 9223372036854775806) :
    Calls Try.prog 12 #[.slice ao len cap] w fun e w' => e = .returned (.int .i64 (wrap64 (cyS rows len))) ∧ Kp w w' := by
  have HL : Hid (RecAt w 6 ao len rows) := h
  have HR : Hid (wrap64 (cyS rows len) = wrap64 (cyS rows len)) := rfl
  go_enter Try.func12, Try.ntmps12
  go_wp2
  go_loopw [3, 8] (fun l i wr => ∃ (k : Nat) (lv : Int), k ≤ len ∧ i = .int .i64 k ∧ l = .int .i64 lv ∧ Hid (lv = wrap64 (cyS rows k)) ∧ Kp w wr) (fun _ i _ => len - (intOf i).toNat)
  case atStart => exact ⟨0, 0, Nat.zero_le _, rfl, rfl, (by show (0 : Int) = wrap64 0; unfold wrap64; omega), Kp.refl _⟩
  case round =>
    obtain ⟨k, lv, hk, rfl, rfl, HV, hkp⟩ := hrel
    by_cases hlt : k < len
    · have hlt' : (k : Int) < (len : Int) := by omega
      have j1 : (0 : Int) ≤ (k : Int) := by omega
      have j3 : ((k : Int)).toNat = k := by omega
      obtain ⟨b, off, rfl, hbl, hc⟩ := fd_at HL.out hlt hkp
      have c0 := hc 0 (by omega)
      have c1 := hc 1 (by omega)
      have c2 := hc 2 (by omega)
      have c3 := hc 3 (by omega)
      have c4 := hc 4 (by omega)
      have c5 := hc 5 (by omega)
      clear hc
      simp only [Nat.add_zero] at c0
      by_cases hq : fd rows k 0 = 1
      · have HN : Hid (wrap64 (lv + fd rows k 5) = wrap64 (cyS rows (k + 1))) := by show _ = _; rw [HV.out]; exact cyS_one hq
        have q : (fd rows k 0 == 1) = true := by simp [hq]
        clear HV hq
        generalize fd rows k 0 = x0 at *
        generalize fd rows k 1 = x1 at *
        generalize fd rows k 2 = x2 at *
        generalize fd rows k 3 = x3 at *
        generalize fd rows k 4 = x4 at *
        generalize fd rows k 5 = x5 at *
        go_wp2
        go_roundw
        case rel => exact ⟨k + 1, _, by omega, by go_num, rfl, HN, hkp.alloc _⟩
        case measure => simp [intOf]; omega
      · have HN : Hid (lv = wrap64 (cyS rows (k + 1))) := by show _ = _; rw [HV.out]; exact cyS_no hq
        have q : (fd rows k 0 == 1) = false := by simp [hq]
        clear HV hq
        generalize fd rows k 0 = x0 at *
        generalize fd rows k 1 = x1 at *
        generalize fd rows k 2 = x2 at *
        generalize fd rows k 3 = x3 at *
        generalize fd rows k 4 = x4 at *
        generalize fd rows k 5 = x5 at *
        go_wp2
        go_roundw
        case rel => exact ⟨k + 1, _, by omega, by go_num, rfl, HN, hkp.alloc _⟩
        case measure => simp [intOf]; omega
    · have hlt' : ¬ (k : Int) < (len : Int) := by omega
      obtain rfl : k = len := by omega
      have HN : Hid (lv = wrap64 (cyS rows k)) := HV.out
      clear HR HV
      go_wp2
      go_ret
      exact ⟨by rw [← HN.out]; rfl, hkp⟩

set_option maxHeartbeats 4000000 in
theorem rcycles_any (ao : Option Addr) (len cap : Nat) (rows : List (List Int)) (w : World) (h : RecAt w 6 ao len rows) (hb : len ≤ 9223372036854775806) :
    Calls Try.prog 13 #[.slice ao len cap] w fun e w' => e = .returned (.int .i64 (wrap64 (cyS rows len))) ∧ Kp w w' := by
  have HL : Hid (RecAt w 6 ao len rows) := h
  have HR : Hid (wrap64 (cyS rows len) = wrap64 (cyS rows len)) := rfl
  go_enter Try.func13, Try.ntmps13
  go_wp2
  go_loopw [3, 4] (fun l i wr => ∃ (k : Nat) (lv : Int), k ≤ len ∧ i = .int .i64 k ∧ l = .int .i64 lv ∧ Hid (lv = wrap64 (cyS rows k)) ∧ Kp w wr) (fun _ i _ => len - (intOf i).toNat)
  case atStart => exact ⟨0, 0, Nat.zero_le _, rfl, rfl, (by show (0 : Int) = wrap64 0; unfold wrap64; omega), Kp.refl _⟩
  case round =>
    obtain ⟨k, lv, hk, rfl, rfl, HV, hkp⟩ := hrel
    by_cases hlt : k < len
    · have hlt' : (k : Int) < (len : Int) := by omega
      have j1 : (0 : Int) ≤ (k : Int) := by omega
      have j3 : ((k : Int)).toNat = k := by omega
      obtain ⟨b, off, rfl, hbl, hc⟩ := fd_at HL.out hlt hkp
      have c0 := hc 0 (by omega)
      have c1 := hc 1 (by omega)
      have c2 := hc 2 (by omega)
      have c3 := hc 3 (by omega)
      have c4 := hc 4 (by omega)
      have c5 := hc 5 (by omega)
      clear hc
      simp only [Nat.add_zero] at c0
      by_cases hq : fd rows k 0 = 1
      · have HN : Hid (wrap64 (lv + fd rows k 5) = wrap64 (cyS rows (k + 1))) := by show _ = _; rw [HV.out]; exact cyS_one hq
        have q : (fd rows k 0 == 1) = true := by simp [hq]
        clear HV hq
        generalize fd rows k 0 = x0 at *
        generalize fd rows k 1 = x1 at *
        generalize fd rows k 2 = x2 at *
        generalize fd rows k 3 = x3 at *
        generalize fd rows k 4 = x4 at *
        generalize fd rows k 5 = x5 at *
        go_wp2
        go_roundw
        case rel => exact ⟨k + 1, _, by omega, by go_num, rfl, HN, hkp⟩
        case measure => simp [intOf]; omega
      · have HN : Hid (lv = wrap64 (cyS rows (k + 1))) := by show _ = _; rw [HV.out]; exact cyS_no hq
        have q : (fd rows k 0 == 1) = false := by simp [hq]
        clear HV hq
        generalize fd rows k 0 = x0 at *
        generalize fd rows k 1 = x1 at *
        generalize fd rows k 2 = x2 at *
        generalize fd rows k 3 = x3 at *
        generalize fd rows k 4 = x4 at *
        generalize fd rows k 5 = x5 at *
        go_wp2
        go_roundw
        case rel => exact ⟨k + 1, _, by omega, by go_num, rfl, HN, hkp⟩
        case measure => simp [intOf]; omega
    · have hlt' : ¬ (k : Int) < (len : Int) := by omega
      obtain rfl : k = len := by omega
      have HN : Hid (lv = wrap64 (cyS rows k)) := HV.out
      clear HR HV
      go_wp2
      go_ret
      exact ⟨by rw [← HN.out]; rfl, hkp⟩

set_option maxHeartbeats 4000000 in
theorem switches_any (ao : Option Addr) (len cap : Nat) (rows : List (List Int)) (w : World) (h : RecAt w 6 ao len rows) (hb : len ≤ 9223372036854775806) :
    Calls Try.prog 14 #[.slice ao len cap] w fun e w' => e = .returned (.int .i64 (wrap64 (swS rows len))) ∧ Kp w w' := by
  have HL : Hid (RecAt w 6 ao len rows) := h
  have HR : Hid (wrap64 (swS rows len) = wrap64 (swS rows len)) := rfl
  go_enter Try.func14, Try.ntmps14
  go_wp2
  go_loopw [3, 8] (fun l i wr => ∃ (k : Nat) (lv : Int), k ≤ len ∧ i = .int .i64 k ∧ l = .int .i64 lv ∧ Hid (lv = wrap64 (swS rows k)) ∧ Kp w wr) (fun _ i _ => len - (intOf i).toNat)
  case atStart => exact ⟨0, 0, Nat.zero_le _, rfl, rfl, (by show (0 : Int) = wrap64 0; unfold wrap64; omega), Kp.refl _⟩
  case round =>
    obtain ⟨k, lv, hk, rfl, rfl, HV, hkp⟩ := hrel
    by_cases hlt : k < len
    · have hlt' : (k : Int) < (len : Int) := by omega
      have j1 : (0 : Int) ≤ (k : Int) := by omega
      have j3 : ((k : Int)).toNat = k := by omega
      obtain ⟨b, off, rfl, hbl, hc⟩ := fd_at HL.out hlt hkp
      have c0 := hc 0 (by omega)
      have c1 := hc 1 (by omega)
      have c2 := hc 2 (by omega)
      have c3 := hc 3 (by omega)
      have c4 := hc 4 (by omega)
      have c5 := hc 5 (by omega)
      clear hc
      simp only [Nat.add_zero] at c0
      by_cases hq : fd rows k 0 = 3
      · have HN : Hid (wrap64 (lv + 1) = wrap64 (swS rows (k + 1))) := by show _ = _; rw [HV.out]; exact swS_one hq
        have q : (fd rows k 0 == 3) = true := by simp [hq]
        clear HV hq
        generalize fd rows k 0 = x0 at *
        generalize fd rows k 1 = x1 at *
        generalize fd rows k 2 = x2 at *
        generalize fd rows k 3 = x3 at *
        generalize fd rows k 4 = x4 at *
        generalize fd rows k 5 = x5 at *
        go_wp2
        go_roundw
        case rel => exact ⟨k + 1, _, by omega, by go_num, rfl, HN, hkp.alloc _⟩
        case measure => simp [intOf]; omega
      · have HN : Hid (lv = wrap64 (swS rows (k + 1))) := by show _ = _; rw [HV.out]; exact swS_no hq
        have q : (fd rows k 0 == 3) = false := by simp [hq]
        clear HV hq
        generalize fd rows k 0 = x0 at *
        generalize fd rows k 1 = x1 at *
        generalize fd rows k 2 = x2 at *
        generalize fd rows k 3 = x3 at *
        generalize fd rows k 4 = x4 at *
        generalize fd rows k 5 = x5 at *
        go_wp2
        go_roundw
        case rel => exact ⟨k + 1, _, by omega, by go_num, rfl, HN, hkp.alloc _⟩
        case measure => simp [intOf]; omega
    · have hlt' : ¬ (k : Int) < (len : Int) := by omega
      obtain rfl : k = len := by omega
      have HN : Hid (lv = wrap64 (swS rows k)) := HV.out
      clear HR HV
      go_wp2
      go_ret
      exact ⟨by rw [← HN.out]; rfl, hkp⟩

set_option maxHeartbeats 4000000 in
theorem rswitches_any (ao : Option Addr) (len cap : Nat) (rows : List (List Int)) (w : World) (h : RecAt w 6 ao len rows) (hb : len ≤ 9223372036854775806) :
    Calls Try.prog 15 #[.slice ao len cap] w fun e w' => e = .returned (.int .i64 (wrap64 (swS rows len))) ∧ Kp w w' := by
  have HL : Hid (RecAt w 6 ao len rows) := h
  have HR : Hid (wrap64 (swS rows len) = wrap64 (swS rows len)) := rfl
  go_enter Try.func15, Try.ntmps15
  go_wp2
  go_loopw [3, 4] (fun l i wr => ∃ (k : Nat) (lv : Int), k ≤ len ∧ i = .int .i64 k ∧ l = .int .i64 lv ∧ Hid (lv = wrap64 (swS rows k)) ∧ Kp w wr) (fun _ i _ => len - (intOf i).toNat)
  case atStart => exact ⟨0, 0, Nat.zero_le _, rfl, rfl, (by show (0 : Int) = wrap64 0; unfold wrap64; omega), Kp.refl _⟩
  case round =>
    obtain ⟨k, lv, hk, rfl, rfl, HV, hkp⟩ := hrel
    by_cases hlt : k < len
    · have hlt' : (k : Int) < (len : Int) := by omega
      have j1 : (0 : Int) ≤ (k : Int) := by omega
      have j3 : ((k : Int)).toNat = k := by omega
      obtain ⟨b, off, rfl, hbl, hc⟩ := fd_at HL.out hlt hkp
      have c0 := hc 0 (by omega)
      have c1 := hc 1 (by omega)
      have c2 := hc 2 (by omega)
      have c3 := hc 3 (by omega)
      have c4 := hc 4 (by omega)
      have c5 := hc 5 (by omega)
      clear hc
      simp only [Nat.add_zero] at c0
      by_cases hq : fd rows k 0 = 3
      · have HN : Hid (wrap64 (lv + 1) = wrap64 (swS rows (k + 1))) := by show _ = _; rw [HV.out]; exact swS_one hq
        have q : (fd rows k 0 == 3) = true := by simp [hq]
        clear HV hq
        generalize fd rows k 0 = x0 at *
        generalize fd rows k 1 = x1 at *
        generalize fd rows k 2 = x2 at *
        generalize fd rows k 3 = x3 at *
        generalize fd rows k 4 = x4 at *
        generalize fd rows k 5 = x5 at *
        go_wp2
        go_roundw
        case rel => exact ⟨k + 1, _, by omega, by go_num, rfl, HN, hkp⟩
        case measure => simp [intOf]; omega
      · have HN : Hid (lv = wrap64 (swS rows (k + 1))) := by show _ = _; rw [HV.out]; exact swS_no hq
        have q : (fd rows k 0 == 3) = false := by simp [hq]
        clear HV hq
        generalize fd rows k 0 = x0 at *
        generalize fd rows k 1 = x1 at *
        generalize fd rows k 2 = x2 at *
        generalize fd rows k 3 = x3 at *
        generalize fd rows k 4 = x4 at *
        generalize fd rows k 5 = x5 at *
        go_wp2
        go_roundw
        case rel => exact ⟨k + 1, _, by omega, by go_num, rfl, HN, hkp⟩
        case measure => simp [intOf]; omega
    · have hlt' : ¬ (k : Int) < (len : Int) := by omega
      obtain rfl : k = len := by omega
      have HN : Hid (lv = wrap64 (swS rows k)) := HV.out
      clear HR HV
      go_wp2
      go_ret
      exact ⟨by rw [← HN.out]; rfl, hkp⟩

end Go.Proofs.Ytbhgjaaaffjjeaa.GG
