/- Choose, and the document's Fast: walked. -/
import Derived.Test.YtlhacdbeadchjaaGovFun
import Derived.Deep.RegionHeld3
import Derived.StillTailTactics
namespace Go.Proofs.Ytlhacdbeadchjaa.GV
open Go.ChangeShapes Go.WideShapes Go.ChangeAt Go.RowKit Go.Proofs.Ytlhacdbeadchjaa.AR Go.Proofs.Ytlhacdbeadchjaa.TB Go.Proofs.Ytlhacdbeadchjaa.FX

theorem best_one {m : Mc} {lf sl lv : Int} {k : Nat} (h : 1 ≤ k) : (wh (exI m lf lv k) ≤ sl → best m lf sl lv k = k) ∧ (¬ wh (exI m lf lv k) ≤ sl → best m lf sl lv k = best m lf sl lv (k - 1)) := by
  obtain ⟨j, rfl⟩ : ∃ j, k = j + 1 := ⟨k - 1, by omega⟩
  exact ⟨fun q => best_t q, fun q => by rw [best_f q]; rfl⟩

set_option maxHeartbeats 8000000 in
theorem choose_any (m : Mc) (pol st lf sl lv : Int) (w : World) (h : m.At w) (hb : Bd m) (hl : 0 ≤ lf ∧ lf ≤ 8192) :
    Calls Try.prog 15 #[m.v, .int .i64 pol, .int .i64 st, .int .i64 lf, .int .i64 sl, .int .i64 lv] w fun e w' => e = .returned (.int .i64 (chI m pol st lf sl lv : Nat)) ∧ Kp w w' := by
  obtain ⟨W0, HW, K0, P0⟩ := one_box w m
  have HP : Hid (∀ W, Kp W0 W → B9 W w.heap.size m) := fun W k => P0.kp k
  have HK : Hid (Kp w W0) := K0
  have HS : Hid (Calls Try.prog 20 #[m.v, .int .i64 pol, .int .i64 st] W0 fun e w' => e = .returned (.int .i64 (spI m pol st)) ∧ Kp W0 w') := slowest_any m pol st W0 hb
  have HX : Hid (∀ W (k : Nat), Kp W0 W → 1 ≤ k → k < m.lL → Calls Try.prog 22 #[m.v, .int .i64 (k : Nat), .int .i64 lf, .int .i64 lv] W fun e w' => e = .returned (.int .i64 (exI m lf lv k)) ∧ Kp W w') := fun W k q h0 hk => extra_any m k lf lv W (h.kept (K0.trans q)) hb hl h0 hk
  have hcr := hb.cr
  have h4 := hb.l4
  obtain ⟨hs1, hs2⟩ := sp_lm hcr.1 pol st
  obtain ⟨res, hres⟩ : ∃ res, chI m pol st lf sl lv = res := ⟨_, rfl⟩
  rw [hres]
  have HR : Hid (best m lf sl lv (spI m pol st).toNat = res) := by rw [hs1]; exact hres
  generalize spI m pol st = s0 at *
  obtain ⟨p0, p1, p2, p3, p4, p5, p6, p7, p8⟩ := P0.all
  unfold Mc.v at *
  clear hres hs1 K0 P0 h hb hl
  go_enter Try.func15, Try.ntmps15
  go_wp2_with fail
  rw [← HW.out]
  refine Calls.mono HS.out ?_
  rintro e w1 ⟨rfl, k1⟩
  clear p0 p1 p2 p3 p4 p5 p6 p7 p8 HW HS
  go_wp2_with fail
  go_loopw [13] (fun i wr => ∃ x : Int, i = .int .i64 x ∧ x ≤ m.crit ∧ Hid (best m lf sl lv x.toNat = res) ∧ Kp W0 wr) (fun i _ => (intOf i).toNat)
  case atStart => exact ⟨s0, rfl, hs2, HR, k1⟩
  case round =>
    obtain ⟨x, rfl, hx, HB, hkp⟩ := hrel
    by_cases hlt : 0 < x
    · obtain ⟨k, rfl⟩ : ∃ k : Nat, x = (k : Int) := ⟨x.toNat, by omega⟩
      have hk1 : 1 ≤ k := by omega
      have hkl : k < m.lL := by omega
      obtain ⟨p0, p1, p2, p3, p4, p5, p6, p7, p8⟩ := (HP.out _ hkp).all
      have HE : Hid (Calls Try.prog 22 #[.agg #[.slice m.aL m.lL m.cL, .slice m.aS m.lS m.cS, .slice m.aD m.lD m.cD, .int .i64 m.idle, .int .i64 m.crit, .int .i64 m.sw, .int .i64 m.swe, .int .i64 m.sems, .int .i64 m.hor], .int .i64 (k : Nat), .int .i64 lf, .int .i64 lv] wr fun e w' => e = .returned (.int .i64 (exI m lf lv k)) ∧ Kp wr w') := HX.out wr k hkp hk1 hkl
      have HWh : Hid (∀ w, Calls Try.prog 21 #[.int .i64 (exI m lf lv k)] w fun e w' => e = .returned (.int .i64 (wh (exI m lf lv k))) ∧ w = w') := fun w => whole_at _ w
      have HT : Hid (wh (exI m lf lv k) ≤ sl → k = res) := fun q => ((best_one hk1).1 q).symm.trans HB.out
      have HF : Hid (¬ wh (exI m lf lv k) ≤ sl → best m lf sl lv (k - 1) = res) := fun q => ((best_one hk1).2 q).symm.trans HB.out
      clear HB
      generalize wh (exI m lf lv k) = y at *
      generalize exI m lf lv k = z at *
      by_cases g : y ≤ sl
      · have HN : Hid (k = res) := HT.out g
        clear HT HF
        go_wp2_with (first
          | (go_at_call 22; refine Calls.mono HE.out ?_; rintro e w2 ⟨rfl, k2⟩)
          | (go_at_call 21; refine Calls.mono (HWh.out _) ?_; rintro e w3 ⟨rfl, rfl⟩)
          | fail)
        go_ret
        exact ⟨congrArg (fun x : Nat => Ending.returned (Value.int .i64 x)) HN.out, HK.out.trans (hkp.trans k2)⟩
      · have HN : Hid (best m lf sl lv ((k : Int) - 1).toNat = res) := by
          show _ = _
          rw [show ((k : Int) - 1).toNat = k - 1 from by omega]
          exact HF.out g
        clear HT HF
        go_wp2_with (first
          | (go_at_call 22; refine Calls.mono HE.out ?_; rintro e w2 ⟨rfl, k2⟩)
          | (go_at_call 21; refine Calls.mono (HWh.out _) ?_; rintro e w3 ⟨rfl, rfl⟩)
          | fail)
        go_roundw
        case rel => exact ⟨(k : Int) - 1, by go_num, by omega, HN, hkp.trans k2⟩
        case measure => simp [intOf]; omega
    · have HN : Hid (0 = res) := by
        have := HB.out
        rw [show x.toNat = 0 from by omega] at this
        exact this
      clear HB
      go_wp2
      go_ret
      exact ⟨congrArg (fun x : Nat => Ending.returned (Value.int .i64 x)) HN.out, HK.out.trans hkp⟩

end Go.Proofs.Ytlhacdbeadchjaa.GV
