/- How long jobs may be held up: the document's Block, walked. -/
import Derived.Test.YtgecandbbmljbaaAdmBlk
namespace Go.Proofs.Ytgecandbbmljbaa.AD
open Go.ChangeShapes Go.WideShapes Go.ChangeAt Go.RowKit Go.Proofs.Ytgecandbbmljbaa.AR Go.Proofs.Ytgecandbbmljbaa.TB Go.Proofs.Ytgecandbbmljbaa.TK Go.Proofs.Ytgecandbbmljbaa.FX

set_option maxRecDepth 100000 in
set_option maxHeartbeats 8000000 in
theorem rblock_any (m : Mc) (ao : Option Addr) (len cap : Nat) (L : List Tk) (per : Int) (w : World) (hm : m.At w) (h : LAt w ao len L) (hb : Bd m) (ht : ∀ t ∈ L, BT t) :
    Calls Try.prog 15 #[m.v, .slice ao len cap, .int .i64 per] w fun e w' => e = .returned (.int .i64 (blk m L per)) ∧ Kp w w' := by
  obtain ⟨W0, HW, K0, P0⟩ := one_box w m
  have HP : Hid (∀ W, Kp W0 W → B9 W w.heap.size m) := fun W k => P0.kp k
  have HK : Hid (Kp w W0) := K0
  have hby := h.by'
  have HC : Hid (∀ W s, Kp w W → Calls Try.prog 30 #[.slice ao len cap, .int .i64 s] W fun e w'' => e = .returned (.int .i64 (cel L s L.length)) ∧ Kp W w'') := fun W s k => by rw [h.ln]; exact rceiling_any ao len cap L s W (h.kept k)
  have h1 := slw_bd hb
  have h2 := mx_bd hb
  have h3 := hout_bd (per := per) ht (k := L.length)
  have h4 := mul_bound (a := hout L per L.length) (b := slw m) (A := 4096) (B := 256) h3.1 h3.2 (by omega) h1.2
  have HR : Hid (blk m L per = hout L per len * slw m + mx (slw m) m.sw) := by rw [← h.ln]; exact rfl
  have HS1 : Hid (wrap64 (hout L per len * slw m) = hout L per len * slw m) := by rw [← h.ln]; exact IntWalk.wrap64_in _ (by omega)
  have HS2 : Hid (wrap64 (hout L per len * slw m + mx (slw m) m.sw) = hout L per len * slw m + mx (slw m) m.sw) := by rw [← h.ln]; exact IntWalk.wrap64_in _ (by omega)
  have HX : Hid (∀ W, Calls Try.prog 31 #[.int .i64 (slw m), .int .i64 m.sw] W fun e w' => e = .returned (.int .i64 (mx (slw m) m.sw)) ∧ W = w') := fun W => rmax_at _ _ W
  have HLv : Hid (∀ W, Kp w W → ∃ b off, m.aL = some ⟨b, off, none⟩ ∧ b < W.heap.size ∧ W.cell? ⟨b, off + m.crit.toNat * 2, none⟩ = some (.int .i64 (slw m))) := fun W k => lev_at hm (by have := hb.cr; omega) k
  have hcr := hb.cr
  generalize blk m L per = res at *
  generalize mx (slw m) m.sw = mm at *
  generalize slw m = sl at *
  obtain ⟨p0, p1, p2, p3, p4, p5, p6, p7, p8⟩ := P0.all
  unfold Mc.v at *
  clear K0 P0 hm hb ht h1 h2 h3 h4
  go_enter Try.func15, Try.ntmps15
  try dsimp only [List.append]
  go_wp2
  rw [← HW.out]
  clear HW p0 p1 p2 p3 p4 p5 p6 p7 p8
  go_loopw [7, 8] (fun l i wr => ∃ (k : Nat) (lv : Int), k ≤ len ∧ i = .int .i64 k ∧ l = .int .i64 lv ∧ Hid (hout L per k = lv) ∧ Kp W0 wr) (fun _ i _ => len - (intOf i).toNat)
  case atStart => exact ⟨0, _, Nat.zero_le _, rfl, rfl, rfl, Kp.refl _⟩
  case round =>
    obtain ⟨k, lv, hk, rfl, rfl, HL, hkp⟩ := hrel
    by_cases hlt : k < len
    · have hlt' : (k : Int) < (len : Int) := by omega
      obtain ⟨b, off, t, rfl, hb, hg, ht, c0, c1, c2, c3⟩ := (h.kept (HK.out.trans hkp)).one hlt
      have hsy := ht.s.by'
      have HT : Hid (∀ W, Kp wr W → W.cell? ⟨b, off + k * 4, none⟩ = some (.int .i64 t.p) ∧ W.cell? ⟨b, off + k * 4 + 2, none⟩ = some (.slice t.sa t.sl t.sc)) := fun W q => ⟨(q.cell (by exact hb)).trans c0, (q.cell (by exact hb)).trans c2⟩
      have HS : Hid (∀ W, Kp wr W → NAt W t.sa t.sl t.sz) := fun W q => (ht.kept q).s
      have HKr : Hid (Kp W0 wr) := hkp
      by_cases hp : per < t.p
      · have HN : Hid (hout L per (k + 1) = hin L per t.sz lv t.sl) := by rw [← HL.out]; exact hout_in hg hp
        clear HL ht hg hkp hb c0 c1 c2 c3
        go_wp2
        go_loopw [7, 9] (fun l i wi => ∃ (j : Nat) (iv : Int), j ≤ t.sl ∧ i = .int .i64 j ∧ l = .int .i64 iv ∧ Hid (hin L per t.sz lv j = iv) ∧ Kp wr wi) (fun _ i _ => t.sl - (intOf i).toNat)
        case atStart => exact ⟨0, _, Nat.zero_le _, rfl, rfl, rfl, Kp.refl _⟩
        case round =>
          obtain ⟨j, iv, hj, rfl, rfl, HI, hki⟩ := hrel
          obtain ⟨c0, c2⟩ := HT.out _ hki
          by_cases hjl : j < t.sl
          · have hjl' : (j : Int) < (t.sl : Int) := by omega
            obtain ⟨b2, off2, hsa, hb2, hz⟩ := (HS.out _ hki).one hjl
            have HCk : Hid (Calls Try.prog 30 #[.slice (some ⟨b, off, none⟩) len cap, .int .i64 (j : Int)] wr fun e w'' => e = .returned (.int .i64 (cel L j L.length)) ∧ Kp wr w'') := HC.out _ (j : Int) ((HK.out.trans HKr.out).trans hki)
            have HZ : Hid (∀ W, Kp wr W → W.cell? ⟨b2, off2 + j, none⟩ = some (.int .i64 (t.sz.getD j 0))) := fun W q => (q.cell (by exact hb2)).trans hz
            have HT2 : Hid (∀ W, Kp wr W → W.cell? ⟨b, off + k * 4, none⟩ = some (.int .i64 t.p) ∧ W.cell? ⟨b, off + k * 4 + 2, none⟩ = some (.slice (some ⟨b2, off2, none⟩) t.sl t.sc)) := fun W q => by rw [← hsa]; exact HT.out _ (hki.trans q)
            have HKi : Hid (Kp _ wr) := hki
            clear c0 c2 hki
            obtain ⟨c0, c2⟩ := HT2.out _ (Kp.refl _)
            by_cases g2 : cel L j L.length ≤ per
            · by_cases g1 : iv < t.sz.getD j 0
              · have HM : Hid (hin L per t.sz lv (j + 1) = t.sz.getD j 0) := hin_turn (by rw [HI.out]; exact g1) g2
                clear HI HN HR HC HS hsa hz
                generalize t.sz.getD j 0 = x at *
                generalize cel L j L.length = cc at *
                go_wp2_with fail
                refine HCk.out.mono ?_
                rintro e w1 ⟨rfl, k1⟩
                clear c0 c2
                obtain ⟨c0, c2⟩ := HT2.out _ k1
                have z0 := HZ.out _ k1
                go_wp2
                go_roundw
                case rel => exact ⟨j + 1, x, by omega, by go_num, rfl, HM, HKi.out.trans k1⟩
                case measure => simp [intOf]; omega
              · have HM : Hid (hin L per t.sz lv (j + 1) = iv) := (hin_stay (fun q => g1 (by rw [← HI.out]; exact q.1))).trans HI.out
                clear HI HN HR HC HS hsa hz
                generalize t.sz.getD j 0 = x at *
                generalize cel L j L.length = cc at *
                go_wp2_with fail
                refine HCk.out.mono ?_
                rintro e w1 ⟨rfl, k1⟩
                clear c0 c2
                obtain ⟨c0, c2⟩ := HT2.out _ k1
                have z0 := HZ.out _ k1
                go_wp2
                go_roundw
                case rel => exact ⟨j + 1, iv, by omega, by go_num, rfl, HM, HKi.out.trans k1⟩
                case measure => simp [intOf]; omega
            · have HM : Hid (hin L per t.sz lv (j + 1) = iv) := (hin_stay (fun q => g2 q.2)).trans HI.out
              clear HI HN HR HC HS hsa hz
              generalize t.sz.getD j 0 = x at *
              generalize cel L j L.length = cc at *
              go_wp2_with fail
              refine HCk.out.mono ?_
              rintro e w1 ⟨rfl, k1⟩
              clear c0 c2
              obtain ⟨c0, c2⟩ := HT2.out _ k1
              go_wp2
              go_roundw
              case rel => exact ⟨j + 1, iv, by omega, by go_num, rfl, HM, HKi.out.trans k1⟩
              case measure => simp [intOf]; omega
          · have hjl' : ¬ (j : Int) < (t.sl : Int) := by omega
            obtain rfl : j = t.sl := by omega
            have HM : Hid (hout L per (k + 1) = iv) := HN.out.trans HI.out
            clear HI HN HR HC
            go_wp2
            go_roundw
            case rel => exact ⟨k + 1, iv, by omega, by go_num, rfl, HM, HKr.out.trans hki⟩
            case measure => simp [intOf]; omega
      · have HN : Hid (hout L per (k + 1) = lv) := (hout_not hg hp).trans HL.out
        clear HL ht hg hkp hb c0 c1 c2 c3 HC HS
        go_wp2
        go_loopw [7, 9] (fun l i wi => ∃ (j : Nat), j ≤ t.sl ∧ i = .int .i64 j ∧ l = .int .i64 lv ∧ Kp wr wi) (fun _ i _ => t.sl - (intOf i).toNat)
        case atStart => exact ⟨0, Nat.zero_le _, rfl, rfl, Kp.refl _⟩
        case round =>
          obtain ⟨j, hj, rfl, rfl, hki⟩ := hrel
          obtain ⟨c0, c2⟩ := HT.out _ hki
          by_cases hjl : j < t.sl
          · have hjl' : (j : Int) < (t.sl : Int) := by omega
            go_wp2_with fail
            go_roundw
            case rel => exact ⟨j + 1, by omega, by go_num, rfl, hki⟩
            case measure => simp [intOf]; omega
          · have hjl' : ¬ (j : Int) < (t.sl : Int) := by omega
            obtain rfl : j = t.sl := by omega
            go_wp2
            go_roundw
            case rel => exact ⟨k + 1, lv, by omega, by go_num, rfl, HN, HKr.out.trans hki⟩
            case measure => simp [intOf]; omega
    · have hlt' : ¬ (k : Int) < (len : Int) := by omega
      obtain rfl : k = len := by omega
      have HN : Hid (lv = hout L per k) := HL.out.symm
      clear HL HC
      obtain ⟨p0, p1, p2, p3, p4, p5, p6, p7, p8⟩ := (HP.out _ hkp).all
      obtain ⟨b, off, ha, hb, hc⟩ := HLv.out _ (HK.out.trans hkp)
      rw [ha] at p0
      have hq : m.crit.toNat = m.crit.toNat := rfl
      obtain ⟨q, hcq⟩ : ∃ q : Nat, m.crit = (q : Int) := ⟨m.crit.toNat, by omega⟩
      rw [hcq] at p4 hc hcr
      simp only [Int.toNat_natCast] at hc
      have HRR : Hid (res = lv * sl + mm) := by rw [HN.out]; exact HR.out
      rw [← HN.out] at HS1 HS2
      clear HN HR hq hcq ha
      go_wp2_with fail
      refine (HX.out _).mono ?_
      rintro e w1 ⟨rfl, rfl⟩
      go_wp2
      go_ret
      exact ⟨congrArg (fun b => Ending.returned (Value.int .i64 b)) (by first | exact HRR.out.symm | (rw [HS1.out, HS2.out]; exact HRR.out.symm)), HK.out.trans hkp⟩

end Go.Proofs.Ytgecandbbmljbaa.AD
