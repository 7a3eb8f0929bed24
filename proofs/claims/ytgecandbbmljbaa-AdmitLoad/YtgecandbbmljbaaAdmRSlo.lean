/- The slowest level that does: the document's Slowest, walked. -/
import Derived.Test.YtgecandbbmljbaaAdmSpr
namespace Go.Proofs.Ytgecandbbmljbaa.AD
open Go.ChangeShapes Go.WideShapes Go.ChangeAt Go.RowKit Go.Proofs.Ytgecandbbmljbaa.AR Go.Proofs.Ytgecandbbmljbaa.TB Go.Proofs.Ytgecandbbmljbaa.TK Go.Proofs.Ytgecandbbmljbaa.FX

set_option maxHeartbeats 8000000 in
theorem rslowest_any (m : Mc) (ao : Option Addr) (len cap : Nat) (L : List Tk) (w : World) (hm : m.At w) (h : LAt w ao len L) (hd : Gd m L) :
    Calls Try.prog 22 #[m.v, .slice ao len cap] w fun e w' => e = .returned (.int .i64 (slo m L : Nat)) ∧ Kp w w' := by
  obtain ⟨W0, HW, K0, P0⟩ := one_box w m
  have HP : Hid (∀ W, Kp W0 W → B9 W w.heap.size m) := fun W k => P0.kp k
  have HK : Hid (Kp w W0) := K0
  have hl4 := hd.b.l4
  have hcr := hd.b.cr
  obtain ⟨c, hc⟩ : ∃ c : Nat, m.crit = (c : Int) := ⟨m.crit.toNat, by omega⟩
  have HT : Hid (∀ W lev, Kp w W → Calls Try.prog 19 #[m.v, .slice ao len cap, .int .i64 lev] W fun e w' => e = .returned (.int .i64 (lod m L lev)) ∧ Kp W w') := fun W lev k => rload_any m ao len cap L lev W (hm.kept k) (h.kept k) hd
  obtain ⟨res, hres⟩ : ∃ res, slo m L = res := ⟨_, rfl⟩
  rw [hres]
  have HR : Hid (spr m L (cyc L) (c + 1) = res) := by rw [← hres]; exact (spr_end hc (by omega)).symm
  have HTurn : Hid (∀ k : Nat, (k : Int) ≤ m.crit → lod m L k ≤ 4294967296 → spr m L (cyc L) (k + 1) = k) := fun k q1 q2 => spr_turn q1 (by unfold lod at q2; omega)
  have HStay : Hid (∀ k : Nat, 4294967296 < lod m L k → spr m L (cyc L) (k + 1) = spr m L (cyc L) k) := fun k q => spr_stay (by unfold lod at q; omega)
  obtain ⟨p0, p1, p2, p3, p4, p5, p6, p7, p8⟩ := P0.all
  have HCr : Hid (m.crit = (c : Int)) := hc
  unfold Mc.v at *
  have hcl : c < m.lL := by omega
  clear hres K0 P0 hm h hd hcr hc
  go_enter Try.func22, Try.ntmps22
  go_wp2
  rw [← HW.out]
  clear p0 p1 p2 p3 p4 p5 p6 p7 p8 HW
  go_loopw [5, 6] (fun l i wr => ∃ (k : Nat), k ≤ c ∧ i = .int .i64 ((k : Int) + 1) ∧ (∃ bb : Nat, l = .int .i64 bb ∧ Hid (spr m L (cyc L) (k + 1) = bb)) ∧ Kp W0 wr) (fun _ i _ => m.lL + 1 - (intOf i).toNat)
  case atStart => exact ⟨0, Nat.zero_le _, rfl, ⟨0, rfl, spr_first⟩, Kp.refl _⟩
  case round =>
    obtain ⟨k, hk, rfl, ⟨bb, rfl, HL⟩, hkp⟩ := hrel
    have HKr : Hid (Kp W0 wr) := hkp
    obtain ⟨p0, p1, p2, p3, p4, p5, p6, p7, p8⟩ := (HP.out _ hkp).all
    rw [HCr.out] at p4
    by_cases hlt : k < c
    · have hlt' : (k : Int) + 1 ≤ (c : Int) := by omega
      obtain ⟨n, hn⟩ : ∃ n : Nat, n = k + 1 := ⟨_, rfl⟩
      have en : (n : Int) = (k : Int) + 1 := by omega
      have HTk : Hid (Calls Try.prog 19 #[.agg #[.slice m.aL m.lL m.cL, .slice m.aS m.lS m.cS, .slice m.aD m.lD m.cD, .int .i64 m.idle, .int .i64 m.crit, .int .i64 m.sw, .int .i64 m.swe, .int .i64 m.sems, .int .i64 m.hor], .slice ao len cap, .int .i64 ((k : Int) + 1)] wr fun e w' => e = .returned (.int .i64 (lod m L n)) ∧ Kp wr w') := by rw [en]; exact HT.out wr _ (HK.out.trans hkp)
      rw [HCr.out] at HTk
      by_cases g : lod m L n ≤ 4294967296
      · have HN : Hid (spr m L (cyc L) (n + 1) = n) := HTurn.out n (by have := HCr.out; omega) g
        clear HL HR HT HTurn HStay hkp HCr
        generalize lod m L n = s at *
        go_wp2_with fail
        refine HTk.out.mono ?_
        rintro e w2 ⟨rfl, k2⟩
        go_wp2
        go_roundw
        case rel => exact ⟨n, by omega, by rw [en], ⟨n, by rw [en], HN⟩, HKr.out.trans k2⟩
        case measure => simp [intOf]; omega
      · have HN : Hid (spr m L (cyc L) (n + 1) = bb) := (HStay.out n (by omega)).trans (by rw [hn]; exact HL.out)
        clear HL HR HT HTurn HStay hkp HCr
        generalize lod m L n = s at *
        go_wp2_with fail
        refine HTk.out.mono ?_
        rintro e w2 ⟨rfl, k2⟩
        go_wp2
        go_roundw
        case rel => exact ⟨n, by omega, by rw [en], ⟨bb, rfl, HN⟩, HKr.out.trans k2⟩
        case measure => simp [intOf]; omega
    · have hlt' : ¬ (k : Int) + 1 ≤ (c : Int) := by omega
      obtain rfl : k = c := by omega
      have HN : Hid (bb = res) := HL.out.symm.trans HR.out
      clear HL HR HT HTurn HStay HCr
      go_wp2
      go_ret
      exact ⟨by rw [HN.out]; rfl, HK.out.trans hkp⟩

end Go.Proofs.Ytgecandbbmljbaa.AD
