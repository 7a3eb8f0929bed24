/- The slowest level that does: the program's Spare and Slowest, walked. -/
import Derived.Test.YtgecandbbmljbaaAdmSum
namespace Go.Proofs.Ytgecandbbmljbaa.AD
open Go.ChangeShapes Go.WideShapes Go.ChangeAt Go.RowKit Go.Proofs.Ytgecandbbmljbaa.AR Go.Proofs.Ytgecandbbmljbaa.TB Go.Proofs.Ytgecandbbmljbaa.TK Go.Proofs.Ytgecandbbmljbaa.FX

set_option maxHeartbeats 8000000 in
theorem spare_any (m : Mc) (ao : Option Addr) (len cap : Nat) (L : List Tk) (au : Option Addr) (cu : Nat) (zs : List Int) (w : World) (hm : m.At w) (h : LAt w ao len L) (hd : Gd m L) (hu : NAt w au len zs) (hz : Cy zs len) :
    Calls Try.prog 34 #[m.v, .slice ao len cap, .slice au len cu] w fun e w' => e = .returned (.int .i64 (spr m L zs m.lL : Nat)) ∧ Kp w w' := by
  obtain ⟨W0, HW, K0, P0⟩ := one_box w m
  have HP : Hid (∀ W, Kp W0 W → B9 W w.heap.size m) := fun W k => P0.kp k
  have HK : Hid (Kp w W0) := K0
  have hl : len ≤ 64 := by rw [← h.ln]; exact hd.n
  have hl4 := hd.b.l4
  have HV : Hid (Calls Try.prog 16 #[m.v, .slice ao len cap] W0 fun e w' => e = .returned (.int .i64 (rsv m L L.length)) ∧ Kp W0 w') := by rw [h.ln]; exact reserve_any m ao len cap L W0 (hm.kept K0) (h.kept K0) hd.b hd.t
  have HT : Hid (∀ W lev, Kp w W → Calls Try.prog 32 #[m.v, .slice ao len cap, .slice au len cu, .int .i64 lev] W fun e w' => e = .returned (.int .i64 (sm m L zs lev L.length)) ∧ Kp W w') := fun W lev k => by rw [h.ln]; exact together_any m ao len cap L au cu _ lev W (hm.kept k) (h.kept k) (hu.kept k) hd.b hz hl
  have hrb := rsv_bd hd.b hd.t (k := L.length)
  obtain ⟨res, hres⟩ : ∃ res, spr m L zs m.lL = res := ⟨_, rfl⟩
  rw [hres]
  have HR : Hid (spr m L zs m.lL = res) := hres
  have HTurn : Hid (∀ k : Nat, (k : Int) ≤ m.crit → sm m L zs k L.length ≤ 4294967296 - rsv m L L.length → spr m L zs (k + 1) = k) := fun k q1 q2 => spr_turn q1 q2
  have HStay : Hid (∀ k : Nat, ¬ sm m L zs k L.length ≤ 4294967296 - rsv m L L.length → spr m L zs (k + 1) = spr m L zs k) := fun k q => spr_stay q
  generalize rsv m L L.length = r at *
  obtain ⟨p0, p1, p2, p3, p4, p5, p6, p7, p8⟩ := P0.all
  unfold Mc.v at *
  clear hres K0 P0 hm h hd hu hz
  go_enter Try.func34, Try.ntmps34
  go_wp2_with fail
  rw [← HW.out]
  refine HV.out.mono ?_
  rintro e w1 ⟨rfl, k1⟩
  have HK1 : Hid (Kp W0 w1) := k1
  clear p0 p1 p2 p3 p4 p5 p6 p7 p8 HW HV
  obtain ⟨p0, p1, p2, p3, p4, p5, p6, p7, p8⟩ := (HP.out _ k1).all
  clear k1
  go_wp2
  clear p0 p1 p2 p3 p4 p5 p6 p7 p8
  go_loopw [7, 17] (fun l i wr => ∃ (k : Nat), k ≤ m.lL ∧ i = .int .i64 k ∧ (∃ bb : Nat, l = .int .i64 bb ∧ Hid (spr m L zs k = bb)) ∧ Kp w1 wr) (fun _ i _ => m.lL - (intOf i).toNat)
  case atStart => exact ⟨0, Nat.zero_le _, rfl, ⟨0, rfl, rfl⟩, Kp.refl _⟩
  case round =>
    obtain ⟨k, hk, rfl, ⟨bb, rfl, HL⟩, hkp⟩ := hrel
    have HKr : Hid (Kp w1 wr) := hkp
    by_cases hlt : k < m.lL
    · have hlt' : (k : Int) < (m.lL : Int) := by omega
      obtain ⟨p0, p1, p2, p3, p4, p5, p6, p7, p8⟩ := (HP.out _ (HK1.out.trans hkp)).all
      by_cases hc : (k : Int) ≤ m.crit
      · have HTk : Hid (Calls Try.prog 32 #[.agg #[.slice m.aL m.lL m.cL, .slice m.aS m.lS m.cS, .slice m.aD m.lD m.cD, .int .i64 m.idle, .int .i64 m.crit, .int .i64 m.sw, .int .i64 m.swe, .int .i64 m.sems, .int .i64 m.hor], .slice ao len cap, .slice au len cu, .int .i64 (k : Int)] wr fun e w' => e = .returned (.int .i64 (sm m L zs k L.length)) ∧ Kp wr w') := HT.out wr _ ((HK.out.trans HK1.out).trans hkp)
        by_cases g : sm m L zs k L.length ≤ 4294967296 - r
        · have HN : Hid (spr m L zs (k + 1) = k) := HTurn.out k hc g
          clear HL HR HT HTurn HStay hkp
          generalize sm m L zs k L.length = s at *
          go_wp2_with fail
          refine HTk.out.mono ?_
          rintro e w2 ⟨rfl, k2⟩
          go_wp2
          go_roundw
          case rel => exact ⟨k + 1, by omega, by go_num, ⟨k, rfl, HN⟩, HKr.out.trans k2⟩
          case measure => simp [intOf]; omega
        · have HN : Hid (spr m L zs (k + 1) = bb) := (HStay.out k (by omega)).trans HL.out
          clear HL HR HT HTurn HStay hkp
          generalize sm m L zs k L.length = s at *
          go_wp2_with fail
          refine HTk.out.mono ?_
          rintro e w2 ⟨rfl, k2⟩
          go_wp2
          go_roundw
          case rel => exact ⟨k + 1, by omega, by go_num, ⟨bb, rfl, HN⟩, HKr.out.trans k2⟩
          case measure => simp [intOf]; omega
      · have HN : Hid (spr m L zs (k + 1) = bb) := (spr_late hc).trans HL.out
        clear HL HR HT HTurn HStay hkp
        go_wp2
        go_roundw
        case rel => exact ⟨k + 1, by omega, by go_num, ⟨bb, rfl, HN⟩, HKr.out⟩
        case measure => simp [intOf]; omega
    · have hlt' : ¬ (k : Int) < (m.lL : Int) := by omega
      obtain rfl : k = m.lL := by omega
      have HN : Hid (bb = res) := HL.out.symm.trans HR.out
      clear HL HR HT HTurn HStay
      go_wp2
      go_ret
      exact ⟨by rw [HN.out]; rfl, (HK.out.trans HK1.out).trans hkp⟩

/-- the slowest one of all -/
def slo (m : Mc) (L : List Tk) : Nat := spr m L (cyc L) m.lL

set_option maxHeartbeats 4000000 in
theorem slowest_any (m : Mc) (ao : Option Addr) (len cap : Nat) (L : List Tk) (w : World) (hm : m.At w) (h : LAt w ao len L) (hd : Gd m L) :
    Calls Try.prog 21 #[m.v, .slice ao len cap] w fun e w' => e = .returned (.int .i64 (slo m L : Nat)) ∧ Kp w w' := by
  obtain ⟨W0, HW, K0, P0⟩ := one_box w m
  have HP : Hid (∀ W, Kp W0 W → B9 W w.heap.size m) := fun W k => P0.kp k
  have HK : Hid (Kp w W0) := K0
  have hl : len ≤ 64 := by rw [← h.ln]; exact hd.n
  have HA : Hid (∀ W, Kp W0 W → Calls Try.prog 33 #[.slice ao len cap] W fun e w' => ∃ ao', e = .returned (.slice ao' len len) ∧ NAt w' ao' len (cyc L) ∧ Kp W w') := fun W k => cycles_any ao len cap L W (h.kept (K0.trans k)) hd.t hl
  have HT : Hid (∀ W au, Kp W0 W → NAt W au len (cyc L) → Calls Try.prog 34 #[m.v, .slice ao len cap, .slice au len len] W fun e w' => e = .returned (.int .i64 (slo m L : Nat)) ∧ Kp W w') := fun W au k q => spare_any m ao len cap L au len _ W (hm.kept (K0.trans k)) (h.kept (K0.trans k)) hd q (hd.cy h.ln)
  generalize slo m L = s at *
  obtain ⟨p0, p1, p2, p3, p4, p5, p6, p7, p8⟩ := P0.all
  unfold Mc.v at *
  clear K0 P0 hm h hd hl
  go_enter Try.func21, Try.ntmps21
  go_wp2
  rw [← HW.out]
  clear HW
  go_region_held3 (fun w' => w'.cell? ⟨w.heap.size, 0, none⟩ = some (.slice m.aL m.lL m.cL) ∧ w'.cell? ⟨w.heap.size, 1, none⟩ = some (.slice m.aS m.lS m.cS) ∧ w'.cell? ⟨w.heap.size, 2, none⟩ = some (.slice m.aD m.lD m.cD) ∧ w'.cell? ⟨w.heap.size, 3, none⟩ = some (.int .i64 m.idle) ∧ w'.cell? ⟨w.heap.size, 4, none⟩ = some (.int .i64 m.crit) ∧ w'.cell? ⟨w.heap.size, 5, none⟩ = some (.int .i64 m.sw) ∧ w'.cell? ⟨w.heap.size, 6, none⟩ = some (.int .i64 m.swe) ∧ w'.cell? ⟨w.heap.size, 7, none⟩ = some (.int .i64 m.sems) ∧ w'.cell? ⟨w.heap.size, 8, none⟩ = some (.int .i64 m.hor)) (go_keep) (first
    | (go_at_call 33; refine (HA.out _ ?_).mono ?_; first | exact Kp.refl _ | exact tkp_drew _; rintro e w4 ⟨ao', rfl, R4, k4⟩; have K4 : Kp W0 w4 := (by first | exact (tkp_drew _).trans k4 | exact k4); have HR4 : Hid (NAt w4 ao' len (cyc L)) := R4; clear k4 R4; obtain ⟨z0, z1, z2, z3, z4, z5, z6, z7, z8⟩ := (HP.out _ K4).all)
    | (go_at_call 34; refine (HT.out _ _ K4 HR4.out).mono ?_; rintro e w5 ⟨rfl, k5⟩; have K5 := K4.trans k5; clear k5; obtain ⟨z0, z1, z2, z3, z4, z5, z6, z7, z8⟩ := (HP.out _ K5).all)
    | fail)
  all_goals
    go_wp2
    go_ret
    exact ⟨rfl, HK.out.trans K5⟩

/-- beyond Crit nothing turns -/
theorem spr_end {m : Mc} {L : List Tk} {zs : List Int} {c : Nat} (hc : m.crit = c) : ∀ {k : Nat}, c + 1 ≤ k → spr m L zs k = spr m L zs (c + 1)
  | k + 1, h => by
    by_cases e : k = c
    · subst e; rfl
    · rw [spr_late (by omega)]; exact spr_end hc (by omega)

end Go.Proofs.Ytgecandbbmljbaa.AD
