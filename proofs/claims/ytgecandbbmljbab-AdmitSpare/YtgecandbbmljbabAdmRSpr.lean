/- The slowest level that does, if each task takes any cycles: the document's Spare, walked. -/
import Derived.Test.YtgecandbbmljbabAdmSpr
namespace Go.Proofs.Ytgecandbbmljbab.AD
open Go.ChangeShapes Go.WideShapes Go.ChangeAt Go.RowKit Go.Proofs.Ytgecandbbmljbab.AR Go.Proofs.Ytgecandbbmljbab.TB Go.Proofs.Ytgecandbbmljbab.TK Go.Proofs.Ytgecandbbmljbab.FX

set_option maxRecDepth 100000 in
set_option maxHeartbeats 16000000 in
theorem rspare_any (m : Mc) (ao : Option Addr) (len cap : Nat) (L : List Tk) (au : Option Addr) (cu : Nat) (zs : List Int) (w : World) (hm : m.At w) (h : LAt w ao len L) (hd : Gd m L) (hu : NAt w au len zs) (hz : Cy zs len) :
    Calls Try.prog 10 #[m.v, .slice ao len cap, .slice au len cu] w fun e w' => e = .returned (.int .i64 (spr m L zs m.lL : Nat)) ∧ Kp w w' := by
  obtain ⟨W0, HW, K0, P0⟩ := one_box w m
  have HP : Hid (∀ W, Kp W0 W → B9 W w.heap.size m) := fun W k => P0.kp k
  have HK : Hid (Kp w W0) := K0
  have hl : len ≤ 64 := by rw [← h.ln]; exact hd.n
  have hby := h.by'
  have hl4 := hd.b.l4
  have hcr := hd.b.cr
  obtain ⟨c, hc⟩ : ∃ c : Nat, m.crit = (c : Int) := ⟨m.crit.toNat, by omega⟩
  have HL0 : Hid (LAt w ao len L) := h
  have HU0 : Hid (NAt w au len zs) := hu
  have HB : Hid (Bd m) := hd.b
  have HZ : Hid (Cy zs len) := hz
  have HV : Hid (∀ W, Kp w W → Calls Try.prog 18 #[m.v, .slice ao len cap] W fun e w' => e = .returned (.int .i64 (rsv m L L.length)) ∧ Kp W w') := fun W k => by rw [h.ln]; exact rreserve_any m ao len cap L W (hm.kept k) (h.kept k) hd.b hd.t
  have HLv : Hid (∀ W (k : Nat), Kp w W → k < m.lL → ∃ b off, m.aL = some ⟨b, off, none⟩ ∧ b < W.heap.size ∧ W.cell? ⟨b, off + k * 2, none⟩ = some (.int .i64 (fd m.rL k 0))) := fun W k q hk => lev_at hm hk q
  have hrb := rsv_bd hd.b hd.t (k := L.length)
  obtain ⟨res, hres⟩ : ∃ res, spr m L zs m.lL = res := ⟨_, rfl⟩
  rw [hres]
  have HR : Hid (spr m L zs (c + 1) = res) := by rw [← hres]; exact (spr_end hc (by omega)).symm
  have HLen : Hid (L.length = len) := h.ln
  have HTurn : Hid (∀ k : Nat, (k : Int) ≤ m.crit → sm m L zs k len ≤ 4294967296 - rsv m L L.length → spr m L zs (k + 1) = k) := fun k q1 q2 => spr_turn q1 (by rw [h.ln]; rw [h.ln] at q2; exact q2)
  have HStay : Hid (∀ k : Nat, 4294967296 - rsv m L L.length < sm m L zs k len → spr m L zs (k + 1) = spr m L zs k) := fun k q => spr_stay (by rw [h.ln]; rw [h.ln] at q; omega)
  obtain ⟨p0, p1, p2, p3, p4, p5, p6, p7, p8⟩ := P0.all
  generalize rsv m L L.length = r at *
  have HCr : Hid (m.crit = (c : Int)) := hc
  unfold Mc.v at *
  have hcl : c < m.lL := by omega
  clear hres K0 P0 hm h hd hu hz hcr hc
  go_enter Try.func10, Try.ntmps10
  try dsimp only [List.append]
  go_wp2
  rw [← HW.out]
  clear p0 p1 p2 p3 p4 p5 p6 p7 p8 HW
  go_loopw [7, 8] (fun l i wr => ∃ (k : Nat), k ≤ c ∧ i = .int .i64 ((k : Int) + 1) ∧ (∃ bb : Nat, l = .int .i64 bb ∧ Hid (spr m L zs (k + 1) = bb)) ∧ Kp W0 wr) (fun _ i _ => m.lL + 1 - (intOf i).toNat)
  case atStart => exact ⟨0, Nat.zero_le _, rfl, ⟨0, rfl, spr_first⟩, Kp.refl _⟩
  case round =>
    obtain ⟨k, hk, rfl, ⟨bb, rfl, HL⟩, hkp⟩ := hrel
    have HKr : Hid (Kp W0 wr) := hkp
    obtain ⟨p0, p1, p2, p3, p4, p5, p6, p7, p8⟩ := (HP.out _ hkp).all
    rw [HCr.out] at p4
    by_cases hlt : k < c
    · have hlt' : (k : Int) + 1 ≤ (c : Int) := by omega
      obtain ⟨n, hn⟩ : ∃ n : Nat, n = k + 1 := ⟨_, rfl⟩
      have en : (k : Int) + 1 = (n : Int) := by omega
      rw [en] at hlt'
      rw [en]
      have hnl : n < m.lL := by omega
      have hnc : n ≤ c := by omega
      have HN1 : Hid (n = k + 1) := hn
      clear en hn
      have HVk : Hid (Calls Try.prog 18 #[.agg #[.slice m.aL m.lL m.cL, .slice m.aS m.lS m.cS, .slice m.aD m.lD m.cD, .int .i64 m.idle, .int .i64 m.crit, .int .i64 m.sw, .int .i64 m.swe, .int .i64 m.sems, .int .i64 m.hor], .slice ao len cap] wr fun e w' => e = .returned (.int .i64 r) ∧ Kp wr w') := HV.out wr (HK.out.trans hkp)
      rw [HCr.out] at HVk
      go_wp2_with fail
      refine HVk.out.mono ?_
      rintro e w2 ⟨rfl, k2⟩
      have HK2 : Hid (Kp W0 w2) := HKr.out.trans k2
      have HKr2 : Hid (Kp wr w2) := k2
      clear p0 p1 p2 p3 p4 p5 p6 p7 p8 k2 hkp HVk
      go_wp2_with fail
      go_loopw [9, 10] (fun s i wi => ∃ (j : Nat) (sv : Int), j ≤ len ∧ i = .int .i64 j ∧ s = .int .i64 sv ∧ Hid (r + sm m L zs n j = sv) ∧ Kp w2 wi) (fun _ i _ => len - (intOf i).toNat)
      case atStart => exact ⟨0, _, Nat.zero_le _, rfl, rfl, (by show _ = _; simp [sm]), Kp.refl _⟩
      case round =>
        obtain ⟨j, sv, hj, rfl, rfl, HS, hki⟩ := hrel
        have KV : Hid (Kp W0 wr) := HK2.out.trans hki
        have HKi : Hid (Kp w2 wr) := hki
        by_cases hjl : j < len
        · have hjl' : (j : Int) < (len : Int) := by omega
          have hj0 : (0 : Int) ≤ (j : Int) := by omega
          have hjn : (j : Int).toNat = j := by omega
          have hn0 : (0 : Int) ≤ (n : Int) := by omega
          have hnl' : (n : Int) < (m.lL : Int) := by omega
          have hnn : (n : Int).toNat = n := by omega
          obtain ⟨b, off, t, rfl, hb, hg, ht, c0, c1, c2, c3⟩ := (HL0.out.kept (HK.out.trans KV.out)).one hjl
          obtain ⟨b2, off2, rfl, hb2, cz⟩ := (HU0.out.kept (HK.out.trans KV.out)).one hjl
          obtain ⟨b3, off3, ha, hb3, cl⟩ := HLv.out _ n (HK.out.trans KV.out) hnl
          have HN : Hid (r + sm m L zs n (j + 1) = sv + ut (zs.getD j 0 * fd m.rL n 0 + 2 * m.sw) t.p) := by show _ = _; rw [sm_one hg, qn_in ⟨hn0, hnl'⟩, hnn, ← HS.out]; omega
          have hf := sm_fit HB.out (L := L) (lev := (n : Int)) HZ.out (k := j + 1) (by omega) hl
          have l := HB.out.lev n hnl
          have zc := HZ.out j hjl
          have q := mul_bound (a := zs.getD j 0) (b := fd m.rL n 0) (A := 4096) (B := 256) zc.1 zc.2 (by omega) l.2
          have s := HB.out.sw
          have s1 : IntKind.i64.wrap (zs.getD j 0 * fd m.rL n 0) = zs.getD j 0 * fd m.rL n 0 := wrapI (by omega)
          have s2 : IntKind.i64.wrap (2 * m.sw) = 2 * m.sw := wrapI (by omega)
          have s3 : IntKind.i64.wrap (zs.getD j 0 * fd m.rL n 0 + 2 * m.sw) = zs.getD j 0 * fd m.rL n 0 + 2 * m.sw := wrapI (by omega)
          have s4 : IntKind.i64.wrap (sv + ut (zs.getD j 0 * fd m.rL n 0 + 2 * m.sw) t.p) = sv + ut (zs.getD j 0 * fd m.rL n 0 + 2 * m.sw) t.p := wrapI (by rw [← HN.out]; omega)
          generalize zs.getD j 0 = z at *
          generalize fd m.rL n 0 = x at *
          obtain ⟨p0, p1, p2, p3, p4, p5, p6, p7, p8⟩ := (HP.out _ KV.out).all
          rw [ha] at p0
          clear HS ht hg hf l zc q s c1 c2 c3 hki ha
          go_wp2_with fail
          go_region_held3 (fun w' => w'.cell? ⟨b3, off3 + n * 2, none⟩ = some (.int .i64 x) ∧ w'.cell? ⟨w.heap.size, 0, none⟩ = some (.slice (some ⟨b3, off3, none⟩) m.lL m.cL) ∧ w'.cell? ⟨w.heap.size, 5, none⟩ = some (.int .i64 m.sw) ∧ w'.cell? ⟨b, off + j * 4, none⟩ = some (.int .i64 t.p) ∧ w'.cell? ⟨b2, off2 + j, none⟩ = some (.int .i64 z)) (go_keep) (first
            | (go_at_call 19; refine (rutil_at _ _ _).mono ?_; rintro e w4 ⟨rfl, rfl⟩)
            | fail)
          all_goals
            go_wp2
            go_roundw
            case rel => exact ⟨j + 1, _, by omega, by go_num, rfl, HN, by first | exact HKi.out | exact HKi.out.trans (tkp_drew _)⟩
            case measure => simp [intOf]; omega
        · have hjl' : ¬ (j : Int) < (len : Int) := by omega
          obtain rfl : j = len := by omega
          have hsb := sm_fit HB.out (L := L) (lev := (n : Int)) HZ.out (k := j) (Nat.le_refl _) hl
          by_cases g : sv ≤ 4294967296
          · have HNx : Hid (spr m L zs (n + 1) = n) := HTurn.out n (by have := HCr.out; omega) (by rw [← HS.out] at g; omega)
            clear HL HR HV HTurn HStay hki HCr HS hsb
            go_wp2
            go_roundw
            case rel => exact ⟨n, by omega, by go_num, ⟨n, rfl, HNx⟩, HK2.out.trans HKi.out⟩
            case measure => simp [intOf]; omega
          · have HNx : Hid (spr m L zs (n + 1) = bb) := (HStay.out n (by rw [← HS.out] at g; omega)).trans (by rw [HN1.out]; exact HL.out)
            clear HL HR HV HTurn HStay hki HCr HS hsb
            go_wp2
            go_roundw
            case rel => exact ⟨n, by omega, by go_num, ⟨bb, rfl, HNx⟩, HK2.out.trans HKi.out⟩
            case measure => simp [intOf]; omega
    · have hlt' : ¬ (k : Int) + 1 ≤ (c : Int) := by omega
      obtain rfl : k = c := by omega
      have HN : Hid (bb = res) := HL.out.symm.trans HR.out
      clear HL HR HV HTurn HStay HCr
      go_wp2
      go_ret
      exact ⟨by rw [HN.out]; rfl, HK.out.trans hkp⟩

end Go.Proofs.Ytgecandbbmljbab.AD
