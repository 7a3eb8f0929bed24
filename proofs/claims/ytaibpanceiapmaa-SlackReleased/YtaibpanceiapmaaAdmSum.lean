/- The load of all tasks: the program's together, Load and Fits, and the document's Load, walked. -/
import Derived.Test.YtaibpanceiapmaaAdmRes
import Derived.Test.YtaibpanceiapmaaAdmCyc
namespace Go.Proofs.Ytaibpanceiapmaa.AD
open Go.ChangeShapes Go.WideShapes Go.ChangeAt Go.RowKit Go.Proofs.Ytaibpanceiapmaa.AR Go.Proofs.Ytaibpanceiapmaa.TB Go.Proofs.Ytaibpanceiapmaa.TK Go.Proofs.Ytaibpanceiapmaa.FX

/-- the sums fit -/
theorem sm_fit {m : Mc} (hb : Bd m) {L : List Tk} {zs : List Int} {lev : Int} {k len : Nat} (hc : Cy zs len) (hk : k ≤ len) (hl : len ≤ 64) : 0 ≤ sm m L zs lev k ∧ sm m L zs lev k ≤ 288371113640067072 := by
  have q := sm_bd hb (L := L) (zs := zs) (lev := lev) (k := k) (fun i hi => hc i (by omega))
  have : (k : Int) * 4505798650626048 ≤ 64 * 4505798650626048 := Int.mul_le_mul_of_nonneg_right (by omega) (by omega)
  omega

theorem run_min_same (ts : Array TypeId) (t : TypeId) (a : Int) (w : World) : (Builtin.min_ ts t #[.int .i64 a, .int .i64 a]).run Try.prog w = .ok (.int .i64 a) w := by
  simp [Builtin.min_, Builtin.min2]

set_option maxHeartbeats 8000000 in
theorem together_any (m : Mc) (ao : Option Addr) (len cap : Nat) (L : List Tk) (au : Option Addr) (cu : Nat) (zs : List Int) (lev : Int) (w : World) (hm : m.At w) (h : LAt w ao len L) (hu : NAt w au len zs) (hb : Bd m) (hz : Cy zs len) (hl : len ≤ 64) :
    Calls Try.prog 53 #[m.v, .slice ao len cap, .slice au len cu, .int .i64 lev] w fun e w' => e = .returned (.int .i64 (sm m L zs lev len)) ∧ Kp w w' := by
  obtain ⟨W0, HW, K0, P0⟩ := one_box w m
  have HP : Hid (∀ W, Kp W0 W → B9 W w.heap.size m) := fun W k => P0.kp k
  have HK : Hid (Kp w W0) := K0
  have HL0 : Hid (LAt w ao len L) := h
  have HU0 : Hid (NAt w au len zs) := hu
  have HB : Hid (Bd m) := hb
  have HZ : Hid (Cy zs len) := hz
  have HQ : Hid (∀ W c, Kp w W → 0 ≤ c ∧ c ≤ 4096 → Calls Try.prog 66 #[m.v, .int .i64 c, .int .i64 lev] W fun e w' => e = .returned (.int .i64 (qn m c lev)) ∧ Kp W w') := fun W c k hc => quanta_any m c lev W (hm.kept k) hb hc
  have MN : ∀ ts t w, (Builtin.min_ ts t #[.int .i64 (len : Int), .int .i64 (len : Int)]).run Try.prog w = .ok (.int .i64 (len : Int)) w := fun ts t w => run_min_same ts t _ w
  obtain ⟨res, hres⟩ : ∃ res, sm m L zs lev len = res := ⟨_, rfl⟩
  rw [hres]
  have HR : Hid (sm m L zs lev len = res) := hres
  obtain ⟨p0, p1, p2, p3, p4, p5, p6, p7, p8⟩ := P0.all
  unfold Mc.v at *
  clear hres K0 P0 hm h hb hu hz
  go_enter Try.func53, Try.ntmps53
  go_wp2
  rw [← HW.out]
  clear HW p0 p1 p2 p3 p4 p5 p6 p7 p8 MN
  go_loopw [9, 16] (fun l i wr => ∃ (k : Nat) (lv : Int), k ≤ len ∧ i = .int .i64 k ∧ l = .int .i64 lv ∧ Hid (sm m L zs lev k = lv) ∧ Kp W0 wr) (fun _ i _ => len - (intOf i).toNat)
  case atStart => exact ⟨0, _, Nat.zero_le _, rfl, rfl, rfl, Kp.refl _⟩
  case round =>
    obtain ⟨k, lv, hk, rfl, rfl, HL, hkp⟩ := hrel
    by_cases hlt : k < len
    · have hlt' : (k : Int) < (len : Int) := by omega
      have hk0 : (0 : Int) ≤ (k : Int) := by omega
      have hkn : (k : Int).toNat = k := by omega
      obtain ⟨b, off, t, rfl, hb, hg, ht, c0, c1, c2, c3⟩ := (HL0.out.kept (HK.out.trans hkp)).one hlt
      obtain ⟨b2, off2, rfl, hb2, cz⟩ := (HU0.out.kept (HK.out.trans hkp)).one hlt
      have HC0 : Hid (∀ W, Kp wr W → W.cell? ⟨b, off + k * 4, none⟩ = some (.int .i64 t.p) ∧ W.cell? ⟨b2, off2 + k, none⟩ = some (.int .i64 (zs.getD k 0))) := fun W q => ⟨(q.cell (by exact hb)).trans c0, (q.cell (by exact hb2)).trans cz⟩
      have HN : Hid (sm m L zs lev (k + 1) = lv + ut (qn m (zs.getD k 0) lev) t.p) := by rw [← HL.out]; exact sm_one hg
      have hf := sm_fit HB.out (L := L) (lev := lev) HZ.out (k := k + 1) (by omega) hl
      rw [HN.out] at hf
      have s1 : IntKind.i64.wrap (lv + ut (qn m (zs.getD k 0) lev) t.p) = lv + ut (qn m (zs.getD k 0) lev) t.p := wrapI (by omega)
      have HQk : Hid (∀ W, Kp wr W → Calls Try.prog 66 #[.agg #[.slice m.aL m.lL m.cL, .slice m.aS m.lS m.cS, .slice m.aD m.lD m.cD, .int .i64 m.idle, .int .i64 m.crit, .int .i64 m.sw, .int .i64 m.swe, .int .i64 m.sems, .int .i64 m.hor], .int .i64 (zs.getD k 0), .int .i64 lev] W fun e w' => e = .returned (.int .i64 (qn m (zs.getD k 0) lev)) ∧ Kp W w') := fun W q => HQ.out W _ ((HK.out.trans hkp).trans q) (HZ.out k hlt)
      generalize zs.getD k 0 = z at *
      generalize qn m z lev = qz at *
      have KV : Hid (Kp W0 wr) := hkp
      clear HL ht hg HQ c1 c2 c3 hkp hf
      obtain ⟨p0, p1, p2, p3, p4, p5, p6, p7, p8⟩ := (HP.out _ KV.out).all
      go_wp2_with fail
      go_region_held3 (fun w' => w'.cell? ⟨w.heap.size, 0, none⟩ = some (.slice m.aL m.lL m.cL) ∧ w'.cell? ⟨w.heap.size, 1, none⟩ = some (.slice m.aS m.lS m.cS) ∧ w'.cell? ⟨w.heap.size, 2, none⟩ = some (.slice m.aD m.lD m.cD) ∧ w'.cell? ⟨w.heap.size, 3, none⟩ = some (.int .i64 m.idle) ∧ w'.cell? ⟨w.heap.size, 4, none⟩ = some (.int .i64 m.crit) ∧ w'.cell? ⟨w.heap.size, 5, none⟩ = some (.int .i64 m.sw) ∧ w'.cell? ⟨w.heap.size, 6, none⟩ = some (.int .i64 m.swe) ∧ w'.cell? ⟨w.heap.size, 7, none⟩ = some (.int .i64 m.sems) ∧ w'.cell? ⟨w.heap.size, 8, none⟩ = some (.int .i64 m.hor) ∧ w'.cell? ⟨b, off + k * 4, none⟩ = some (.int .i64 t.p) ∧ w'.cell? ⟨b2, off2 + k, none⟩ = some (.int .i64 z)) (go_keep) (first
        | (go_at_call 66; refine (HQk.out _ ?_).mono ?_; first | exact Kp.refl _ | exact tkp_drew _; rintro e w3 ⟨rfl, k3⟩; have K3 : Kp wr w3 := (by first | exact (tkp_drew _).trans k3 | exact k3); clear k3; obtain ⟨z0, z1, z2, z3, z4, z5, z6, z7, z8⟩ := (HP.out _ (KV.out.trans K3)).all; obtain ⟨y0, y1⟩ := HC0.out _ K3)
        | (go_at_call 65; refine (util_at _ _ _).mono ?_; rintro e w4 ⟨rfl, rfl⟩)
        | fail)
      all_goals
        clear z0 z1 z2 z3 z4 z5 z6 z7 z8 y0 y1
        go_wp2
        go_roundw
        case rel => exact ⟨k + 1, _, by omega, by go_num, rfl, HN, KV.out.trans K3⟩
        case measure => simp [intOf]; omega
    · have hlt' : ¬ (k : Int) < (len : Int) := by omega
      obtain rfl : k = len := by omega
      have HN : Hid (lv = res) := HL.out.symm.trans HR.out
      clear HL HR HQ
      go_wp2
      go_ret
      exact ⟨by rw [HN.out]; rfl, HK.out.trans hkp⟩

theorem lod_eq {m : Mc} {L : List Tk} {lev : Int} {len : Nat} (h : L.length = len) : lod m L lev = rsv m L len + sm m L (cyc L) lev len := by subst h; rfl
theorem Gd.cy {m : Mc} {L : List Tk} (h : Gd m L) {len : Nat} (hl : L.length = len) : Cy (cyc L) len := by subst hl; exact cyc_cy h.t

set_option maxHeartbeats 8000000 in
theorem load_any (m : Mc) (ao : Option Addr) (len cap : Nat) (L : List Tk) (lev : Int) (w : World) (hm : m.At w) (h : LAt w ao len L) (hd : Gd m L) :
    Calls Try.prog 37 #[m.v, .slice ao len cap, .int .i64 lev] w fun e w' => e = .returned (.int .i64 (lod m L lev)) ∧ Kp w w' := by
  obtain ⟨W0, HW, K0, P0⟩ := one_box w m
  have HP : Hid (∀ W, Kp W0 W → B9 W w.heap.size m) := fun W k => P0.kp k
  have HK : Hid (Kp w W0) := K0
  have hl : len ≤ 64 := by rw [← h.ln]; exact hd.n
  have HV : Hid (∀ W, Kp W0 W → Calls Try.prog 52 #[m.v, .slice ao len cap] W fun e w' => e = .returned (.int .i64 (rsv m L len)) ∧ Kp W w') := fun W k => reserve_any m ao len cap L W (hm.kept (K0.trans k)) (h.kept (K0.trans k)) hd.b hd.t
  have HA : Hid (∀ W, Kp W0 W → Calls Try.prog 54 #[.slice ao len cap] W fun e w' => ∃ ao', e = .returned (.slice ao' len len) ∧ NAt w' ao' len (cyc L) ∧ Kp W w') := fun W k => cycles_any ao len cap L W (h.kept (K0.trans k)) hd.t hl
  have HT : Hid (∀ W au, Kp W0 W → NAt W au len (cyc L) → Calls Try.prog 53 #[m.v, .slice ao len cap, .slice au len len, .int .i64 lev] W fun e w' => e = .returned (.int .i64 (sm m L (cyc L) lev len)) ∧ Kp W w') := fun W au k q => together_any m ao len cap L au len _ lev W (hm.kept (K0.trans k)) (h.kept (K0.trans k)) q hd.b (hd.cy h.ln) hl
  have hq := lod_bd hd.b hd.t hd.n (lev := lev)
  rw [lod_eq h.ln] at hq ⊢
  generalize rsv m L len = r at *
  generalize sm m L (cyc L) lev len = s at *
  have s1 : IntKind.i64.wrap (r + s) = r + s := wrapI (by omega)
  obtain ⟨p0, p1, p2, p3, p4, p5, p6, p7, p8⟩ := P0.all
  unfold Mc.v at *
  clear K0 P0 hm h hd hq
  go_enter Try.func37, Try.ntmps37
  go_wp2
  rw [← HW.out]
  clear HW
  go_region_held3 (fun w' => w'.cell? ⟨w.heap.size, 0, none⟩ = some (.slice m.aL m.lL m.cL) ∧ w'.cell? ⟨w.heap.size, 1, none⟩ = some (.slice m.aS m.lS m.cS) ∧ w'.cell? ⟨w.heap.size, 2, none⟩ = some (.slice m.aD m.lD m.cD) ∧ w'.cell? ⟨w.heap.size, 3, none⟩ = some (.int .i64 m.idle) ∧ w'.cell? ⟨w.heap.size, 4, none⟩ = some (.int .i64 m.crit) ∧ w'.cell? ⟨w.heap.size, 5, none⟩ = some (.int .i64 m.sw) ∧ w'.cell? ⟨w.heap.size, 6, none⟩ = some (.int .i64 m.swe) ∧ w'.cell? ⟨w.heap.size, 7, none⟩ = some (.int .i64 m.sems) ∧ w'.cell? ⟨w.heap.size, 8, none⟩ = some (.int .i64 m.hor)) (go_keep) (first
    | (go_at_call 52; refine (HV.out _ ?_).mono ?_; first | exact Kp.refl _ | exact tkp_drew _; rintro e w3 ⟨rfl, k3⟩; have K3 : Kp W0 w3 := (by first | exact (tkp_drew _).trans k3 | exact k3); clear k3; obtain ⟨z0, z1, z2, z3, z4, z5, z6, z7, z8⟩ := (HP.out _ K3).all)
    | (go_at_call 54; refine (HA.out _ K3).mono ?_; rintro e w4 ⟨ao', rfl, R4, k4⟩; have K4 := K3.trans k4; have HR4 : Hid (NAt w4 ao' len (cyc L)) := R4; clear k4 R4; obtain ⟨z0, z1, z2, z3, z4, z5, z6, z7, z8⟩ := (HP.out _ K4).all)
    | (go_at_call 53; refine (HT.out _ _ K4 HR4.out).mono ?_; rintro e w5 ⟨rfl, k5⟩; have K5 := K4.trans k5; clear k5; obtain ⟨z0, z1, z2, z3, z4, z5, z6, z7, z8⟩ := (HP.out _ K5).all)
    | fail)
  all_goals
    go_wp2
    go_ret
    exact ⟨rfl, HK.out.trans K5⟩

/-- do they fit? -/
def fitB (m : Mc) (L : List Tk) : Bool := decide (lod m L 0 ≤ 4294967296)

theorem fits_any (m : Mc) (ao : Option Addr) (len cap : Nat) (L : List Tk) (w : World) (hm : m.At w) (h : LAt w ao len L) (hd : Gd m L) :
    Calls Try.prog 18 #[m.v, .slice ao len cap] w fun e w' => e = .returned (.bool (fitB m L)) ∧ Kp w w' := by
  obtain ⟨W0, HW, K0, P0⟩ := one_box w m
  have HL : Hid (Calls Try.prog 37 #[m.v, .slice ao len cap, .int .i64 0] W0 fun e w' => e = .returned (.int .i64 (lod m L 0)) ∧ Kp W0 w') := load_any m ao len cap L 0 W0 (hm.kept K0) (h.kept K0) hd
  unfold fitB
  generalize lod m L 0 = x at *
  unfold Mc.v at *
  clear hm h hd P0
  go_enter Try.func18, Try.ntmps18
  go_wp2_with fail
  rw [← HW.out]
  refine HL.out.mono ?_
  rintro e w1 ⟨rfl, k1⟩
  go_wp2
  go_ret
  exact ⟨rfl, K0.trans k1⟩

end Go.Proofs.Ytaibpanceiapmaa.AD
