/- The document's own: for how many quanta jobs may be held up, walked. -/
import Derived.Test.YtnpbdcnogeohdaaSlkRef
namespace Go.Proofs.Ytnpbdcnogeohdaa.SK
open Go.ChangeShapes Go.WideShapes Go.ChangeAt Go.RowKit Go.Proofs.Ytnpbdcnogeohdaa.AR Go.Proofs.Ytnpbdcnogeohdaa.TB Go.Proofs.Ytnpbdcnogeohdaa.TK Go.Proofs.Ytnpbdcnogeohdaa.JB Go.Proofs.Ytnpbdcnogeohdaa.FX Go.Proofs.Ytnpbdcnogeohdaa.AD
open Go.Proofs.Ytnpbdcnogeohdaa.LK (Hd atH HsAt C3)

theorem skp_drewN (w : World) (n : Nat) : Kp w (w.drewN n) := LK.Kp.tb (LK.Step.drewN (LK.Step.refl (fun _ => False) w) n)

/-- what one finds is the only one -/
theorem only_one {v : Vw} (g : VG v) {x : Int} {j : Jb} (h : jof v.J x = some j) {y : Jb} (hy : y ∈ v.J) (e : y.t = x) : y = j := by
  obtain ⟨h1, h2⟩ := jof_mem h
  obtain ⟨i, hi, ei⟩ := List.mem_iff_getElem.1 h1
  obtain ⟨k, hk, ek⟩ := List.mem_iff_getElem.1 hy
  have := g.jo i k j y (by rw [List.getElem?_eq_getElem hi, ei]) (by rw [List.getElem?_eq_getElem hk, ek]) (h2.trans e.symm)
  subst this
  rw [← ei, ← ek]
theorem late_one {v : Vw} (g : VG v) {h : Hd} {a : Int} {j : Jb} (hj : jof v.J h.t = some j) : lateB v h a = decide (a < j.d) := by
  obtain ⟨h1, h2⟩ := jof_mem hj
  unfold lateB
  by_cases hd : a < j.d
  · rw [decide_eq_true hd]
    exact List.any_eq_true.2 ⟨j, h1, by simp [h2, hd]⟩
  · rw [decide_eq_false hd, List.any_eq_false]
    intro y hy
    by_cases e : y.t = h.t
    · have := only_one g hj hy e
      subst this
      simp [hd]
    · simp [e]
theorem due_one {v : Vw} (g : VG v) {k a : Int} {j : Jb} (hj : jof v.J k = some j) : dueB v k a = decide (j.d ≤ a) := by
  obtain ⟨h1, h2⟩ := jof_mem hj
  unfold dueB
  by_cases hd : j.d ≤ a
  · rw [decide_eq_true hd]
    exact List.any_eq_true.2 ⟨j, h1, by simp [h2, hd]⟩
  · rw [decide_eq_false hd, List.any_eq_false]
    intro y hy
    by_cases e : y.t = k
    · have := only_one g hj hy e
      subst this
      simp [hd]
    · simp [e]
theorem due_none {v : Vw} {k a : Int} (hj : jof v.J k = none) : dueB v k a = false := by
  have h := jof_not hj
  unfold dueB
  rw [List.any_eq_false]
  intro y hy
  simp [h y hy]
/-- a task's job, whether there is one, and what that says -/
theorem job_ways {v : Vw} (g : VG v) (k a : Int) : ∃ (j : Jb) (s : Bool), (jof v.J k).getD zJ = j ∧ (jof v.J k).isSome = s ∧ dueB v k a = (s && decide (j.d ≤ a)) := by
  cases h : jof v.J k with
  | none => exact ⟨zJ, false, rfl, rfl, by rw [due_none h]; rfl⟩
  | some j => exact ⟨j, true, rfl, rfl, by rw [due_one g h]; rfl⟩

theorem mx_mul {a b s : Int} (h : 1 ≤ s) : mx (a * s) (b * s) = mx a b * s := by
  by_cases q : a < b
  · rw [mx_lt q, mx_lt (Int.mul_lt_mul_of_pos_right q (by omega))]
  · by_cases e : a = b
    · subst e; rw [mx_ge (by omega), mx_ge (by omega)]
    · rw [mx_ge q, mx_ge (by have := Int.mul_lt_mul_of_pos_right (show b < a by omega) (show 0 < s by omega); omega)]
theorem mx_twice (a b : Int) : mx (mx a b) b = mx a b := by
  by_cases q : a < b
  · rw [mx_lt q, mx_ge (by omega)]
  · rw [mx_ge q, mx_ge q]
/-- what the document's inner loop has -/
def inI (v : Vw) (h : Hd) (a m0 : Int) (k : Nat) : Int := bif tsksB v h a k then mx m0 (h.l * slw v.m) else m0
theorem inI_not {v : Vw} {h : Hd} {a m0 : Int} {k : Nat} (q : tskB v h a k = false) : inI v h a m0 (k + 1) = inI v h a m0 k := by simp [inI, tsksB, q]
theorem inI_more {v : Vw} {h : Hd} {a m0 : Int} {k : Nat} (q : tskB v h a k = true) : inI v h a m0 (k + 1) = mx (inI v h a m0 k) (h.l * slw v.m) := by
  cases e : tsksB v h a k with
  | true => simp only [inI, tsksB, q, e, Bool.or_true, cond_true, mx_twice]
  | false => simp only [inI, tsksB, q, e, Bool.or_true, cond_true, cond_false]
theorem lng_all {v : Vw} {a : Int} (g : VG v) {k : Nat} (q : lateB v (atH v.H k) a = true) : lng v a (k + 1) * slw v.m = inI v (atH v.H k) a (lng v a k * slw v.m) v.tl := by
  have sb := slw_bd g.b
  have hc : cntB v (atH v.H k) a = tsksB v (atH v.H k) a v.tl := by simp [cntB, q]
  cases e : tsksB v (atH v.H k) a v.tl with
  | false => rw [lng_not (by rw [hc, e])]; simp [inI, e]
  | true =>
    simp only [inI, e, cond_true]
    rw [mx_mul sb.1]
    by_cases hl : lng v a k < (atH v.H k).l
    · rw [lng_turn hl (by rw [hc, e]), mx_lt hl]
    · rw [lng_stay hl, mx_ge hl]
theorem lng_none {v : Vw} {a : Int} {k : Nat} (q : lateB v (atH v.H k) a = false) : lng v a (k + 1) = lng v a k := lng_not (by simp [cntB, q])

/-- what is held in a block -/
theorem hd_box (w : World) (h : Hd) : ∃ V, Hid (V = w.alloc (.cells #[.int .i64 h.t, .int .i64 h.s, .int .i64 h.l] 54)) ∧ Kp w V ∧ ∀ W, Kp V W → W.cell? ⟨w.heap.size, 0, none⟩ = some (.int .i64 h.t) ∧ W.cell? ⟨w.heap.size, 1, none⟩ = some (.int .i64 h.s) ∧ W.cell? ⟨w.heap.size, 2, none⟩ = some (.int .i64 h.l) := by
  refine ⟨_, rfl, (Kp.refl _).alloc _, fun W q => ?_⟩
  have h := kp_block (heap_alloc_at w _) q
  exact ⟨cell_of h rfl, cell_of h rfl, cell_of h rfl⟩

set_option maxRecDepth 100000 in
set_option maxHeartbeats 32000000 in
theorem rhinders_any (v : Vw) (a : Int) (w : World) (hv : VL w v) (g : VG v) :
    Calls Try.prog 37 #[v.m.v, .slice v.ta v.tl v.tc, .slice v.na v.nl v.nc, .slice v.ja v.jl v.jc, .slice v.ha v.hl v.hc, .int .i64 v.now, .int .i64 a] w fun e w' => e = .returned (.int .i64 (hnI v a)) ∧ Kp w w' := by
  obtain ⟨W0, HW, K0, P0⟩ := one_box w v.m
  have HP : Hid (∀ W, Kp W0 W → B9 W w.heap.size v.m) := fun W k => P0.kp k
  have HK : Hid (Kp w W0) := K0
  have HV0 : Hid (VL w v) := hv
  have HG : Hid (VG v) := g
  have hy := hv.hy
  have HJo : Hid (∀ W x j s, (jof v.J x).getD zJ = j → (jof v.J x).isSome = s → Kp w W → Calls Try.prog 22 #[.slice v.ja v.jl v.jc, .int .i64 x] W fun e w' => e = .returned (.tuple #[.agg #[.int .i64 j.t, .int .i64 j.r, .int .i64 j.d, .int .i64 j.l, .int .i64 j.x, .bool j.s], .bool s]) ∧ Kp W w') := fun W x j s h1 h2 q => rof_any _ _ _ _ x W (hv.j.kept q) j s h1 h2
  have HFr : Hid (∀ W (k : Nat), k < v.tl → Kp w W → Calls Try.prog 27 #[.slice v.na v.nl v.nc, .int .i64 (k : Nat), .int .i64 v.now] W fun e w' => e = .returned (.int .i64 (coI v k)) ∧ W = w') := fun W k hk q => from_any v k W (hv.n.kept q) (by rw [g.nl]; exact hk)
  have HCe0 : Hid (∀ W (h : Hd), Kp w W → Calls Try.prog 49 #[.slice v.ta v.tl v.tc, .int .i64 h.s] W fun e w' => e = .returned (.int .i64 (ceI v h)) ∧ Kp W w') := fun W h q => rceiling_any v.ta v.tl v.tc v.T h.s W (hv.t.kept q)
  have sb := slw_bd g.b
  have htn := g.n
  obtain ⟨cr, hcr, hcl⟩ : ∃ k : Nat, v.m.crit = (k : Int) ∧ k < v.m.lL := ⟨v.m.crit.toNat, by have := g.b.cr; omega, by have := g.b.cr; omega⟩
  have HSl : Hid (slw v.m = fd v.m.rL cr 0) := by show _ = _; unfold slw; rw [hcr]; rfl
  obtain ⟨lb, lo, hle, hlb, hlc⟩ := lev_at hv.m hcl K0
  have HLc : Hid (∀ W, Kp W0 W → W.cell? ⟨lb, lo + cr * 2, none⟩ = some (.int .i64 (slw v.m))) := fun W q => by rw [HSl.out]; exact (q.cell (p := ⟨lb, lo + cr * 2, none⟩) hlb).trans hlc
  have HLe : Hid (v.m.aL = some ⟨lb, lo, none⟩) := hle
  have HCr : Hid (v.m.crit = (cr : Int)) := hcr
  obtain ⟨res, hres⟩ : ∃ res, hnI v a = res := ⟨_, rfl⟩
  rw [hres]
  have HR : Hid (lng v a v.hl * slw v.m = res) := hres
  unfold Mc.v at *
  clear hres K0 P0 hv g hlc hle hcr
  go_enter Try.func37, Try.ntmps37
  go_wp2
  rw [← HW.out]
  clear HW
  go_loopw [15, 16] (fun l i wr => ∃ (k : Nat) (lv : Int), k ≤ v.hl ∧ i = .int .i64 k ∧ l = .int .i64 lv ∧ Hid (lng v a k * slw v.m = lv) ∧ Kp W0 wr) (fun _ i _ => v.hl - (intOf i).toNat)
  case atStart => exact ⟨0, _, Nat.zero_le _, rfl, rfl, by show _ = _; simp [lng], Kp.refl _⟩
  case round =>
    obtain ⟨k, lv, hk, rfl, rfl, HL, hkp⟩ := hrel
    by_cases hlt : k < v.hl
    · have hlt' : (k : Int) < (v.hl : Int) := by omega
      obtain ⟨b, off, e, hb, c0, c1, c2, _⟩ := (HV0.out.h.kp (LK.kp_of_tb (HK.out.trans hkp))).one hlt
      obtain ⟨V, HV, KV, TV⟩ := hd_box wr (atH v.H k)
      have HKV : Hid (Kp W0 V) := hkp.trans KV
      have hmem : atH v.H k ∈ v.H := LK.atH_mem (by have := HV0.out.h.ln; omega)
      obtain ⟨⟨j0, hj0, ej0⟩, hlr⟩ := HG.out.hd _ hmem
      obtain ⟨j, hj⟩ : ∃ j, jof v.J (atH v.H k).t = some j := by
        cases q : jof v.J (atH v.H k).t with
        | none => exact absurd ej0 (jof_not q j0 hj0)
        | some j => exact ⟨j, rfl⟩
      have HLa : Hid (lateB v (atH v.H k) a = decide (a < j.d)) := late_one HG.out hj
      obtain ⟨n, hn, hnl⟩ : ∃ n : Nat, (atH v.H k).t = (n : Int) ∧ n < v.tl := by
        obtain ⟨h1, h2⟩ := jof_mem hj
        have := (HG.out.jb j h1).1
        exact ⟨j.t.toNat, by omega, by omega⟩
      have HJ1 : Hid (∀ W, Kp V W → Calls Try.prog 22 #[.slice v.ja v.jl v.jc, .int .i64 (atH v.H k).t] W fun e w' => e = .returned (.tuple #[.agg #[.int .i64 j.t, .int .i64 j.r, .int .i64 j.d, .int .i64 j.l, .int .i64 j.x, .bool j.s], .bool true]) ∧ Kp W w') := fun W q => HJo.out W _ j true (by rw [hj]; rfl) (by rw [hj]; rfl) (HK.out.trans (HKV.out.trans q))
      have HAll : Hid (lateB v (atH v.H k) a = true → lng v a (k + 1) * slw v.m = inI v (atH v.H k) a lv v.tl) := fun q => by rw [← HL.out]; exact lng_all HG.out q
      have HNo : Hid (lateB v (atH v.H k) a = false → lng v a (k + 1) * slw v.m = lv) := fun q => by rw [lng_none q]; exact HL.out
      clear hmem hj0 ej0 hj KV
      obtain ⟨lnx, hlnx⟩ : ∃ lnx, lng v a (k + 1) = lnx := ⟨_, rfl⟩
      rw [hlnx] at HAll HNo
      have HLx : Hid (lng v a (k + 1) * slw v.m = lnx * slw v.m) := by show _ = _; rw [hlnx]
      clear hlnx
      generalize atH v.H k = x at *
      have HH : Hid (∀ W, Kp V W → W.cell? ⟨wr.heap.size, 0, none⟩ = some (.int .i64 (n : Int)) ∧ W.cell? ⟨wr.heap.size, 1, none⟩ = some (.int .i64 x.s) ∧ W.cell? ⟨wr.heap.size, 2, none⟩ = some (.int .i64 x.l)) := by rw [hn] at TV; exact TV
      have HNn : Hid (x.t = (n : Int)) := hn
      clear TV hkp hn
      by_cases hd : a < j.d
      · have hd1 : ¬ j.d ≤ a := by omega
        have HAl : Hid (lnx * slw v.m = inI v x a lv v.tl) := HAll.out (by rw [HLa.out]; exact decide_eq_true hd)
        clear HAll HNo HLa HL
        rw [e]
        clear e
        go_wp2_with fail
        rw [← HV.out]
        refine Calls.mono (HJ1.out _ (Kp.refl _)) ?_
        rintro e w5 ⟨rfl, k5⟩
        obtain ⟨U, HU, KU, TU⟩ := jb_box w5 j
        obtain ⟨y0, y1, y2, y3, y4, y5⟩ := TU _ (Kp.refl _)
        have HKVU : Hid (Kp V U) := k5.trans KU
        clear KU TU HJ1 k5
        go_wp2
        rw [← HU.out]
        obtain ⟨tb, tf, tn, hte, htb, htg, _, ht0, _, _, _⟩ := (HV0.out.t.kept (HK.out.trans (HKV.out.trans HKVU.out))).one hnl
        have HTe : Hid (v.ta = some ⟨tb, tf, none⟩) := hte
        obtain ⟨be, hbe⟩ : ∃ be, tn.p = be := ⟨_, rfl⟩
        rw [hbe] at ht0
        have HBe : Hid (pk v.T x.t.toNat = be) := by show _ = _; rw [HNn.out]; exact (pk_at htg).trans hbe
        have HTn : Hid (∀ W, Kp U W → W.cell? ⟨tb, tf + n * 4, none⟩ = some (.int .i64 be)) := fun W q => (q.cell (p := ⟨tb, tf + n * 4, none⟩) (by exact htb)).trans ht0
        obtain ⟨g1, hg1⟩ : ∃ g1, wr.heap.size = g1 := ⟨_, rfl⟩
        rw [hg1] at HH ⊢
        have HCe : Hid (∀ W, Kp w W → Calls Try.prog 49 #[.slice v.ta v.tl v.tc, .int .i64 x.s] W fun e w' => e = .returned (.int .i64 (ceI v x)) ∧ Kp W w') := fun W q => HCe0.out W x q
        clear hte htg ht0 hbe HU HV hb c0 c1 c2 y0 y1 y2 y3 y4 y5 hd hd1 HCe0 hg1
        go_loopw [15, 20] (fun l i wi => ∃ (q : Nat) (iv : Int), q ≤ v.tl ∧ i = .int .i64 q ∧ l = .int .i64 iv ∧ Hid (inI v x a lv q = iv) ∧ Kp U wi) (fun _ i _ => v.tl - (intOf i).toNat)
        case atStart => exact ⟨0, _, Nat.zero_le _, rfl, rfl, rfl, Kp.refl _⟩
        case round =>
          obtain ⟨q, iv, hq, rfl, rfl, HI, hki⟩ := hrel
          by_cases hql : q < v.tl
          · have hql' : (q : Int) < (v.tl : Int) := by omega
            obtain ⟨b2, off2, t, e2, hb2, hg2, ht2, c0, c1, c2, c3⟩ := (HV0.out.t.kept (HK.out.trans (HKV.out.trans (HKVU.out.trans hki)))).one hql
            have HKU : Hid (Kp U wr) := hki
            have HKW : Hid (Kp W0 wr) := HKV.out.trans (HKVU.out.trans hki)
            obtain ⟨V2, HV2, KV2, TV2⟩ := tk_box wr t
            have HTV : Hid (∀ W, Kp V2 W → W.cell? ⟨wr.heap.size, 0, none⟩ = some (.int .i64 t.p) ∧ W.cell? ⟨wr.heap.size, 1, none⟩ = some (.int .i64 t.c) ∧ W.cell? ⟨wr.heap.size, 2, none⟩ = some (.slice t.sa t.sl t.sc) ∧ W.cell? ⟨wr.heap.size, 3, none⟩ = some (.slice t.da t.dl t.dc)) := TV2
            have HKV2 : Hid (Kp wr V2) := KV2
            obtain ⟨j2, s2, hj2, hs2, hdue⟩ := job_ways HG.out (q : Int) a
            have HJ2 : Hid (Calls Try.prog 22 #[.slice v.ja v.jl v.jc, .int .i64 (q : Int)] V2 fun e w' => e = .returned (.tuple #[.agg #[.int .i64 j2.t, .int .i64 j2.r, .int .i64 j2.d, .int .i64 j2.l, .int .i64 j2.x, .bool j2.s], .bool s2]) ∧ Kp V2 w') := HJo.out V2 _ j2 s2 hj2 hs2 (HK.out.trans (HKW.out.trans KV2))
            have HAsk : Hid (asksB v q a = (decide (coI v q + t.p ≤ a) || (s2 && decide (j2.d ≤ a)))) := by
              show _ = _
              unfold asksB ndI
              rw [hdue, pk_at hg2]
            have HTB : Hid (tskB v x a q = (decide (ceI v x ≤ t.p) && decide (t.p < be) && asksB v q a)) := by
              show _ = _
              unfold tskB
              rw [HBe.out, pk_at hg2]
            have HN1 : Hid (tskB v x a q = false → inI v x a lv (q + 1) = iv) := fun z => (inI_not z).trans HI.out
            have HN2 : Hid (tskB v x a q = true → inI v x a lv (q + 1) = mx iv (x.l * slw v.m)) := fun z => by rw [← HI.out]; exact inI_more z
            have hce1 : 1 ≤ ceI v x := ceI_pos HG.out x.s v.tl
            have hco := coI_bd HG.out hql
            have htp : 0 ≤ t.p ∧ t.p ≤ 16384 := by have := HG.out.tk t (List.mem_of_getElem? hg2); exact ⟨this.2.1, this.2.2.1⟩
            have s1 : IntKind.i64.wrap (coI v q + t.p) = coI v q + t.p := wrapI (by omega)
            have s2' : wrap64 (coI v q + t.p) = coI v q + t.p := IntWalk.wrap64_in _ (by omega)
            have HFr2 : Hid (∀ W, Kp w W → Calls Try.prog 27 #[.slice v.na v.nl v.nc, .int .i64 (q : Nat), .int .i64 v.now] W fun e w' => e = .returned (.int .i64 (coI v q)) ∧ W = w') := fun W z => HFr.out W q hql z
            clear hj2 hs2 hdue hg2 ht2 KV2 TV2 hki hco HI
            generalize coI v q = co at *
            generalize asksB v q a = ak at *
            generalize ceI v x = ce at *
            generalize tskB v x a q = tk at *
            obtain ⟨rfl, rfl⟩ : b2 = tb ∧ off2 = tf := by have z := e2.symm.trans HTe.out; simpa using z
            have HCe' : Hid (∀ W, Kp w W → Calls Try.prog 49 #[.slice (some ⟨b2, off2, none⟩) v.tl v.tc, .int .i64 x.s] W fun e w' => e = .returned (.int .i64 ce) ∧ Kp W w') := fun W z => by have y := HCe.out W z; rw [e2] at y; exact y
            rw [e2]
            clear e2
            go_wp2_with fail
            rw [← HV2.out]
            refine Calls.mono HJ2.out ?_
            rintro e w7 ⟨rfl, k7⟩
            obtain ⟨U2, HU2, KU2, TU2⟩ := jb_box w7 j2
            have HKU2 : Hid (Kp V2 U2) := k7.trans KU2
            have HKVU2 : Hid (Kp V U2) := HKVU.out.trans (HKU.out.trans (HKV2.out.trans HKU2.out))
            have HKW2 : Hid (Kp U U2) := HKU.out.trans (HKV2.out.trans HKU2.out)
            have HKw2 : Hid (Kp w U2) := HK.out.trans (HKW.out.trans (HKV2.out.trans HKU2.out))
            obtain ⟨y0, y1, y2, y3, y4, y5⟩ := TU2 _ (Kp.refl _)
            obtain ⟨x0, x1, x2, x3⟩ := HTV.out _ HKU2.out
            obtain ⟨f0, f1, f2⟩ := HH.out _ HKVU2.out
            have f3 := HTn.out _ HKW2.out
            have HFr3 : Hid (∀ z, Calls Try.prog 27 #[.slice v.na v.nl v.nc, .int .i64 (q : Nat), .int .i64 v.now] (U2.drewN z) fun e w' => e = .returned (.int .i64 co) ∧ w' = U2.drewN z) := fun z => (HFr2.out _ (HKw2.out.trans (skp_drewN _ _))).mono fun _ _ ⟨h1, h2⟩ => ⟨h1, h2.symm⟩
            clear HFr2
            have HB9 : Hid (B9 U2 w.heap.size v.m) := HP.out _ (HKW.out.trans (HKV2.out.trans HKU2.out))
            clear k7 KU2 TU2 HJ2 c0 c1 c2 c3
            go_upto_region 13 with fail
            rw [← HU2.out]
            clear HU2
            go_cut [24] from 50 to 121 (fun c wx => c = .bool ak ∧ Kp U2 wx)
            case first =>
              have hA := HAsk.out
              clear HAsk HTB HN1 HN2 HR HAl
              cases s2 with
              | false =>
                by_cases h2 : co + t.p ≤ a
                · have d2 : decide (co + t.p ≤ a) = true := decide_eq_true h2
                  rw [d2, Bool.true_or] at hA
                  subst hA
                  go_quiet (first | (go_at_call 27; exact Calls.quiet_of_same (HFr3.out _)) | fail)
                  go_wp2
                  go_meet
                  exact ⟨rfl, by first | exact Kp.refl _ | exact TB.kp_drew _ | exact skp_drewN _ _⟩
                · have d2 : decide (co + t.p ≤ a) = false := decide_eq_false h2
                  rw [d2, Bool.false_and, Bool.or_false] at hA
                  subst hA
                  go_quiet (first | (go_at_call 27; exact Calls.quiet_of_same (HFr3.out _)) | fail)
                  go_wp2
                  go_meet
                  exact ⟨rfl, by first | exact Kp.refl _ | exact TB.kp_drew _ | exact skp_drewN _ _⟩
              | true =>
                by_cases h1 : j2.d ≤ a
                · have d1 : decide (j2.d ≤ a) = true := decide_eq_true h1
                  rw [d1, Bool.true_and, Bool.or_true] at hA
                  subst hA
                  go_quiet (first | (go_at_call 27; exact Calls.quiet_of_same (HFr3.out _)) | fail)
                  go_wp2
                  go_meet
                  exact ⟨rfl, by first | exact Kp.refl _ | exact TB.kp_drew _ | exact skp_drewN _ _⟩
                · have d1 : decide (j2.d ≤ a) = false := decide_eq_false h1
                  rw [d1, Bool.and_false, Bool.or_false] at hA
                  by_cases h2 : co + t.p ≤ a
                  · have d2 : decide (co + t.p ≤ a) = true := decide_eq_true h2
                    rw [d2] at hA
                    subst hA
                    go_quiet (first | (go_at_call 27; exact Calls.quiet_of_same (HFr3.out _)) | fail)
                    go_wp2
                    go_meet
                    exact ⟨rfl, by first | exact Kp.refl _ | exact TB.kp_drew _ | exact skp_drewN _ _⟩
                  · have d2 : decide (co + t.p ≤ a) = false := decide_eq_false h2
                    rw [d2] at hA
                    subst hA
                    go_quiet (first | (go_at_call 27; exact Calls.quiet_of_same (HFr3.out _)) | fail)
                    go_wp2
                    go_meet
                    exact ⟨rfl, by first | exact Kp.refl _ | exact TB.kp_drew _ | exact skp_drewN _ _⟩
            case rest =>
              obtain ⟨rfl, hcw⟩ := hcut
              have HKcu : Hid (Kp U2 wc) := hcw
              have HKc : Hid (Kp w wc) := HKw2.out.trans hcw
              clear x0 x1 x2 x3 f0 f1 f2 f3 y0 y1 y2 y3 y4 y5 s1 s2' HAsk
              obtain ⟨x0, x1, x2, x3⟩ := HTV.out _ (HKU2.out.trans hcw)
              obtain ⟨f0, f1, f2⟩ := HH.out _ (HKVU2.out.trans hcw)
              have f3 := HTn.out _ (HKW2.out.trans hcw)
              have sx : IntKind.i64.wrap (x.l * slw v.m) = x.l * slw v.m := by
                have z1 : x.l * slw v.m ≤ 4096 * 256 := Int.le_trans (Int.mul_le_mul_of_nonneg_right hlr.2 (by omega)) (Int.mul_le_mul_of_nonneg_left sb.2 (by omega))
                have z2 : -4096 * 256 ≤ x.l * slw v.m := Int.le_trans (by have := sb.1; have := sb.2; omega : -4096 * 256 ≤ -4096 * slw v.m) (Int.mul_le_mul_of_nonneg_right hlr.1 (by omega))
                exact wrapI (by omega)
              have n0 : (0 : Int) ≤ (n : Int) := by omega
              have n1 : (n : Int) < (v.tl : Int) := by omega
              have n2 : ((n : Int)).toNat = n := by omega
              by_cases h1 : 0 < t.p
              · have d1 : decide (0 < t.p) = true := decide_eq_true h1
                by_cases h2 : t.p < be
                · have d2 : decide (t.p < be) = true := decide_eq_true h2
                  by_cases h3 : ce ≤ t.p
                  · have d3 : decide (ce ≤ t.p) = true := decide_eq_true h3
                    have HT : Hid (tk = ak) := by show _ = _; rw [HTB.out, d2, d3]; rfl
                    cases ak with
                    | true =>
                      have HN : Hid (inI v x a lv (q + 1) = mx iv (x.l * slw v.m)) := HN2.out HT.out
                      clear HN1 HN2 HTB HT HR HAl
                      go_wp2_with fail
                      go_region_held3 (fun w' =>  w'.cell? ⟨wr.heap.size, 0, none⟩ = some (.int .i64 t.p) ∧ w'.cell? ⟨wr.heap.size, 1, none⟩ = some (.int .i64 t.c) ∧ w'.cell? ⟨wr.heap.size, 2, none⟩ = some (.slice t.sa t.sl t.sc) ∧ w'.cell? ⟨wr.heap.size, 3, none⟩ = some (.slice t.da t.dl t.dc) ∧ w'.cell? ⟨g1, 0, none⟩ = some (.int .i64 (n : Int)) ∧ w'.cell? ⟨g1, 1, none⟩ = some (.int .i64 x.s) ∧ w'.cell? ⟨g1, 2, none⟩ = some (.int .i64 x.l) ∧ w'.cell? ⟨b2, off2 + n * 4, none⟩ = some (.int .i64 be)) (go_keep) (first
                        | (go_at_call 49; refine (HCe'.out _ ?_).mono ?_; first | exact HKc.out | exact HKc.out.trans (TB.kp_drew _); rintro e w8 ⟨rfl, k8⟩; have K8 : Kp U2 w8 := (by first | exact (HKcu.out.trans (TB.kp_drew _)).trans k8 | exact HKcu.out.trans k8); clear k8; obtain ⟨x0, x1, x2, x3⟩ := HTV.out _ (HKU2.out.trans K8); obtain ⟨f0, f1, f2⟩ := HH.out _ (HKVU2.out.trans K8); have f3 := HTn.out _ (HKW2.out.trans K8))
                        | fail)
                      all_goals
                        have HK8 : Hid (Kp U2 w8) := K8
                        have HMx : Hid (∀ W, Calls Try.prog 10 #[.int .i64 iv, .int .i64 (x.l * slw v.m)] W fun e w' => e = .returned (.int .i64 (mx iv (x.l * slw v.m))) ∧ w' = W) := fun W => (rmax_at _ _ W).mono fun _ _ ⟨h1, h2⟩ => ⟨h1, h2.symm⟩
                        have HKx : Hid (Kp W0 w8) := HKW.out.trans (HKV2.out.trans (HKU2.out.trans K8))
                        clear x0 x1 x2 x3 f0 f1 f2 f3
                        obtain ⟨f0, f1, f2⟩ := HH.out _ (HKVU2.out.trans K8)
                        obtain ⟨p0, p1, p2, p3, p4, p5, p6, p7, p8⟩ := (HP.out _ HKx.out).all
                        rw [HLe.out] at p0
                        rw [HCr.out] at p4
                        have l0 := HLc.out _ HKx.out
                        have c0 : (0 : Int) ≤ (cr : Int) := by omega
                        have c1 : (cr : Int) < (v.m.lL : Int) := by omega
                        have c2 : ((cr : Int)).toNat = cr := by omega
                        generalize mx iv (x.l * slw v.m) = mm at *
                        go_wp2_with fail
                        go_quiet (first | (go_at_call 10; exact Calls.quiet_of_same (HMx.out _)) | fail)
                        go_wp2
                        go_roundw
                      all_goals first
                        | exact ⟨q + 1, mm, by omega, by go_num, rfl, HN, HKW2.out.trans (HK8.out.trans (skp_drewN _ _))⟩
                        | (simp [intOf]; omega)
                    | false =>
                      have HN : Hid (inI v x a lv (q + 1) = iv) := HN1.out HT.out
                      clear HN1 HN2 HTB HT HR HAl
                      go_wp2_with fail
                      go_region_held3 (fun w' =>  w'.cell? ⟨wr.heap.size, 0, none⟩ = some (.int .i64 t.p) ∧ w'.cell? ⟨wr.heap.size, 1, none⟩ = some (.int .i64 t.c) ∧ w'.cell? ⟨wr.heap.size, 2, none⟩ = some (.slice t.sa t.sl t.sc) ∧ w'.cell? ⟨wr.heap.size, 3, none⟩ = some (.slice t.da t.dl t.dc) ∧ w'.cell? ⟨g1, 0, none⟩ = some (.int .i64 (n : Int)) ∧ w'.cell? ⟨g1, 1, none⟩ = some (.int .i64 x.s) ∧ w'.cell? ⟨g1, 2, none⟩ = some (.int .i64 x.l) ∧ w'.cell? ⟨b2, off2 + n * 4, none⟩ = some (.int .i64 be)) (go_keep) (first
                        | (go_at_call 49; refine (HCe'.out _ ?_).mono ?_; first | exact HKc.out | exact HKc.out.trans (TB.kp_drew _); rintro e w8 ⟨rfl, k8⟩; have K8 : Kp U2 w8 := (by first | exact (HKcu.out.trans (TB.kp_drew _)).trans k8 | exact HKcu.out.trans k8); clear k8; obtain ⟨x0, x1, x2, x3⟩ := HTV.out _ (HKU2.out.trans K8); obtain ⟨f0, f1, f2⟩ := HH.out _ (HKVU2.out.trans K8); have f3 := HTn.out _ (HKW2.out.trans K8))
                        | fail)
                      all_goals
                        go_wp2
                        go_roundw
                      all_goals first
                        | exact ⟨q + 1, iv, by omega, by go_num, rfl, HN, HKW2.out.trans K8⟩
                        | exact ⟨q + 1, iv, by omega, by go_num, rfl, HN, HKW2.out.trans (K8.trans (TB.kp_drew _))⟩
                        | (simp [intOf]; omega)
                  · have d3 : decide (ce ≤ t.p) = false := decide_eq_false h3
                    have HN : Hid (inI v x a lv (q + 1) = iv) := HN1.out (by rw [HTB.out, d2, d3]; rfl)
                    clear HN1 HN2 HTB HR HAl
                    go_wp2_with fail
                    refine wp_region_noPanic ?_
                    refine wp_region_held_drew (S := fun w' =>  w'.cell? ⟨wr.heap.size, 0, none⟩ = some (.int .i64 t.p) ∧ w'.cell? ⟨wr.heap.size, 1, none⟩ = some (.int .i64 t.c) ∧ w'.cell? ⟨wr.heap.size, 2, none⟩ = some (.slice t.sa t.sl t.sc) ∧ w'.cell? ⟨wr.heap.size, 3, none⟩ = some (.slice t.da t.dl t.dc) ∧ w'.cell? ⟨g1, 0, none⟩ = some (.int .i64 (n : Int)) ∧ w'.cell? ⟨g1, 1, none⟩ = some (.int .i64 x.s) ∧ w'.cell? ⟨g1, 2, none⟩ = some (.int .i64 x.l) ∧ w'.cell? ⟨b2, off2 + n * 4, none⟩ = some (.int .i64 be)) (by kernel_rfl) ?_ (fun hHeld => ?_)
                    · (try dsimp only); go_keep
                    refine wpAnyH_take (i := 0) (oi := Oper.mk (some 84) _ _ _ _ _) (v := ?v0h) rfl (by kernel_rfl) (by kernel_rfl) (by kernel_rfl) (fun _ _ _ h => h) (Or.inl ⟨by rfl, ?hy0h⟩) (by assumption) ?rest0h
                    case hy0h => (intro w0 hSw; (try dsimp only at hSw); go_simp; try with_reducible rfl)
                    try simp only [Act.put, List.setIfInBounds_toArray, List.set_cons_zero, List.set_cons_succ]
                    refine wpAnyH_take (i := 1) (oi := Oper.mk (some 85) _ _ _ _ _) (v := ?v1h) rfl (by kernel_rfl) (by kernel_rfl) (by kernel_rfl) (fun _ _ _ h => h) (Or.inl ⟨by rfl, ?hy1h⟩) (by assumption) ?rest1h
                    case hy1h => (intro w0 hSw; (try dsimp only at hSw); go_simp; try with_reducible rfl)
                    try simp only [Act.put, List.setIfInBounds_toArray, List.set_cons_zero, List.set_cons_succ]
                    refine wpAnyH_take (i := 2) (oi := Oper.mk (some 86) _ _ _ _ _) (v := ?v2h) rfl (by kernel_rfl) (by kernel_rfl) (by kernel_rfl) (fun _ _ _ h => h) (Or.inl ⟨by rfl, ?hy2h⟩) (by assumption) ?rest2h
                    case hy2h => (intro w0 hSw; (try dsimp only at hSw); go_simp; try with_reducible rfl)
                    try simp only [Act.put, List.setIfInBounds_toArray, List.set_cons_zero, List.set_cons_succ]
                    refine wpAnyH_take (i := 3) (oi := Oper.mk (some 87) _ _ _ _ _) (v := ?v3h) rfl (by kernel_rfl) (by kernel_rfl) (by kernel_rfl) (fun _ _ _ h => h) (Or.inl ⟨by rfl, ?hy3h⟩) (by assumption) ?rest3h
                    case hy3h => (intro w0 hSw; (try dsimp only at hSw); go_simp; try with_reducible rfl)
                    try simp only [Act.put, List.setIfInBounds_toArray, List.set_cons_zero, List.set_cons_succ]
                    refine wpAnyH_take (i := 4) (oi := Oper.mk (some 88) _ _ _ _ _) (v := ?v4h) rfl (by kernel_rfl) (by kernel_rfl) (by kernel_rfl) (fun _ _ _ h => h) (Or.inl ⟨by rfl, ?hy4h⟩) (by assumption) ?rest4h
                    case hy4h => (intro w0 hSw; (try dsimp only at hSw); go_simp; try with_reducible rfl)
                    try simp only [Act.put, List.setIfInBounds_toArray, List.set_cons_zero, List.set_cons_succ]
                    refine wpAnyH_take (i := 5) (oi := Oper.mk (some 89) _ _ _ _ _) (v := ?v5h) rfl (by kernel_rfl) (by kernel_rfl) (by kernel_rfl) (fun _ _ _ h => h) (Or.inl ⟨by rfl, ?hy5h⟩) (by assumption) ?rest5h
                    case hy5h => (intro w0 hSw; (try dsimp only at hSw); go_simp; try with_reducible rfl)
                    try simp only [Act.put, List.setIfInBounds_toArray, List.set_cons_zero, List.set_cons_succ]
                    refine wpAnyH_take (i := 6) (oi := Oper.mk (some 90) _ _ _ _ _) (v := ?v6h) rfl (by kernel_rfl) (by kernel_rfl) (by kernel_rfl) (fun _ _ _ h => h) (Or.inl ⟨by rfl, ?hy6h⟩) (by assumption) ?rest6h
                    case hy6h => (intro w0 hSw; (try dsimp only at hSw); go_simp; try with_reducible rfl)
                    try simp only [Act.put, List.setIfInBounds_toArray, List.set_cons_zero, List.set_cons_succ]
                    refine wpAnyH_take (i := 7) (oi := Oper.mk (some 91) _ _ _ _ _) (v := ?v7h) rfl (by kernel_rfl) (by kernel_rfl) (by kernel_rfl) (fun _ _ _ h => h) (Or.inl ⟨by rfl, ?hy7h⟩) (by assumption) ?rest7h
                    case hy7h => (intro w0 hSw; (try dsimp only at hSw); go_simp; try with_reducible rfl)
                    try simp only [Act.put, List.setIfInBounds_toArray, List.set_cons_zero, List.set_cons_succ]
                    refine wpAnyH_take (i := 8) (oi := Oper.mk (some 92) _ _ _ _ _) (v := ?v8h) rfl (by kernel_rfl) (by kernel_rfl) (by kernel_rfl) (fun _ _ _ h => h) (Or.inl ⟨by rfl, ?hy8h⟩) (by assumption) ?rest8h
                    case hy8h => (intro w0 hSw; (try dsimp only at hSw); go_simp; try with_reducible rfl)
                    try simp only [Act.put, List.setIfInBounds_toArray, List.set_cons_zero, List.set_cons_succ]
                    refine wpAnyH_take (i := 9) (oi := Oper.mk (some 93) _ _ _ _ _) (v := ?v9h) rfl (by kernel_rfl) (by kernel_rfl) (by kernel_rfl) (fun _ _ _ h => h) (Or.inl ⟨by rfl, ?hy9h⟩) (by assumption) ?rest9h
                    case hy9h => (intro w0 hSw; (try dsimp only at hSw); go_simp; try with_reducible rfl)
                    try simp only [Act.put, List.setIfInBounds_toArray, List.set_cons_zero, List.set_cons_succ]
                    refine wpAnyH_take (i := 10) (oi := Oper.mk (some 94) _ _ _ _ _) (v := ?v10h) rfl (by kernel_rfl) (by kernel_rfl) (by kernel_rfl) (fun _ _ _ h => h) (Or.inl ⟨by rfl, ?hy10h⟩) (by assumption) ?rest10h
                    case hy10h => (intro w0 hSw; (try dsimp only at hSw); go_simp; try with_reducible rfl)
                    try simp only [Act.put, List.setIfInBounds_toArray, List.set_cons_zero, List.set_cons_succ]
                    refine wpAnyH_take (i := 11) (oi := Oper.mk (some 95) _ _ _ _ _) (v := ?v11h) rfl (by kernel_rfl) (by kernel_rfl) (by kernel_rfl) (fun _ _ _ h => h) (Or.inl ⟨by rfl, ?hy11h⟩) (by assumption) ?rest11h
                    case hy11h => (intro w0 hSw; (try dsimp only at hSw); go_simp; try with_reducible rfl)
                    try simp only [Act.put, List.setIfInBounds_toArray, List.set_cons_zero, List.set_cons_succ]
                    refine wpAnyH_take (i := 12) (oi := Oper.mk (some 96) _ _ _ _ _) (v := ?v12h) rfl (by kernel_rfl) (by kernel_rfl) (by kernel_rfl) (fun _ _ _ h => h) (Or.inl ⟨by rfl, ?hy12h⟩) (by assumption) ?rest12h
                    case hy12h => (intro w0 hSw; (try dsimp only at hSw); go_simp; try with_reducible rfl)
                    try simp only [Act.put, List.setIfInBounds_toArray, List.set_cons_zero, List.set_cons_succ]
                    refine wpAnyH_take (i := 13) (oi := Oper.mk (some 97) _ _ _ _ _) (v := ?v13h) rfl (by kernel_rfl) (by kernel_rfl) (by kernel_rfl) (fun _ _ _ h => h) (Or.inl ⟨by rfl, ?hy13h⟩) (by assumption) ?rest13h
                    case hy13h => (intro w0 hSw; (try dsimp only at hSw); go_simp; try with_reducible rfl)
                    try simp only [Act.put, List.setIfInBounds_toArray, List.set_cons_zero, List.set_cons_succ]
                    refine wpAnyH_take (i := 14) (oi := Oper.mk (some 98) _ _ _ _ _) (v := ?v14h) rfl (by kernel_rfl) (by kernel_rfl) (by kernel_rfl) (fun _ _ _ h => h) (Or.inl ⟨by rfl, ?hy14h⟩) (by assumption) ?rest14h
                    case hy14h => (intro w0 hSw; (try dsimp only at hSw); go_simp; try with_reducible rfl)
                    try simp only [Act.put, List.setIfInBounds_toArray, List.set_cons_zero, List.set_cons_succ]
                    refine wpAnyH_take (i := 15) (oi := Oper.mk (some 99) _ _ _ _ _) (v := ?v15h) rfl (by kernel_rfl) (by kernel_rfl) (by kernel_rfl) (fun _ _ _ h => h) (Or.inl ⟨by rfl, ?hy15h⟩) (by assumption) ?rest15h
                    case hy15h => (intro w0 hSw; (try dsimp only at hSw); go_simp; try with_reducible rfl)
                    try simp only [Act.put, List.setIfInBounds_toArray, List.set_cons_zero, List.set_cons_succ]
                    refine wpAnyH_take (i := 16) (oi := Oper.mk (some 100) _ _ _ _ _) (v := ?v16h) rfl (by kernel_rfl) (by kernel_rfl) (by kernel_rfl) (fun _ _ _ h => h) (Or.inl ⟨by rfl, ?hy16h⟩) (by assumption) ?rest16h
                    case hy16h => (intro w0 hSw; (try dsimp only at hSw); go_simp; try with_reducible rfl)
                    try simp only [Act.put, List.setIfInBounds_toArray, List.set_cons_zero, List.set_cons_succ]
                    refine wpAnyH_take (i := 17) (oi := Oper.mk (some 101) _ _ _ _ _) (v := ?v17h) rfl (by kernel_rfl) (by kernel_rfl) (by kernel_rfl) (fun _ _ _ h => h) (Or.inl ⟨by rfl, ?hy17h⟩) (by assumption) ?rest17h
                    case hy17h => (intro w0 hSw; (try dsimp only at hSw); go_simp; try with_reducible rfl)
                    try simp only [Act.put, List.setIfInBounds_toArray, List.set_cons_zero, List.set_cons_succ]
                    refine wpAnyH_take (i := 18) (oi := Oper.mk (some 102) _ _ _ _ _) (v := ?v18h) rfl (by kernel_rfl) (by kernel_rfl) (by kernel_rfl) (fun _ _ _ h => h) (Or.inl ⟨by rfl, ?hy18h⟩) (by assumption) ?rest18h
                    case hy18h => (intro w0 hSw; (try dsimp only at hSw); go_simp; try with_reducible rfl)
                    try simp only [Act.put, List.setIfInBounds_toArray, List.set_cons_zero, List.set_cons_succ]
                    refine wpAnyH_take (i := 19) (oi := Oper.mk (some 103) _ _ _ _ _) (v := ?v19h) rfl (by kernel_rfl) (by kernel_rfl) (by kernel_rfl) (fun _ _ _ h => h) (Or.inl ⟨by rfl, ?hy19h⟩) (by assumption) ?rest19h
                    case hy19h => (intro w0 hSw; (try dsimp only at hSw); go_simp; try with_reducible rfl)
                    try simp only [Act.put, List.setIfInBounds_toArray, List.set_cons_zero, List.set_cons_succ]
                    refine wpAnyH_ready (rs := [20]) (by kernel_rfl) (by simp) ?_
                    refine AllReadyH.cons (o := Oper.mk (some 104) _ _ _ _ _) rfl (fun K hK => ?_) AllReadyH.nil
                    go_simp
                    refine (HCe'.out _ ?_).mono ?_
                    first | exact HKc.out | exact HKc.out.trans (TB.kp_drew _)
                    rintro e w8 ⟨rfl, k8⟩
                    have K8 : Kp U2 w8 := (by first | exact (HKcu.out.trans (TB.kp_drew _)).trans k8 | exact HKcu.out.trans k8)
                    clear k8
                    obtain ⟨x0, x1, x2, x3⟩ := HTV.out _ (HKU2.out.trans K8)
                    obtain ⟨f0, f1, f2⟩ := HH.out _ (HKVU2.out.trans K8)
                    have f3 := HTn.out _ (HKW2.out.trans K8)
                    go_wp2_with fail
                    refine hK.out _ _ ?_ (fun hHeld => ?_)
                    · (try dsimp only); go_keep
                    clear hK K
                    try simp only [Act.put, List.setIfInBounds_toArray, List.set_cons_zero, List.set_cons_succ]
                    refine wpAnyH_take (i := 21) (oi := Oper.mk (some 105) _ _ _ _ _) (v := ?v21h) rfl (by kernel_rfl) (by kernel_rfl) (by kernel_rfl) (fun _ _ _ h => h) (Or.inl ⟨by rfl, ?hy21h⟩) (by assumption) ?rest21h
                    case hy21h => (intro w0 hSw; (try dsimp only at hSw); go_simp; try with_reducible rfl)
                    try simp only [Act.put, List.setIfInBounds_toArray, List.set_cons_zero, List.set_cons_succ]
                    refine wpAnyH_take (i := 22) (oi := Oper.mk (some 106) _ _ _ _ _) (v := ?v22h) rfl (by kernel_rfl) (by kernel_rfl) (by kernel_rfl) (fun _ _ _ h => h) (Or.inl ⟨by rfl, ?hy22h⟩) (by assumption) ?rest22h
                    case hy22h => (intro w0 hSw; (try dsimp only at hSw); go_simp; try with_reducible rfl)
                    try simp only [Act.put, List.setIfInBounds_toArray, List.set_cons_zero, List.set_cons_succ]
                    refine wpAnyH_take (i := 23) (oi := Oper.mk (some 107) _ _ _ _ _) (v := ?v23h) rfl (by kernel_rfl) (by kernel_rfl) (by kernel_rfl) (fun _ _ _ h => h) (Or.inl ⟨by rfl, ?hy23h⟩) (by assumption) ?rest23h
                    case hy23h => (intro w0 hSw; (try dsimp only at hSw); go_simp; try with_reducible rfl)
                    try simp only [Act.put, List.setIfInBounds_toArray, List.set_cons_zero, List.set_cons_succ]
                    refine wpAnyH_take (i := 24) (oi := Oper.mk (some 108) _ _ _ _ _) (v := undef) rfl (by kernel_rfl) (by kernel_rfl) (by kernel_rfl) (fun _ _ _ h => h) (Or.inr ⟨by rfl, rfl⟩) (by assumption) ?_
                    try simp only [Act.put, List.setIfInBounds_toArray, List.set_cons_zero, List.set_cons_succ]
                    refine wpAnyH_take (i := 25) (oi := Oper.mk (some 109) _ _ _ _ _) (v := ?v25h) rfl (by kernel_rfl) (by kernel_rfl) (by kernel_rfl) (fun _ _ _ h => h) (Or.inl ⟨by rfl, ?hy25h⟩) (by assumption) ?rest25h
                    case hy25h => (intro w0 hSw; (try dsimp only at hSw); go_simp; try with_reducible rfl)
                    try simp only [Act.put, List.setIfInBounds_toArray, List.set_cons_zero, List.set_cons_succ]
                    refine wpAnyH_done (by kernel_rfl) ?_ _
                    refine NoPanic.normal ?_
                    all_goals
                      go_wp2
                      go_roundw
                    all_goals first
                      | exact ⟨q + 1, iv, by omega, by go_num, rfl, HN, HKW2.out.trans K8⟩
                      | exact ⟨q + 1, iv, by omega, by go_num, rfl, HN, HKW2.out.trans (K8.trans (TB.kp_drew _))⟩
                      | (simp [intOf]; omega)
                · have d2 : decide (t.p < be) = false := decide_eq_false h2
                  have HN : Hid (inI v x a lv (q + 1) = iv) := HN1.out (by rw [HTB.out, d2, Bool.and_false]; rfl)
                  clear HN1 HN2 HTB HR HAl
                  go_wp2_with fail
                  go_quiet (fail)
                  go_wp2
                  go_roundw
                  case rel => exact ⟨q + 1, iv, by omega, by go_num, rfl, HN, HKW2.out.trans (HKcu.out.trans (skp_drewN _ _))⟩
                  case measure => simp [intOf]; omega
              · have d1 : decide (0 < t.p) = false := decide_eq_false h1
                have HN : Hid (inI v x a lv (q + 1) = iv) := HN1.out (by rw [HTB.out, decide_eq_false (show ¬ ce ≤ t.p by omega)]; rfl)
                clear HN1 HN2 HTB HR HAl
                go_wp2_with fail
                go_quiet (fail)
                go_wp2
                go_roundw
                case rel => exact ⟨q + 1, iv, by omega, by go_num, rfl, HN, HKW2.out.trans (HKcu.out.trans (skp_drewN _ _))⟩
                case measure => simp [intOf]; omega
          · have hql' : ¬ (q : Int) < (v.tl : Int) := by omega
            obtain rfl : q = v.tl := by omega
            have HN : Hid (lnx * slw v.m = iv) := HAl.out.trans HI.out
            have HKWr : Hid (Kp W0 wr) := HKV.out.trans (HKVU.out.trans hki)
            clear HI HAl HR
            go_wp2
            go_roundw
            case rel => exact ⟨k + 1, iv, by omega, by go_num, rfl, HLx.out.trans HN.out, HKWr.out⟩
            case measure => simp [intOf]; omega
      · have hd1 : j.d ≤ a := by omega
        have HN : Hid (lnx * slw v.m = lv) := HNo.out (by rw [HLa.out]; exact decide_eq_false hd)
        clear HAll HNo HLa HL HR
        rw [e]
        clear e
        go_wp2_with fail
        rw [← HV.out]
        refine Calls.mono (HJ1.out _ (Kp.refl _)) ?_
        rintro e w5 ⟨rfl, k5⟩
        have HKVw : Hid (Kp V w5) := k5
        clear k5
        go_wp2
        go_roundw
        case rel => exact ⟨k + 1, lv, by omega, by go_num, rfl, HLx.out.trans HN.out, HKV.out.trans (HKVw.out.trans ((Kp.refl _).alloc _))⟩
        case measure => simp [intOf]; omega
    · have hlt' : ¬ (k : Int) < (v.hl : Int) := by omega
      obtain rfl : k = v.hl := by omega
      have HN : Hid (lv = res) := HL.out.symm.trans HR.out
      clear HL HR
      go_wp2
      go_ret
      exact ⟨congrArg (fun x => Ending.returned (Value.int .i64 x)) HN.out, HK.out.trans hkp⟩

end Go.Proofs.Ytnpbdcnogeohdaa.SK
