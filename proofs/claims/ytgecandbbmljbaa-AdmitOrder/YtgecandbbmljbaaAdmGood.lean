/- Of which machines and tasks the statements speak. -/
import Derived.Test.YtgecandbbmljbaaAdmSum
import Derived.Test.YtgecandbbmljbaaTbl
namespace Go.Proofs.Ytgecandbbmljbaa.AD
open Go.ChangeShapes Go.WideShapes Go.ChangeAt Go.RowKit Go.Proofs.Ytgecandbbmljbaa.AR Go.Proofs.Ytgecandbbmljbaa.TB Go.Proofs.Ytgecandbbmljbaa.TK Go.Proofs.Ytgecandbbmljbaa.FX

theorem table_at (m : Mc) (w : World) (h : m.At w) : Calls Try.prog 23 #[m.v] w fun e w' => e = .returned (.bool m.may) ∧ Kp w w' :=
  reftable_any m.aL m.lL m.cL m.rL m.aS m.lS m.cS m.rS m.aD m.lD m.cD m.rD m.idle m.crit m.sw m.swe m.sems m.hor w h

/-- the first k may be -/
def allT (m : Mc) (L : List Tk) : Nat → Bool
  | 0 => true
  | k + 1 => allT m L k && (match L[k]? with
    | some t => tkB m t
    | none => true)
theorem allT_one {m : Mc} {L : List Tk} {k : Nat} {t : Tk} (h : L[k]? = some t) : allT m L (k + 1) = (allT m L k && tkB m t) := by simp [allT, h]
theorem allT_f {m : Mc} {L : List Tk} {k : Nat} {t : Tk} (h : L[k]? = some t) (g : tkB m t = false) : ∀ {n : Nat}, k < n → allT m L n = false
  | n + 1, hn => by
    by_cases e : k = n
    · subst e; rw [allT_one h, g, Bool.and_false]
    · have := allT_f h g (n := n) (by omega)
      simp only [allT, this, Bool.false_and]
theorem allT_t {m : Mc} {L : List Tk} : ∀ {n : Nat}, allT m L n = true → ∀ {k : Nat} {t : Tk}, k < n → L[k]? = some t → tkB m t = true := by
  intro n h k t hk hg
  cases q : tkB m t with
  | true => rfl
  | false => rw [allT_f hg q hk] at h; cases h
/-- all that is spoken of -/
def goodB (m : Mc) (L : List Tk) : Bool := m.may && decide (L.length ≤ 64) && allT m L L.length

theorem good_t {m : Mc} {L : List Tk} (h : goodB m L = true) : Gd m L ∧ ∀ t ∈ L, 1 ≤ t.p ∧ t.p ≤ 16384 := by
  simp only [goodB, Bool.and_eq_true, decide_eq_true_eq] at h
  obtain ⟨⟨h1, h2⟩, h3⟩ := h
  have a : ∀ t ∈ L, tkB m t = true := fun t ht => by
    obtain ⟨i, hi, e⟩ := List.mem_iff_getElem.1 ht
    exact allT_t h3 hi (by rw [List.getElem?_eq_getElem hi, e])
  have hh := (mayB_t.1 h1).1.2.2.2.2.2
  exact ⟨⟨bd_of h1, fun t ht => (bt_of (a t ht)).1, h2⟩, fun t ht => ⟨(bt_of (a t ht)).2.1, Int.le_trans (bt_of (a t ht)).2.2 hh.2⟩⟩

set_option maxHeartbeats 8000000 in
theorem good_any (m : Mc) (ao : Option Addr) (len cap : Nat) (L : List Tk) (w : World) (hm : m.At w) (h : LAt w ao len L) :
    Calls Try.prog 9 #[m.v, .slice ao len cap] w fun e w' => e = .returned (.bool (goodB m L)) ∧ Kp w w' := by
  obtain ⟨W0, HW, K0, P0⟩ := one_box w m
  have HP : Hid (∀ W, Kp W0 W → B9 W w.heap.size m) := fun W k => P0.kp k
  have HK : Hid (Kp w W0) := K0
  have hby := h.by'
  have HL0 : Hid (LAt w ao len L) := h
  have HB : Hid (Calls Try.prog 23 #[m.v] W0 fun e w' => e = .returned (.bool m.may) ∧ Kp W0 w') := table_at m W0 (hm.kept K0)
  have HT : Hid (∀ W t, TAt W t → Calls Try.prog 24 #[m.v, t.v] W fun e w' => e = .returned (.bool (tkB m t)) ∧ Kp W w') := fun W t q => rtask_any m t W q
  obtain ⟨res, hres⟩ : ∃ res, goodB m L = res := ⟨_, rfl⟩
  rw [hres]
  have HR : Hid ((m.may && decide (len ≤ 64) && allT m L len) = res) := by rw [← h.ln]; exact hres
  generalize m.may = may at *
  obtain ⟨p0, p1, p2, p3, p4, p5, p6, p7, p8⟩ := P0.all
  unfold Mc.v at *
  clear hres K0 P0 hm h
  cases may with
  | false =>
    have HN : Hid (false = res) := by show _ = _; have := HR.out; simpa using this
    clear HR HT
    go_enter Try.func9, Try.ntmps9
    go_wp2_with fail
    rw [← HW.out]
    refine HB.out.mono ?_
    rintro e w1 ⟨rfl, k1⟩
    go_wp2
    go_ret
    exact ⟨congrArg (fun b => Ending.returned (Value.bool b)) HN.out, HK.out.trans k1⟩
  | true =>
    by_cases hl : len ≤ 64
    · have HR2 : Hid (allT m L len = res) := by show _ = _; have := HR.out; simpa [hl] using this
      have hl' : ¬ (64 : Int) < (len : Int) := by omega
      clear HR
      go_enter Try.func9, Try.ntmps9
      go_wp2_with fail
      rw [← HW.out]
      refine HB.out.mono ?_
      rintro e w1 ⟨rfl, k1⟩
      have HK1 : Hid (Kp W0 w1) := k1
      clear HB p0 p1 p2 p3 p4 p5 p6 p7 p8 k1 HW
      go_wp2
      go_loopw [5] (fun i wr => ∃ (k : Nat), k ≤ len ∧ i = .int .i64 k ∧ Hid (allT m L k = true) ∧ Kp w1 wr) (fun i _ => len - (intOf i).toNat)
      case atStart => exact ⟨0, Nat.zero_le _, rfl, rfl, Kp.refl _⟩
      case round =>
        obtain ⟨k, hk, rfl, HA, hkp⟩ := hrel
        have HKr : Hid (Kp w1 wr) := hkp
        by_cases hlt : k < len
        · have hlt' : (k : Int) < (len : Int) := by omega
          have hk0 : (0 : Int) ≤ (k : Int) := by omega
          have hkn : (k : Int).toNat = k := by omega
          obtain ⟨b, off, t, rfl, hb, hg, ht, c0, c1, c2, c3⟩ := (HL0.out.kept ((HK.out.trans HK1.out).trans hkp)).one hlt
          have HC0 : Hid (∀ W, Kp wr W → W.cell? ⟨b, off + k * 4, none⟩ = some (.int .i64 t.p) ∧ W.cell? ⟨b, off + k * 4 + 1, none⟩ = some (.int .i64 t.c) ∧ W.cell? ⟨b, off + k * 4 + 2, none⟩ = some (.slice t.sa t.sl t.sc) ∧ W.cell? ⟨b, off + k * 4 + 3, none⟩ = some (.slice t.da t.dl t.dc)) := fun W q => ⟨(q.cell (by exact hb)).trans c0, (q.cell (by exact hb)).trans c1, (q.cell (by exact hb)).trans c2, (q.cell (by exact hb)).trans c3⟩
          have HTk : Hid (∀ W, Kp wr W → Calls Try.prog 24 #[.agg #[.slice m.aL m.lL m.cL, .slice m.aS m.lS m.cS, .slice m.aD m.lD m.cD, .int .i64 m.idle, .int .i64 m.crit, .int .i64 m.sw, .int .i64 m.swe, .int .i64 m.sems, .int .i64 m.hor], .agg #[.int .i64 t.p, .int .i64 t.c, .slice t.sa t.sl t.sc, .slice t.da t.dl t.dc]] W fun e w' => e = .returned (.bool (tkB m t)) ∧ Kp W w') := fun W q => HT.out W t (ht.kept q)
          have HF : Hid (tkB m t = false → false = res) := fun q => by rw [← HR2.out]; exact (allT_f hg q hlt).symm
          have HN : Hid (tkB m t = true → allT m L (k + 1) = true) := fun q => by rw [allT_one hg, HA.out, q]; rfl
          generalize tkB m t = u at *
          obtain ⟨p0, p1, p2, p3, p4, p5, p6, p7, p8⟩ := (HP.out _ (HK1.out.trans hkp)).all
          clear HT HA HR2 ht hg hkp
          go_wp2_with fail
          cases u with
          | false =>
            have HG : Hid (false = res) := by show _ = _; first | exact HF.out rfl | exact (HF.out rfl).symm
            clear HF HN
            go_region_held3 (fun w' => w'.cell? ⟨w.heap.size, 0, none⟩ = some (.slice m.aL m.lL m.cL) ∧ w'.cell? ⟨w.heap.size, 1, none⟩ = some (.slice m.aS m.lS m.cS) ∧ w'.cell? ⟨w.heap.size, 2, none⟩ = some (.slice m.aD m.lD m.cD) ∧ w'.cell? ⟨w.heap.size, 3, none⟩ = some (.int .i64 m.idle) ∧ w'.cell? ⟨w.heap.size, 4, none⟩ = some (.int .i64 m.crit) ∧ w'.cell? ⟨w.heap.size, 5, none⟩ = some (.int .i64 m.sw) ∧ w'.cell? ⟨w.heap.size, 6, none⟩ = some (.int .i64 m.swe) ∧ w'.cell? ⟨w.heap.size, 7, none⟩ = some (.int .i64 m.sems) ∧ w'.cell? ⟨w.heap.size, 8, none⟩ = some (.int .i64 m.hor) ∧ w'.cell? ⟨b, off + k * 4, none⟩ = some (.int .i64 t.p) ∧ w'.cell? ⟨b, off + k * 4 + 1, none⟩ = some (.int .i64 t.c) ∧ w'.cell? ⟨b, off + k * 4 + 2, none⟩ = some (.slice t.sa t.sl t.sc) ∧ w'.cell? ⟨b, off + k * 4 + 3, none⟩ = some (.slice t.da t.dl t.dc)) (go_keep) (first
              | (go_at_call 24; refine (HTk.out _ ?_).mono ?_; first | exact Kp.refl _ | exact tkp_drew _; rintro e w3 ⟨rfl, k3⟩; have K3 : Kp wr w3 := (by first | exact (tkp_drew _).trans k3 | exact k3); clear k3; obtain ⟨z0, z1, z2, z3, z4, z5, z6, z7, z8⟩ := (HP.out _ ((HK1.out.trans HKr.out).trans K3)).all; obtain ⟨y0, y1, y2, y3⟩ := HC0.out _ K3)
              | fail)
            all_goals
              clear z0 z1 z2 z3 z4 z5 z6 z7 z8 y0 y1 y2 y3
              go_wp2
              go_ret
              exact ⟨congrArg (fun b => Ending.returned (Value.bool b)) HG.out, ((HK.out.trans HK1.out).trans HKr.out).trans K3⟩
          | true =>
            have HG : Hid (allT m L (k + 1) = true) := HN.out rfl
            clear HF HN
            go_region_held3 (fun w' => w'.cell? ⟨w.heap.size, 0, none⟩ = some (.slice m.aL m.lL m.cL) ∧ w'.cell? ⟨w.heap.size, 1, none⟩ = some (.slice m.aS m.lS m.cS) ∧ w'.cell? ⟨w.heap.size, 2, none⟩ = some (.slice m.aD m.lD m.cD) ∧ w'.cell? ⟨w.heap.size, 3, none⟩ = some (.int .i64 m.idle) ∧ w'.cell? ⟨w.heap.size, 4, none⟩ = some (.int .i64 m.crit) ∧ w'.cell? ⟨w.heap.size, 5, none⟩ = some (.int .i64 m.sw) ∧ w'.cell? ⟨w.heap.size, 6, none⟩ = some (.int .i64 m.swe) ∧ w'.cell? ⟨w.heap.size, 7, none⟩ = some (.int .i64 m.sems) ∧ w'.cell? ⟨w.heap.size, 8, none⟩ = some (.int .i64 m.hor) ∧ w'.cell? ⟨b, off + k * 4, none⟩ = some (.int .i64 t.p) ∧ w'.cell? ⟨b, off + k * 4 + 1, none⟩ = some (.int .i64 t.c) ∧ w'.cell? ⟨b, off + k * 4 + 2, none⟩ = some (.slice t.sa t.sl t.sc) ∧ w'.cell? ⟨b, off + k * 4 + 3, none⟩ = some (.slice t.da t.dl t.dc)) (go_keep) (first
              | (go_at_call 24; refine (HTk.out _ ?_).mono ?_; first | exact Kp.refl _ | exact tkp_drew _; rintro e w3 ⟨rfl, k3⟩; have K3 : Kp wr w3 := (by first | exact (tkp_drew _).trans k3 | exact k3); clear k3; obtain ⟨z0, z1, z2, z3, z4, z5, z6, z7, z8⟩ := (HP.out _ ((HK1.out.trans HKr.out).trans K3)).all; obtain ⟨y0, y1, y2, y3⟩ := HC0.out _ K3)
              | fail)
            all_goals
              clear z0 z1 z2 z3 z4 z5 z6 z7 z8 y0 y1 y2 y3
              go_wp2
              go_roundw
              case rel => exact ⟨k + 1, by omega, by go_num, HG, HKr.out.trans K3⟩
              case measure => simp [intOf]; omega
        · have hlt' : ¬ (k : Int) < (len : Int) := by omega
          obtain rfl : k = len := by omega
          have HN : Hid (true = res) := HA.out.symm.trans HR2.out
          clear HT HA HR2
          go_wp2
          go_ret
          exact ⟨congrArg (fun b => Ending.returned (Value.bool b)) HN.out, (HK.out.trans HK1.out).trans HKr.out⟩
    · have HN : Hid (false = res) := by show _ = _; have := HR.out; simpa [hl] using this
      have hl' : (64 : Int) < (len : Int) := by omega
      clear HR HT
      go_enter Try.func9, Try.ntmps9
      go_wp2_with fail
      rw [← HW.out]
      refine HB.out.mono ?_
      rintro e w1 ⟨rfl, k1⟩
      go_wp2
      go_ret
      exact ⟨congrArg (fun b => Ending.returned (Value.bool b)) HN.out, HK.out.trans k1⟩

end Go.Proofs.Ytgecandbbmljbaa.AD
