/- What is kept in reserve: the program's Reserve and the document's own, walked. -/
import Derived.Test.YtaibpanceiapmaaAdmRBlk
namespace Go.Proofs.Ytaibpanceiapmaa.AD
open Go.ChangeShapes Go.WideShapes Go.ChangeAt Go.RowKit Go.Proofs.Ytaibpanceiapmaa.AR Go.Proofs.Ytaibpanceiapmaa.TB Go.Proofs.Ytaibpanceiapmaa.TK Go.Proofs.Ytaibpanceiapmaa.FX

set_option maxHeartbeats 8000000 in
theorem reserve_any (m : Mc) (ao : Option Addr) (len cap : Nat) (L : List Tk) (w : World) (hm : m.At w) (h : LAt w ao len L) (hb : Bd m) (ht : ∀ t ∈ L, BT t) :
    Calls Try.prog 52 #[m.v, .slice ao len cap] w fun e w' => e = .returned (.int .i64 (rsv m L len)) ∧ Kp w w' := by
  obtain ⟨W0, HW, K0, P0⟩ := one_box w m
  have HP : Hid (∀ W, Kp W0 W → B9 W w.heap.size m) := fun W k => P0.kp k
  have HK : Hid (Kp w W0) := K0
  have hby := h.by'
  have HB : Hid (∀ W per, Kp w W → Calls Try.prog 20 #[m.v, .slice ao len cap, .int .i64 per] W fun e w' => e = .returned (.int .i64 (blk m L per)) ∧ Kp W w') := fun W per k => block_any m ao len cap L per W (hm.kept k) (h.kept k) hb ht
  have HL0 : Hid (LAt w ao len L) := h
  obtain ⟨res, hres⟩ : ∃ res, rsv m L len = res := ⟨_, rfl⟩
  rw [hres]
  have HR : Hid (rsv m L len = res) := hres
  obtain ⟨p0, p1, p2, p3, p4, p5, p6, p7, p8⟩ := P0.all
  unfold Mc.v at *
  clear hres K0 P0 hm h hb ht
  go_enter Try.func52, Try.ntmps52
  go_wp2
  rw [← HW.out]
  clear HW p0 p1 p2 p3 p4 p5 p6 p7 p8
  go_loopw [5, 10] (fun l i wr => ∃ (k : Nat) (lv : Int), k ≤ len ∧ i = .int .i64 k ∧ l = .int .i64 lv ∧ Hid (rsv m L k = lv) ∧ Kp W0 wr) (fun _ i _ => len - (intOf i).toNat)
  case atStart => exact ⟨0, _, Nat.zero_le _, rfl, rfl, rfl, Kp.refl _⟩
  case round =>
    obtain ⟨k, lv, hk, rfl, rfl, HL, hkp⟩ := hrel
    by_cases hlt : k < len
    · have hlt' : (k : Int) < (len : Int) := by omega
      obtain ⟨b, off, t, rfl, hb, hg, ht, c0, c1, c2, c3⟩ := (HL0.out.kept (HK.out.trans hkp)).one hlt
      obtain ⟨V, HV⟩ : ∃ V, Hid (V = wr.alloc (.cells #[.int .i64 t.p, .int .i64 t.c, .slice t.sa t.sl t.sc, .slice t.da t.dl t.dc] 42)) := ⟨_, rfl⟩
      have KV : Hid (Kp W0 V) := by show Kp _ _; rw [HV.out]; exact hkp.alloc _
      have X0 : TB4 V wr.heap.size t := by rw [HV.out]; exact b4_new (Kp.refl _)
      have HX : Hid (∀ W, Kp V W → TB4 W wr.heap.size t) := fun W q => X0.kp q
      have HN : Hid (rsv m L (k + 1) = mx lv (ut (blk m L t.p) t.p)) := by rw [← HL.out]; exact rsv_one hg
      have MX : ∀ ts ty w, (Builtin.max_ ts ty #[.int .i64 lv, .int .i64 (ut (blk m L t.p) t.p)]).run Try.prog w = .ok (.int .i64 (mx lv (ut (blk m L t.p) t.p))) w := fun ts ty w => run_max2 ts ty _ _ w
      have HBk : Hid (∀ W, Kp V W → Calls Try.prog 20 #[.agg #[.slice m.aL m.lL m.cL, .slice m.aS m.lS m.cS, .slice m.aD m.lD m.cD, .int .i64 m.idle, .int .i64 m.crit, .int .i64 m.sw, .int .i64 m.swe, .int .i64 m.sems, .int .i64 m.hor], .slice (some ⟨b, off, none⟩) len cap, .int .i64 t.p] W fun e w' => e = .returned (.int .i64 (blk m L t.p)) ∧ Kp W w') := fun W q => HB.out W t.p ((HK.out.trans KV.out).trans q)
      generalize blk m L t.p = bk at *
      generalize mx lv (ut bk t.p) = nx at *
      clear HL ht hg HB
      go_wp2
      rw [← HV.out]
      clear HV c0 c1 c2 c3
      obtain ⟨p0, p1, p2, p3, p4, p5, p6, p7, p8⟩ := (HP.out _ KV.out).all
      obtain ⟨x0, x1, x2, x3⟩ := X0.all
      clear X0
      go_region_held3 (fun w' => w'.cell? ⟨w.heap.size, 0, none⟩ = some (.slice m.aL m.lL m.cL) ∧ w'.cell? ⟨w.heap.size, 1, none⟩ = some (.slice m.aS m.lS m.cS) ∧ w'.cell? ⟨w.heap.size, 2, none⟩ = some (.slice m.aD m.lD m.cD) ∧ w'.cell? ⟨w.heap.size, 3, none⟩ = some (.int .i64 m.idle) ∧ w'.cell? ⟨w.heap.size, 4, none⟩ = some (.int .i64 m.crit) ∧ w'.cell? ⟨w.heap.size, 5, none⟩ = some (.int .i64 m.sw) ∧ w'.cell? ⟨w.heap.size, 6, none⟩ = some (.int .i64 m.swe) ∧ w'.cell? ⟨w.heap.size, 7, none⟩ = some (.int .i64 m.sems) ∧ w'.cell? ⟨w.heap.size, 8, none⟩ = some (.int .i64 m.hor) ∧ w'.cell? ⟨wr.heap.size, 0, none⟩ = some (.int .i64 t.p) ∧ w'.cell? ⟨wr.heap.size, 1, none⟩ = some (.int .i64 t.c) ∧ w'.cell? ⟨wr.heap.size, 2, none⟩ = some (.slice t.sa t.sl t.sc) ∧ w'.cell? ⟨wr.heap.size, 3, none⟩ = some (.slice t.da t.dl t.dc)) (go_keep) (first
        | (go_at_call 20; refine (HBk.out _ ?_).mono ?_; first | exact Kp.refl _ | exact tkp_drew _; rintro e w3 ⟨rfl, k3⟩; have K3 : Kp V w3 := (by first | exact (tkp_drew _).trans k3 | exact k3); clear k3; obtain ⟨z0, z1, z2, z3, z4, z5, z6, z7, z8⟩ := (HP.out _ (KV.out.trans K3)).all; obtain ⟨y0, y1, y2, y3⟩ := (HX.out _ K3).all)
        | (go_at_call 65; refine (util_at _ _ _).mono ?_; rintro e w4 ⟨rfl, rfl⟩)
        | fail)
      all_goals
        clear z0 z1 z2 z3 z4 z5 z6 z7 z8 y0 y1 y2 y3
        go_wp2
        go_roundw
        case rel => exact ⟨k + 1, nx, by omega, by go_num, rfl, HN, KV.out.trans K3⟩
        case measure => simp [intOf]; omega
    · have hlt' : ¬ (k : Int) < (len : Int) := by omega
      obtain rfl : k = len := by omega
      have HN : Hid (lv = res) := HL.out.symm.trans HR.out
      clear HL HR HB
      go_wp2
      go_ret
      exact ⟨by rw [HN.out]; rfl, HK.out.trans hkp⟩

end Go.Proofs.Ytaibpanceiapmaa.AD
