/- How long jobs may be held up: the program's Block and the document's own, walked. -/
import Derived.Test.YtaibpanceiapmaaAdmFun
import Derived.Test.YtaibpanceiapmaaTskCel
namespace Go.Proofs.Ytaibpanceiapmaa.AD
open Go.ChangeShapes Go.WideShapes Go.ChangeAt Go.RowKit Go.Proofs.Ytaibpanceiapmaa.AR Go.Proofs.Ytaibpanceiapmaa.TB Go.Proofs.Ytaibpanceiapmaa.TK Go.Proofs.Ytaibpanceiapmaa.FX

set_option maxHeartbeats 8000000 in
theorem held_any (ao : Option Addr) (len cap : Nat) (L : List Tk) (per : Int) (w : World) (h : LAt w ao len L) :
    Calls Try.prog 39 #[.slice ao len cap, .int .i64 per] w fun e w' => e = .returned (.int .i64 (hout L per len)) ∧ Kp w w' := by
  have hby := h.by'
  have hln := h.ln
  have HC : Hid (∀ W s, Kp w W → Calls Try.prog 55 #[.slice ao len cap, .int .i64 s] W fun e w'' => e = .returned (.int .i64 (cel L s L.length)) ∧ Kp W w'') := fun W s k => by rw [hln]; exact ceiling_any ao len cap L s W (h.kept k)
  obtain ⟨res, hres⟩ : ∃ res, hout L per len = res := ⟨_, rfl⟩
  rw [hres]
  have HR : Hid (hout L per len = res) := hres
  clear hres hln
  go_enter Try.func39, Try.ntmps39
  go_wp2
  go_loopw [5, 12] (fun l i wr => ∃ (k : Nat) (lv : Int), k ≤ len ∧ i = .int .i64 k ∧ l = .int .i64 lv ∧ Hid (hout L per k = lv) ∧ Kp w wr) (fun _ i _ => len - (intOf i).toNat)
  case atStart => exact ⟨0, _, Nat.zero_le _, rfl, rfl, rfl, Kp.refl _⟩
  case round =>
    obtain ⟨k, lv, hk, rfl, rfl, HL, hkp⟩ := hrel
    by_cases hlt : k < len
    · have hlt' : (k : Int) < (len : Int) := by omega
      obtain ⟨b, off, t, rfl, hb, hg, ht, c0, c1, c2, c3⟩ := (h.kept hkp).one hlt
      obtain ⟨V, HV⟩ : ∃ V, Hid (V = wr.alloc (.cells #[.int .i64 t.p, .int .i64 t.c, .slice t.sa t.sl t.sc, .slice t.da t.dl t.dc] 42)) := ⟨_, rfl⟩
      have KV : Kp wr V := by rw [HV.out]; exact (Kp.refl _).alloc _
      by_cases hp : per < t.p
      · have HN : Hid (hout L per (k + 1) = hin L per t.sz lv t.sl) := by rw [← HL.out]; exact hout_in hg hp
        have hp' : ¬ t.p ≤ per := by omega
        have hsy := ht.s.by'
        have HS : Hid (∀ W, Kp V W → NAt W t.sa t.sl t.sz) := fun W q => (ht.kept (KV.trans q)).s
        have HK : Hid (Kp w V) := hkp.trans KV
        clear HL ht KV hg
        go_wp2
        rw [← HV.out]
        clear HV hp hp' c0 c1 c2 c3
        go_loopw [5, 23] (fun l i wi => ∃ (j : Nat) (iv : Int), j ≤ t.sl ∧ i = .int .i64 j ∧ l = .int .i64 iv ∧ Hid (hin L per t.sz lv j = iv) ∧ Kp V wi) (fun _ i _ => t.sl - (intOf i).toNat)
        case atStart => exact ⟨0, _, Nat.zero_le _, rfl, rfl, rfl, Kp.refl _⟩
        case round =>
          obtain ⟨j, iv, hj, rfl, rfl, HI, hki⟩ := hrel
          by_cases hjl : j < t.sl
          · have hjl' : (j : Int) < (t.sl : Int) := by omega
            obtain ⟨b2, off2, hsa, hb2, hz⟩ := (HS.out _ hki).one hjl
            by_cases g1 : iv < t.sz.getD j 0
            · have HCk : Hid (Calls Try.prog 55 #[.slice (some ⟨b, off, none⟩) len cap, .int .i64 (j : Int)] wr fun e w'' => e = .returned (.int .i64 (cel L j L.length)) ∧ Kp wr w'') := HC.out _ (j : Int) (HK.out.trans hki)
              by_cases g2 : cel L j L.length ≤ per
              · have HM : Hid (hin L per t.sz lv (j + 1) = t.sz.getD j 0) := hin_turn (by rw [HI.out]; exact g1) g2
                clear HI HN HR HC
                generalize t.sz.getD j 0 = x at *
                generalize cel L j L.length = cc at *
                rw [hsa]
                go_wp2_with fail
                refine HCk.out.mono ?_
                rintro e w1 ⟨rfl, k1⟩
                go_wp2
                go_roundw
                case rel => exact ⟨j + 1, x, by omega, by go_num, rfl, HM, hki.trans k1⟩
                case measure => simp [intOf]; omega
              · have HM : Hid (hin L per t.sz lv (j + 1) = iv) := (hin_stay (fun q => g2 q.2)).trans HI.out
                clear HI HN HR HC
                generalize t.sz.getD j 0 = x at *
                generalize cel L j L.length = cc at *
                rw [hsa]
                go_wp2_with fail
                refine HCk.out.mono ?_
                rintro e w1 ⟨rfl, k1⟩
                go_wp2
                go_roundw
                case rel => exact ⟨j + 1, iv, by omega, by go_num, rfl, HM, hki.trans k1⟩
                case measure => simp [intOf]; omega
            · have HM : Hid (hin L per t.sz lv (j + 1) = iv) := (hin_stay (fun q => g1 (by rw [← HI.out]; exact q.1))).trans HI.out
              clear HI HN HR HC
              generalize t.sz.getD j 0 = x at *
              rw [hsa]
              go_wp2_with fail
              go_roundw
              case rel => exact ⟨j + 1, iv, by omega, by go_num, rfl, HM, hki⟩
              case measure => simp [intOf]; omega
          · have hjl' : ¬ (j : Int) < (t.sl : Int) := by omega
            obtain rfl : j = t.sl := by omega
            have HM : Hid (hout L per (k + 1) = iv) := HN.out.trans HI.out
            clear HI HN HR HC
            go_wp2
            go_roundw
            case rel => exact ⟨k + 1, iv, by omega, by go_num, rfl, HM, HK.out.trans hki⟩
            case measure => simp [intOf]; omega
      · have HN : Hid (hout L per (k + 1) = lv) := (hout_not hg hp).trans HL.out
        have hp' : t.p ≤ per := by omega
        clear HL ht hg HC
        go_wp2
        rw [← HV.out]
        go_roundw
        case rel => exact ⟨k + 1, lv, by omega, by go_num, rfl, HN, hkp.trans KV⟩
        case measure => simp [intOf]; omega
    · have hlt' : ¬ (k : Int) < (len : Int) := by omega
      obtain rfl : k = len := by omega
      have HN : Hid (lv = res) := HL.out.symm.trans HR.out
      clear HL HR
      go_wp2
      go_ret
      exact ⟨by rw [HN.out]; rfl, hkp⟩

theorem pc_crit {m : Mc} (hb : Bd m) : pcI m m.crit = slw m := if_pos hb.cr

set_option maxHeartbeats 8000000 in
theorem block_any (m : Mc) (ao : Option Addr) (len cap : Nat) (L : List Tk) (per : Int) (w : World) (hm : m.At w) (h : LAt w ao len L) (hb : Bd m) (ht : ∀ t ∈ L, BT t) :
    Calls Try.prog 20 #[m.v, .slice ao len cap, .int .i64 per] w fun e w' => e = .returned (.int .i64 (blk m L per)) ∧ Kp w w' := by
  obtain ⟨W0, HW, K0, P0⟩ := one_box w m
  have HP : Hid (∀ W, Kp W0 W → B9 W w.heap.size m) := fun W k => P0.kp k
  have HK : Hid (Kp w W0) := K0
  have HC : Hid (∀ W, Kp W0 W → Calls Try.prog 38 #[m.v, .int .i64 m.crit] W fun e w' => e = .returned (.tuple #[.int .i64 (slw m), .bool (isB m m.crit)]) ∧ Kp W w') := fun W k => by rw [← pc_crit hb]; exact pace_any m m.crit W (hm.kept (K0.trans k))
  have HH : Hid (∀ W, Kp W0 W → Calls Try.prog 39 #[.slice ao len cap, .int .i64 per] W fun e w' => e = .returned (.int .i64 (hout L per L.length)) ∧ Kp W w') := fun W k => by rw [h.ln]; exact held_any ao len cap L per W (h.kept (K0.trans k))
  have h1 := slw_bd hb
  have h2 := mx_bd hb
  have h3 := hout_bd (per := per) ht (k := L.length)
  have h4 := mul_bound (a := hout L per L.length) (b := slw m) (A := 4096) (B := 256) h3.1 h3.2 (by omega) h1.2
  have HR : Hid (blk m L per = hout L per L.length * slw m + mx (slw m) m.sw) := rfl
  generalize blk m L per = res at *
  generalize hout L per L.length = ho at *
  have MX : ∀ ts t w, (Builtin.max_ ts t #[.int .i64 (slw m), .int .i64 m.sw]).run Try.prog w = .ok (.int .i64 (mx (slw m) m.sw)) w := fun ts t w => run_max2 ts t _ _ w
  generalize mx (slw m) m.sw = mm at *
  generalize slw m = sl at *
  generalize isB m m.crit = ib at *
  have s1 : IntKind.i64.wrap (ho * sl) = ho * sl := wrapI (by omega)
  have s2 : IntKind.i64.wrap (ho * sl + mm) = ho * sl + mm := wrapI (by omega)
  obtain ⟨p0, p1, p2, p3, p4, p5, p6, p7, p8⟩ := P0.all
  unfold Mc.v at *
  clear K0 P0 hm h hb ht h1 h2 h3 h4
  go_enter Try.func20, Try.ntmps20
  go_wp2_with fail
  rw [← HW.out]
  clear HW
  refine (HC.out _ (Kp.refl _)).mono ?_
  rintro e w1 ⟨rfl, k1⟩
  clear p0 p1 p2 p3 p4 p5 p6 p7 p8 HC
  obtain ⟨p0, p1, p2, p3, p4, p5, p6, p7, p8⟩ := (HP.out _ k1).all
  have HK1 : Hid (Kp W0 w1) := k1
  clear k1
  go_wp2_with fail
  go_region_held3 (fun w' => w'.cell? ⟨w.heap.size, 0, none⟩ = some (.slice m.aL m.lL m.cL) ∧ w'.cell? ⟨w.heap.size, 1, none⟩ = some (.slice m.aS m.lS m.cS) ∧ w'.cell? ⟨w.heap.size, 2, none⟩ = some (.slice m.aD m.lD m.cD) ∧ w'.cell? ⟨w.heap.size, 3, none⟩ = some (.int .i64 m.idle) ∧ w'.cell? ⟨w.heap.size, 4, none⟩ = some (.int .i64 m.crit) ∧ w'.cell? ⟨w.heap.size, 5, none⟩ = some (.int .i64 m.sw) ∧ w'.cell? ⟨w.heap.size, 6, none⟩ = some (.int .i64 m.swe) ∧ w'.cell? ⟨w.heap.size, 7, none⟩ = some (.int .i64 m.sems) ∧ w'.cell? ⟨w.heap.size, 8, none⟩ = some (.int .i64 m.hor)) (go_keep) (first
    | (go_at_call 39; refine (HH.out _ ?_).mono ?_; first | exact HK1.out | exact HK1.out.trans (tkp_drew _); rintro e w3 ⟨rfl, k3⟩; have K3 : Kp w1 w3 := (by first | exact (tkp_drew _).trans k3 | exact k3); clear k3; obtain ⟨z0, z1, z2, z3, z4, z5, z6, z7, z8⟩ := (HP.out _ (HK1.out.trans K3)).all)
    | fail)
  all_goals
    clear z0 z1 z2 z3 z4 z5 z6 z7 z8
    go_wp2
    go_ret
    exact ⟨congrArg (fun b => Ending.returned (Value.int .i64 b)) HR.out.symm, (HK.out.trans HK1.out).trans K3⟩

end Go.Proofs.Ytaibpanceiapmaa.AD
