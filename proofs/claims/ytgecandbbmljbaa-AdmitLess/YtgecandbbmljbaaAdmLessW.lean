/- Tasks that fit do so without any one of them. -/
import Derived.Test.YtgecandbbmljbaaAdmAns
import Derived.Test.YtgecandbbmljbaaAdmGood
import Derived.Test.YtgecandbbmljbaaAdmLstP
import Derived.Test.YtgecandbbmljbaaAdmSloP
namespace Go.Proofs.Ytgecandbbmljbaa.AD
open Go.ChangeShapes Go.WideShapes Go.ChangeAt Go.RowKit Go.Proofs.Ytgecandbbmljbaa.AR Go.Proofs.Ytgecandbbmljbaa.TB Go.Proofs.Ytgecandbbmljbaa.TK Go.Proofs.Ytgecandbbmljbaa.FX

set_option maxRecDepth 100000 in
set_option maxHeartbeats 16000000 in
theorem admitLess_go (m : Mc) (ao : Option Addr) (len cap : Nat) (L : List Tk) (n : Int) (w : World) (hm : m.At w) (h : LAt w ao len L) (hcap : len ≤ cap) (hcm : cap ≤ 9223372036854775807) (hn : (Lit.int .u8 n).wf = true) :
    Calls Try.prog 7 #[m.v, .slice ao len cap, .int .u8 n] w fun e w' => e = .returned (.bool true) ∧ Below w.heap.size w w' := by
  have HE : Hid (∀ w', Kp w w' → Below w.heap.size w w') := fun w' q => q
  have hby := h.by'
  have HL0 : Hid (LAt w ao len L) := h
  have HM0 : Hid (m.At w) := hm
  have HG : Hid (∀ W, Kp w W → Calls Try.prog 9 #[m.v, .slice ao len cap] W fun e w' => e = .returned (.bool (goodB m L)) ∧ Kp W w') := fun W k => good_any m ao len cap L W (hm.kept k) (h.kept k)
  have HD : Hid (goodB m L = true → Gd m L) := fun q => (good_t q).1
  have HF : Hid (Gd m L → ∀ W, Kp w W → Calls Try.prog 20 #[m.v, .slice ao len cap] W fun e w' => e = .returned (.bool (fitB m L)) ∧ Kp W w') := fun d W k => fits_any m ao len cap L W (hm.kept k) (h.kept k) d
  have HFt : Hid (fitB m L = true → lod m L 0 ≤ 4294967296) := fun q => of_decide_eq_true q
  have HLd : Hid (Gd m L → ∀ W, Kp w W → Calls Try.prog 18 #[m.v, .slice ao len cap, .int .i64 0] W fun e w' => e = .returned (.int .i64 (lod m L 0)) ∧ Kp W w') := fun d W k => load_any m ao len cap L 0 W (hm.kept k) (h.kept k) d
  have HM : Hid (∀ (M : List Tk), Gd m M → ∀ W av cv, Kp w W → LAt W av M.length M → Calls Try.prog 20 #[m.v, .slice av M.length cv] W fun e w' => e = .returned (.bool (fitB m M)) ∧ Kp W w') := fun M d W av cv k q => fits_any m av _ cv M W (hm.kept k) q d
  have HML : Hid (∀ (M : List Tk), Gd m M → ∀ W av cv, Kp w W → LAt W av M.length M → Calls Try.prog 18 #[m.v, .slice av M.length cv, .int .i64 0] W fun e w' => e = .returned (.int .i64 (lod m M 0)) ∧ Kp W w') := fun M d W av cv k q => load_any m av _ cv M 0 W (hm.kept k) q d
  have HMS : Hid (∀ (M : List Tk), Gd m M → ∀ W av cv, Kp w W → LAt W av M.length M → Calls Try.prog 21 #[m.v, .slice av M.length cv] W fun e w' => e = .returned (.int .i64 (slo m M : Nat)) ∧ Kp W w') := fun M d W av cv k q => slowest_any m av _ cv M W (hm.kept k) q d
  obtain ⟨n0, n1⟩ := u8_in hn
  clear hm h hn
  obtain ⟨W0, HW, K0, P0⟩ := one_box w m
  have HP : Hid (∀ W, Kp W0 W → B9 W w.heap.size m) := fun W k => P0.kp k
  have HK : Hid (Kp w W0) := K0
  generalize goodB m L = gd at *
  generalize hft : fitB m L = ft at *
  obtain ⟨p0, p1, p2, p3, p4, p5, p6, p7, p8⟩ := P0.all
  unfold Mc.v at *
  clear P0 K0 hft
  cases gd with
  | false =>
    go_enter Try.func7, Try.ntmps7
    go_wp2_with fail
    rw [← HW.out]
    refine (HG.out _ HK.out).mono ?_
    rintro e w1 ⟨rfl, k1⟩
    go_wp2_with fail
    refine (aanswers_any _).mono ?_
    rintro e w2 ⟨rfl, k2⟩
    go_wp2
    go_ret
    exact ⟨rfl, HE.out _ ((HK.out.trans k1).trans k2)⟩
  | true =>
    have d := HD.out rfl
    by_cases hl0 : len = 0
    · subst hl0
      go_enter Try.func7, Try.ntmps7
      go_wp2_with fail
      rw [← HW.out]
      refine (HG.out _ HK.out).mono ?_
      rintro e w1 ⟨rfl, k1⟩
      go_wp2_with fail
      refine (aanswers_any _).mono ?_
      rintro e w2 ⟨rfl, k2⟩
      go_wp2
      go_ret
      exact ⟨rfl, HE.out _ ((HK.out.trans k1).trans k2)⟩
    · have hl0' : ((len : Int) == 0) = false := by simpa using hl0
      have HF1 : Hid (∀ W, Kp w W → Calls Try.prog 20 #[.agg #[.slice m.aL m.lL m.cL, .slice m.aS m.lS m.cS, .slice m.aD m.lD m.cD, .int .i64 m.idle, .int .i64 m.crit, .int .i64 m.sw, .int .i64 m.swe, .int .i64 m.sems, .int .i64 m.hor], .slice ao len cap] W fun e w' => e = .returned (.bool ft) ∧ Kp W w') := HF.out d
      have HL1 : Hid (∀ W, Kp w W → Calls Try.prog 18 #[.agg #[.slice m.aL m.lL m.cL, .slice m.aS m.lS m.cS, .slice m.aD m.lD m.cD, .int .i64 m.idle, .int .i64 m.crit, .int .i64 m.sw, .int .i64 m.swe, .int .i64 m.sems, .int .i64 m.hor], .slice ao len cap, .int .i64 0] W fun e w' => e = .returned (.int .i64 (lod m L 0)) ∧ Kp W w') := HLd.out d
      have HDD : Hid (Gd m L) := d
      clear HF HLd HD d
      cases ft with
      | false =>
        go_enter Try.func7, Try.ntmps7
        go_wp2_with fail
        rw [← HW.out]
        refine (HG.out _ HK.out).mono ?_
        rintro e w1 ⟨rfl, k1⟩
        have HK1 : Hid (Kp W0 w1) := k1
        clear k1 p0 p1 p2 p3 p4 p5 p6 p7 p8 HG
        obtain ⟨p0, p1, p2, p3, p4, p5, p6, p7, p8⟩ := (HP.out _ HK1.out).all
        go_wp2_with fail
        refine (HF1.out _ (HK.out.trans HK1.out)).mono ?_
        rintro e w2 ⟨rfl, k2⟩
        go_wp2_with fail
        refine (aanswers_any _).mono ?_
        rintro e w3 ⟨rfl, k3⟩
        go_wp2
        go_ret
        exact ⟨rfl, HE.out _ (((HK.out.trans HK1.out).trans k2).trans k3)⟩
      | true =>
        have HFF : Hid (lod m L 0 ≤ 4294967296) := HFt.out rfl
        obtain ⟨x, hx, ex, wx⟩ := mod_of ⟨n0, n1⟩ (show 1 ≤ len by omega)
        clear wx HFt
        go_enter Try.func7, Try.ntmps7
        go_wp2_with fail
        rw [← HW.out]
        refine (HG.out _ HK.out).mono ?_
        rintro e w1 ⟨rfl, k1⟩
        have HK1 : Hid (Kp W0 w1) := k1
        clear k1 p0 p1 p2 p3 p4 p5 p6 p7 p8 HG HW
        obtain ⟨p0, p1, p2, p3, p4, p5, p6, p7, p8⟩ := (HP.out _ HK1.out).all
        go_wp2_with fail
        refine (HF1.out _ (HK.out.trans HK1.out)).mono ?_
        rintro e w2 ⟨rfl, k2⟩
        have HK2 : Hid (Kp W0 w2) := HK1.out.trans k2
        clear k2 p0 p1 p2 p3 p4 p5 p6 p7 p8 HF1
        go_wp2_with fail
        have x0 : (0 : Int) ≤ (x : Int) := by omega
        have xn : (x : Int).toNat = x := by omega
        have hx1 : x ≤ cap := by omega
        have hx2 : x + 1 ≤ len := by omega
        have hx3 : x + 1 ≤ cap := by omega
        have hl64 : len ≤ 64 := by rw [← HL0.out.ln]; exact HDD.out.n
        have hq1 : (0 : Int) ≤ (x : Int) + 1 := by omega
        have hq2 : (x : Int) + 1 ≤ (len : Int) := by omega
        have sw1 : IntKind.i64.wrap ((x : Int) + 1) = ((x + 1 : Nat) : Int) := by rw [wrapI (by omega)]; omega
        have hlx : x < L.length := by rw [HL0.out.ln]; exact hx
        have hML : (less L x).length = x + (len - (x + 1)) := by rw [less_len hlx, HL0.out.ln]; omega
        have HGM : Hid (Gd m (less L x)) := gd_sub HDD.out (fun t ht => less_mem ht) (by rw [less_len hlx]; omega)
        have hle : Hid (lod m (less L x) 0 ≤ lod m L 0) := lod_less HDD.out.b hlx
        have HFM : Hid (fitB m (less L x) = true) := decide_eq_true (Int.le_trans hle.out HFF.out)
        have HLA : Hid (LAt w2 ao len L) := HL0.out.kept (HK.out.trans HK2.out)
        obtain ⟨b, off, hao⟩ : ∃ b off, ao = some ⟨b, off, none⟩ := by
          rcases HLA.out.row with q | ⟨b, off, e, _⟩
          · exact absurd q hl0
          · exact ⟨b, off, e⟩
        subst hao
        obtain ⟨i0, hi, hz0, hz1, hz2⟩ := info_parts tk_info
        have HI : Hid (Try.prog.info? 29 = some i0 ∧ i0.zero = some (.agg #[.int .i64 0, .int .i64 0, .slice none 0 0, .slice none 0 0]) ∧ i0.size = 4 ∧ i0.bytes = 64) := ⟨hi, hz0, hz1, hz2⟩
        clear hi hz0 hz1 hz2 hlx ex n0 n1
        have HNA : Hid (∀ W, Kp w2 W → ∀ ad, some (⟨b, off, none⟩ : Addr) = some ad → ∀ j u, (flat4 (L.take x))[j]? = some u → W.cell? (ad.add j) = some u) := fun W q ad e j u hj => (HLA.out.kept q).flat ad e j u (flat4_take L x j u hj)
        by_cases hce : cap = x + 1
        · subst hce
          have hx1q : (x : Int) ≤ (x : Int) + 1 := by omega
          have HNB : Hid (∀ W, Kp w2 W → ∀ ad, some (⟨b, off, none⟩ : Addr) = some ad → ∀ j u, (flat4 (L.drop (x + 1)))[j]? = some u → W.cell? (ad.add j) = some u) := fun W q ad e j u hj => by
            have hl : (flat4 (L.drop (x + 1))).length = 0 := by rw [flat4_len, List.length_drop, HL0.out.ln]; omega
            rw [List.eq_nil_of_length_eq_zero hl] at hj
            simp at hj
          clear hcap hx3
          refine wp_region_noPanic ?_
          refine wp_region_held_drew (S := fun _ => True) (by kernel_rfl) ?_ (fun hHeld => ?_)
          · exact trivial
          obtain ⟨V0, HV0⟩ : ∃ V0, Hid (V0 = w2.drew) := ⟨_, rfl⟩
          have KW0 : Kp w2 V0 := by rw [HV0.out]; exact tkp_drew _
          rw [← HV0.out]
          clear HV0
          refine wpAnyH_take (i := 1) (oi := Oper.mk (some 31) _ _ _ _ _) (v := ?v1p) rfl (by kernel_rfl) (by kernel_rfl) (by kernel_rfl) (fun _ _ _ h => h) (Or.inl ⟨by rfl, ?hy1p⟩) (by assumption) ?rest1p
          case hy1p => (intro w0 hSw; (try dsimp only at hSw); go_simp; try with_reducible rfl)
          try simp only [Act.put, List.setIfInBounds_toArray, List.set_cons_zero, List.set_cons_succ]
          refine wpAnyH_take (i := 2) (oi := Oper.mk (some 32) _ _ _ _ _) (v := ?v2p) rfl (by kernel_rfl) (by kernel_rfl) (by kernel_rfl) (fun _ _ _ h => h) (Or.inl ⟨by rfl, ?hy2p⟩) (by assumption) ?rest2p
          case hy2p => (intro w0 hSw; (try dsimp only at hSw); go_simp; try with_reducible rfl)
          try simp only [Act.put, List.setIfInBounds_toArray, List.set_cons_zero, List.set_cons_succ]
          refine wpAnyH_take (i := 3) (oi := Oper.mk (some 33) _ _ _ _ _) (v := ?v3p) rfl (by kernel_rfl) (by kernel_rfl) (by kernel_rfl) (fun _ _ _ h => h) (Or.inl ⟨by rfl, ?hy3p⟩) (by assumption) ?rest3p
          case hy3p => (intro w0 hSw; (try dsimp only at hSw); go_simp; try with_reducible rfl)
          try simp only [Act.put, List.setIfInBounds_toArray, List.set_cons_zero, List.set_cons_succ]
          refine wpAnyH_take (i := 5) (oi := Oper.mk (some 35) _ _ _ _ _) (v := ?v5p) rfl (by kernel_rfl) (by kernel_rfl) (by kernel_rfl) (fun _ _ _ h => h) (Or.inl ⟨by rfl, ?hy5p⟩) (by assumption) ?rest5p
          case hy5p => (intro w0 hSw; (try dsimp only at hSw); go_simp; try with_reducible rfl)
          try simp only [Act.put, List.setIfInBounds_toArray, List.set_cons_zero, List.set_cons_succ]
          refine wpAnyH_take (i := 6) (oi := Oper.mk (some 36) _ _ _ _ _) (v := ?v6p) rfl (by kernel_rfl) (by kernel_rfl) (by kernel_rfl) (fun _ _ _ h => h) (Or.inl ⟨by rfl, ?hy6p⟩) (by assumption) ?rest6p
          case hy6p => (intro w0 hSw; (try dsimp only at hSw); go_simp; try with_reducible rfl)
          try simp only [Act.put, List.setIfInBounds_toArray, List.set_cons_zero, List.set_cons_succ]
          refine wpAnyH_take (i := 7) (oi := Oper.mk (some 37) _ _ _ _ _) (v := ?v7p) rfl (by kernel_rfl) (by kernel_rfl) (by kernel_rfl) (fun _ _ _ h => h) (Or.inl ⟨by rfl, ?hy7p⟩) (by assumption) ?rest7p
          case hy7p => (intro w0 hSw; (try dsimp only at hSw); go_simp; try with_reducible rfl)
          try simp only [Act.put, List.setIfInBounds_toArray, List.set_cons_zero, List.set_cons_succ]
          refine wpAnyH_take (i := 8) (oi := Oper.mk (some 38) _ _ _ _ _) (v := ?v8p) rfl (by kernel_rfl) (by kernel_rfl) (by kernel_rfl) (fun _ _ _ h => h) (Or.inl ⟨by rfl, ?hy8p⟩) (by assumption) ?rest8p
          case hy8p => (intro w0 hSw; (try dsimp only at hSw); go_simp; try with_reducible rfl)
          try simp only [Act.put, List.setIfInBounds_toArray, List.set_cons_zero, List.set_cons_succ]
          refine wpAnyH_ready (rs := [0]) (by kernel_rfl) (by simp) ?_
          refine AllReadyH.cons (o := Oper.mk (some 30) _ _ _ _ _) rfl (fun K hK => ?_) AllReadyH.nil
          go_simp
          go_wp2_with fail
          obtain ⟨V1, HV1⟩ : ∃ V1, Hid (V1 = V0.alloc (.cells #[] 29)) := ⟨_, rfl⟩
          have KW1 : Kp w2 V1 := by rw [HV1.out]; exact KW0.alloc _
          have B1 : V1.heap[V0.heap.size]? = some (.cells #[] 29 (0, 0)) := by rw [HV1.out]; exact heap_alloc_at _ _
          have hz : w2.heap.size ≤ V0.heap.size := KW0.size
          have R1 : V1.ownsRow w2.heap.size 29 4 (.slice (some ⟨V0.heap.size, 0, none⟩) 0 0) 0 [] := ownsRow_none _ hz B1
          rw [← HV1.out]
          clear HV1
          refine hK.out _ _ ?_ (fun hHeld => ?_)
          · exact trivial
          clear hK K
          try simp only [Act.put, List.setIfInBounds_toArray, List.set_cons_zero, List.set_cons_succ]
          refine wpAnyH_ready (rs := [4]) (by kernel_rfl) (by simp) ?_
          refine AllReadyH.cons (o := Oper.mk (some 34) _ _ _ _ _) rfl (fun K hK => ?_) AllReadyH.nil
          refine step_append_any V1 rfl _ _ 31 rfl w2.heap.size 29 i0 _ 4 64 Try.underlying31 HI.out.1 HI.out.2.1 HI.out.2.2.1 HI.out.2.2.2 (by rfl) (by decide) V0.heap.size 0 0 [] rfl R1 (some ⟨b, off, none⟩) x (x + 1) (flat4 (L.take x)) rfl (by rw [flat4_len, List.length_take, HL0.out.ln]; omega) (fun q => by cases q) (HNA.out _ KW1) flat4_one (by unfold maxLen; omega) (by omega) KW1.size ?_
          intro g1 cap1 V2 R2 hg2
          simp only [Nat.zero_add, List.nil_append] at R2 ⊢
          have KW2 : Kp w2 V2 := kp_grown KW1 hg2 hz
          refine hK.out _ _ ?_ (fun hHeld => ?_)
          · exact trivial
          clear hK K
          try simp only [Act.put, List.setIfInBounds_toArray, List.set_cons_zero, List.set_cons_succ]
          refine wpAnyH_ready (rs := [9]) (by kernel_rfl) (by simp) ?_
          refine AllReadyH.cons (o := Oper.mk (some 39) _ _ _ _ _) rfl (fun K hK => ?_) AllReadyH.nil
          have hg1 : w2.heap.size ≤ g1 := row_base R2
          refine step_append_any V2 rfl _ _ 31 rfl w2.heap.size 29 i0 _ 4 64 Try.underlying31 HI.out.1 HI.out.2.1 HI.out.2.2.1 HI.out.2.2.2 (by rfl) (by decide) g1 x cap1 (flat4 (L.take x)) rfl R2 (some ⟨b, off, none⟩) (len - (x + 1)) 0 (flat4 (L.drop (x + 1))) rfl (by rw [flat4_len, List.length_drop, HL0.out.ln]) (fun q => by cases q) (HNB.out _ KW2) flat4_one (by unfold maxLen; omega) (by omega) KW2.size ?_
          intro g2 cap2 V3 R3 hg3
          rw [← flat4_append] at R3
          have KW3 : Hid (Kp w2 V3) := kp_grown KW2 hg3 hg1
          have HR3 : Hid (LAt V3 (some ⟨g2, 0, none⟩) (x + (len - (x + 1))) (less L x)) := lat_of_row R3 (fun t ht => ((HLA.out.kept KW3.out).each t (less_mem ht))) (by omega)
          clear R3 hg3 R2 hg2 R1 B1 KW0 KW1 KW2 hz hg1
          refine hK.out _ _ ?_ (fun hHeld => ?_)
          · exact trivial
          clear hK K
          try simp only [Act.put, List.setIfInBounds_toArray, List.set_cons_zero, List.set_cons_succ]
          refine wpAnyH_take (i := 10) (oi := Oper.mk (some 8) _ _ _ _ _) (v := ?v10p) rfl (by kernel_rfl) (by kernel_rfl) (by kernel_rfl) (fun _ _ _ h => h) (Or.inl ⟨by rfl, ?hy10p⟩) (by assumption) ?rest10p
          case hy10p => (intro w0 hSw; (try dsimp only at hSw); go_simp; try with_reducible rfl)
          try simp only [Act.put, List.setIfInBounds_toArray, List.set_cons_zero, List.set_cons_succ]
          refine wpAnyH_done (by kernel_rfl) ?_ _
          refine NoPanic.normal ?_
          clear hl64 sw1 hx1 hx2 hq1 hq2 x0 xn
          have KC0 : Hid (Kp w V3) := (HK.out.trans HK2.out).trans KW3.out
          have HA : Hid (∀ W, Kp V3 W → Calls Try.prog 20 #[.agg #[.slice m.aL m.lL m.cL, .slice m.aS m.lS m.cS, .slice m.aD m.lD m.cD, .int .i64 m.idle, .int .i64 m.crit, .int .i64 m.sw, .int .i64 m.swe, .int .i64 m.sems, .int .i64 m.hor], .slice (some ⟨g2, 0, none⟩) (x + (len - (x + 1))) cap2] W fun e w' => e = .returned (.bool true) ∧ Kp W w') := fun W q => by rw [← hML, ← HFM.out]; exact HM.out _ HGM.out W _ _ (KC0.out.trans q) (by rw [hML]; exact HR3.out.kept q)
          have HB : Hid (∀ W, Kp V3 W → Calls Try.prog 18 #[.agg #[.slice m.aL m.lL m.cL, .slice m.aS m.lS m.cS, .slice m.aD m.lD m.cD, .int .i64 m.idle, .int .i64 m.crit, .int .i64 m.sw, .int .i64 m.swe, .int .i64 m.sems, .int .i64 m.hor], .slice (some ⟨g2, 0, none⟩) (x + (len - (x + 1))) cap2, .int .i64 0] W fun e w' => e = .returned (.int .i64 (lod m (less L x) 0)) ∧ Kp W w') := fun W q => by rw [← hML]; exact HML.out _ HGM.out W _ _ (KC0.out.trans q) (by rw [hML]; exact HR3.out.kept q)
          have HC : Hid (∀ W, Kp V3 W → Calls Try.prog 21 #[.agg #[.slice m.aL m.lL m.cL, .slice m.aS m.lS m.cS, .slice m.aD m.lD m.cD, .int .i64 m.idle, .int .i64 m.crit, .int .i64 m.sw, .int .i64 m.swe, .int .i64 m.sems, .int .i64 m.hor], .slice (some ⟨g2, 0, none⟩) (x + (len - (x + 1))) cap2] W fun e w' => e = .returned (.int .i64 (slo m (less L x) : Nat)) ∧ Kp W w') := fun W q => by rw [← hML]; exact HMS.out _ HGM.out W _ _ (KC0.out.trans q) (by rw [hML]; exact HR3.out.kept q)
          generalize lod m (less L x) 0 = yA at *
          generalize lod m L 0 = yB at *
          generalize slo m (less L x) = nC at *
          have hnC : (0 : Int) ≤ (nC : Int) := by omega
          have hle2 : yA ≤ yB := hle.out
          have KB0 : Hid (Kp W0 V3) := HK2.out.trans KW3.out
          clear HM HML HMS HGM HFM hML HFF HLA HNA HNB
          obtain ⟨p0, p1, p2, p3, p4, p5, p6, p7, p8⟩ := (HP.out _ KB0.out).all
          go_wp2_with fail
          go_region_held3 (fun w' => w'.cell? ⟨w.heap.size, 0, none⟩ = some (.slice m.aL m.lL m.cL) ∧ w'.cell? ⟨w.heap.size, 1, none⟩ = some (.slice m.aS m.lS m.cS) ∧ w'.cell? ⟨w.heap.size, 2, none⟩ = some (.slice m.aD m.lD m.cD) ∧ w'.cell? ⟨w.heap.size, 3, none⟩ = some (.int .i64 m.idle) ∧ w'.cell? ⟨w.heap.size, 4, none⟩ = some (.int .i64 m.crit) ∧ w'.cell? ⟨w.heap.size, 5, none⟩ = some (.int .i64 m.sw) ∧ w'.cell? ⟨w.heap.size, 6, none⟩ = some (.int .i64 m.swe) ∧ w'.cell? ⟨w.heap.size, 7, none⟩ = some (.int .i64 m.sems) ∧ w'.cell? ⟨w.heap.size, 8, none⟩ = some (.int .i64 m.hor)) (go_keep) (first
            | (go_at_call 10; refine (aanswers_any _).mono ?_; rintro e w4 ⟨rfl, k4⟩; have KC : Kp V3 w4 := (by first | exact (tkp_drew _).trans k4 | exact k4); clear k4; obtain ⟨z0, z1, z2, z3, z4, z5, z6, z7, z8⟩ := (HP.out _ (KB0.out.trans KC)).all)
            | (go_at_call 20; refine (HA.out _ KC).mono ?_; rintro e w5 ⟨rfl, k5⟩; have KC := KC.trans k5; clear k5; obtain ⟨z0, z1, z2, z3, z4, z5, z6, z7, z8⟩ := (HP.out _ (KB0.out.trans KC)).all)
            | (go_at_call 18; refine (HB.out _ KC).mono ?_; rintro e w5 ⟨rfl, k5⟩; have KC := KC.trans k5; clear k5 HB; obtain ⟨z0, z1, z2, z3, z4, z5, z6, z7, z8⟩ := (HP.out _ (KB0.out.trans KC)).all)
            | (go_at_call 18; refine (HL1.out _ (KC0.out.trans KC)).mono ?_; rintro e w5 ⟨rfl, k5⟩; have KC := KC.trans k5; clear k5 HL1; obtain ⟨z0, z1, z2, z3, z4, z5, z6, z7, z8⟩ := (HP.out _ (KB0.out.trans KC)).all)
            | (go_at_call 21; refine (HC.out _ KC).mono ?_; rintro e w5 ⟨rfl, k5⟩; have KC := KC.trans k5; clear k5; obtain ⟨z0, z1, z2, z3, z4, z5, z6, z7, z8⟩ := (HP.out _ (KB0.out.trans KC)).all)
            | fail)
          all_goals
            go_wp2
            go_ret
            exact ⟨by simp, HE.out _ (KC0.out.trans KC)⟩
        · have HNB : Hid (∀ W, Kp w2 W → ∀ ad, some (⟨b, off + (x + 1) * 4, none⟩ : Addr) = some ad → ∀ j u, (flat4 (L.drop (x + 1)))[j]? = some u → W.cell? (ad.add j) = some u) := fun W q ad e j u hj => by
            cases e
            have := (HLA.out.kept q).flat ⟨b, off, none⟩ rfl ((x + 1) * 4 + j) u (flat4_drop L (x + 1) (by rw [HL0.out.ln]; exact hx2) j u hj)
            rw [add_plain] at this ⊢
            rw [show off + (x + 1) * 4 + j = off + ((x + 1) * 4 + j) from by omega]
            exact this
          refine wp_region_noPanic ?_
          refine wp_region_held_drew (S := fun _ => True) (by kernel_rfl) ?_ (fun hHeld => ?_)
          · exact trivial
          obtain ⟨V0, HV0⟩ : ∃ V0, Hid (V0 = w2.drew) := ⟨_, rfl⟩
          have KW0 : Kp w2 V0 := by rw [HV0.out]; exact tkp_drew _
          rw [← HV0.out]
          clear HV0
          refine wpAnyH_take (i := 1) (oi := Oper.mk (some 31) _ _ _ _ _) (v := ?v1q) rfl (by kernel_rfl) (by kernel_rfl) (by kernel_rfl) (fun _ _ _ h => h) (Or.inl ⟨by rfl, ?hy1q⟩) (by assumption) ?rest1q
          case hy1q => (intro w0 hSw; (try dsimp only at hSw); go_simp; try with_reducible rfl)
          try simp only [Act.put, List.setIfInBounds_toArray, List.set_cons_zero, List.set_cons_succ]
          refine wpAnyH_take (i := 2) (oi := Oper.mk (some 32) _ _ _ _ _) (v := ?v2q) rfl (by kernel_rfl) (by kernel_rfl) (by kernel_rfl) (fun _ _ _ h => h) (Or.inl ⟨by rfl, ?hy2q⟩) (by assumption) ?rest2q
          case hy2q => (intro w0 hSw; (try dsimp only at hSw); go_simp; try with_reducible rfl)
          try simp only [Act.put, List.setIfInBounds_toArray, List.set_cons_zero, List.set_cons_succ]
          refine wpAnyH_take (i := 3) (oi := Oper.mk (some 33) _ _ _ _ _) (v := ?v3q) rfl (by kernel_rfl) (by kernel_rfl) (by kernel_rfl) (fun _ _ _ h => h) (Or.inl ⟨by rfl, ?hy3q⟩) (by assumption) ?rest3q
          case hy3q => (intro w0 hSw; (try dsimp only at hSw); go_simp; try with_reducible rfl)
          try simp only [Act.put, List.setIfInBounds_toArray, List.set_cons_zero, List.set_cons_succ]
          refine wpAnyH_take (i := 5) (oi := Oper.mk (some 35) _ _ _ _ _) (v := ?v5q) rfl (by kernel_rfl) (by kernel_rfl) (by kernel_rfl) (fun _ _ _ h => h) (Or.inl ⟨by rfl, ?hy5q⟩) (by assumption) ?rest5q
          case hy5q => (intro w0 hSw; (try dsimp only at hSw); go_simp; try with_reducible rfl)
          try simp only [Act.put, List.setIfInBounds_toArray, List.set_cons_zero, List.set_cons_succ]
          refine wpAnyH_take (i := 6) (oi := Oper.mk (some 36) _ _ _ _ _) (v := ?v6q) rfl (by kernel_rfl) (by kernel_rfl) (by kernel_rfl) (fun _ _ _ h => h) (Or.inl ⟨by rfl, ?hy6q⟩) (by assumption) ?rest6q
          case hy6q => (intro w0 hSw; (try dsimp only at hSw); go_simp; try with_reducible rfl)
          try simp only [Act.put, List.setIfInBounds_toArray, List.set_cons_zero, List.set_cons_succ]
          refine wpAnyH_take (i := 7) (oi := Oper.mk (some 37) _ _ _ _ _) (v := ?v7q) rfl (by kernel_rfl) (by kernel_rfl) (by kernel_rfl) (fun _ _ _ h => h) (Or.inl ⟨by rfl, ?hy7q⟩) (by assumption) ?rest7q
          case hy7q => (intro w0 hSw; (try dsimp only at hSw); go_simp; try with_reducible rfl)
          try simp only [Act.put, List.setIfInBounds_toArray, List.set_cons_zero, List.set_cons_succ]
          refine wpAnyH_take (i := 8) (oi := Oper.mk (some 38) _ _ _ _ _) (v := ?v8q) rfl (by kernel_rfl) (by kernel_rfl) (by kernel_rfl) (fun _ _ _ h => h) (Or.inl ⟨by rfl, ?hy8q⟩) (by assumption) ?rest8q
          case hy8q => (intro w0 hSw; (try dsimp only at hSw); go_simp; try with_reducible rfl)
          try simp only [Act.put, List.setIfInBounds_toArray, List.set_cons_zero, List.set_cons_succ]
          refine wpAnyH_ready (rs := [0]) (by kernel_rfl) (by simp) ?_
          refine AllReadyH.cons (o := Oper.mk (some 30) _ _ _ _ _) rfl (fun K hK => ?_) AllReadyH.nil
          go_simp
          go_wp2_with fail
          obtain ⟨V1, HV1⟩ : ∃ V1, Hid (V1 = V0.alloc (.cells #[] 29)) := ⟨_, rfl⟩
          have KW1 : Kp w2 V1 := by rw [HV1.out]; exact KW0.alloc _
          have B1 : V1.heap[V0.heap.size]? = some (.cells #[] 29 (0, 0)) := by rw [HV1.out]; exact heap_alloc_at _ _
          have hz : w2.heap.size ≤ V0.heap.size := KW0.size
          have R1 : V1.ownsRow w2.heap.size 29 4 (.slice (some ⟨V0.heap.size, 0, none⟩) 0 0) 0 [] := ownsRow_none _ hz B1
          rw [← HV1.out]
          clear HV1
          refine hK.out _ _ ?_ (fun hHeld => ?_)
          · exact trivial
          clear hK K
          try simp only [Act.put, List.setIfInBounds_toArray, List.set_cons_zero, List.set_cons_succ]
          refine wpAnyH_ready (rs := [4]) (by kernel_rfl) (by simp) ?_
          refine AllReadyH.cons (o := Oper.mk (some 34) _ _ _ _ _) rfl (fun K hK => ?_) AllReadyH.nil
          refine step_append_any V1 rfl _ _ 31 rfl w2.heap.size 29 i0 _ 4 64 Try.underlying31 HI.out.1 HI.out.2.1 HI.out.2.2.1 HI.out.2.2.2 (by rfl) (by decide) V0.heap.size 0 0 [] rfl R1 (some ⟨b, off, none⟩) x cap (flat4 (L.take x)) rfl (by rw [flat4_len, List.length_take, HL0.out.ln]; omega) (fun q => by cases q) (HNA.out _ KW1) flat4_one (by unfold maxLen; omega) (by omega) KW1.size ?_
          intro g1 cap1 V2 R2 hg2
          simp only [Nat.zero_add, List.nil_append] at R2 ⊢
          have KW2 : Kp w2 V2 := kp_grown KW1 hg2 hz
          refine hK.out _ _ ?_ (fun hHeld => ?_)
          · exact trivial
          clear hK K
          try simp only [Act.put, List.setIfInBounds_toArray, List.set_cons_zero, List.set_cons_succ]
          refine wpAnyH_ready (rs := [9]) (by kernel_rfl) (by simp) ?_
          refine AllReadyH.cons (o := Oper.mk (some 39) _ _ _ _ _) rfl (fun K hK => ?_) AllReadyH.nil
          have hg1 : w2.heap.size ≤ g1 := row_base R2
          refine step_append_any V2 rfl _ _ 31 rfl w2.heap.size 29 i0 _ 4 64 Try.underlying31 HI.out.1 HI.out.2.1 HI.out.2.2.1 HI.out.2.2.2 (by rfl) (by decide) g1 x cap1 (flat4 (L.take x)) rfl R2 (some ⟨b, off + (x + 1) * 4, none⟩) (len - (x + 1)) (cap - (x + 1)) (flat4 (L.drop (x + 1))) rfl (by rw [flat4_len, List.length_drop, HL0.out.ln]) (fun q => by cases q) (HNB.out _ KW2) flat4_one (by unfold maxLen; omega) (by omega) KW2.size ?_
          intro g2 cap2 V3 R3 hg3
          rw [← flat4_append] at R3
          have KW3 : Hid (Kp w2 V3) := kp_grown KW2 hg3 hg1
          have HR3 : Hid (LAt V3 (some ⟨g2, 0, none⟩) (x + (len - (x + 1))) (less L x)) := lat_of_row R3 (fun t ht => ((HLA.out.kept KW3.out).each t (less_mem ht))) (by omega)
          clear R3 hg3 R2 hg2 R1 B1 KW0 KW1 KW2 hz hg1
          refine hK.out _ _ ?_ (fun hHeld => ?_)
          · exact trivial
          clear hK K
          try simp only [Act.put, List.setIfInBounds_toArray, List.set_cons_zero, List.set_cons_succ]
          refine wpAnyH_take (i := 10) (oi := Oper.mk (some 8) _ _ _ _ _) (v := ?v10q) rfl (by kernel_rfl) (by kernel_rfl) (by kernel_rfl) (fun _ _ _ h => h) (Or.inl ⟨by rfl, ?hy10q⟩) (by assumption) ?rest10q
          case hy10q => (intro w0 hSw; (try dsimp only at hSw); go_simp; try with_reducible rfl)
          try simp only [Act.put, List.setIfInBounds_toArray, List.set_cons_zero, List.set_cons_succ]
          refine wpAnyH_done (by kernel_rfl) ?_ _
          refine NoPanic.normal ?_
          clear hl64 sw1 hx1 hx2 hq1 hq2 x0 xn
          have KC0 : Hid (Kp w V3) := (HK.out.trans HK2.out).trans KW3.out
          have HA : Hid (∀ W, Kp V3 W → Calls Try.prog 20 #[.agg #[.slice m.aL m.lL m.cL, .slice m.aS m.lS m.cS, .slice m.aD m.lD m.cD, .int .i64 m.idle, .int .i64 m.crit, .int .i64 m.sw, .int .i64 m.swe, .int .i64 m.sems, .int .i64 m.hor], .slice (some ⟨g2, 0, none⟩) (x + (len - (x + 1))) cap2] W fun e w' => e = .returned (.bool true) ∧ Kp W w') := fun W q => by rw [← hML, ← HFM.out]; exact HM.out _ HGM.out W _ _ (KC0.out.trans q) (by rw [hML]; exact HR3.out.kept q)
          have HB : Hid (∀ W, Kp V3 W → Calls Try.prog 18 #[.agg #[.slice m.aL m.lL m.cL, .slice m.aS m.lS m.cS, .slice m.aD m.lD m.cD, .int .i64 m.idle, .int .i64 m.crit, .int .i64 m.sw, .int .i64 m.swe, .int .i64 m.sems, .int .i64 m.hor], .slice (some ⟨g2, 0, none⟩) (x + (len - (x + 1))) cap2, .int .i64 0] W fun e w' => e = .returned (.int .i64 (lod m (less L x) 0)) ∧ Kp W w') := fun W q => by rw [← hML]; exact HML.out _ HGM.out W _ _ (KC0.out.trans q) (by rw [hML]; exact HR3.out.kept q)
          have HC : Hid (∀ W, Kp V3 W → Calls Try.prog 21 #[.agg #[.slice m.aL m.lL m.cL, .slice m.aS m.lS m.cS, .slice m.aD m.lD m.cD, .int .i64 m.idle, .int .i64 m.crit, .int .i64 m.sw, .int .i64 m.swe, .int .i64 m.sems, .int .i64 m.hor], .slice (some ⟨g2, 0, none⟩) (x + (len - (x + 1))) cap2] W fun e w' => e = .returned (.int .i64 (slo m (less L x) : Nat)) ∧ Kp W w') := fun W q => by rw [← hML]; exact HMS.out _ HGM.out W _ _ (KC0.out.trans q) (by rw [hML]; exact HR3.out.kept q)
          generalize lod m (less L x) 0 = yA at *
          generalize lod m L 0 = yB at *
          generalize slo m (less L x) = nC at *
          have hnC : (0 : Int) ≤ (nC : Int) := by omega
          have hle2 : yA ≤ yB := hle.out
          have KB0 : Hid (Kp W0 V3) := HK2.out.trans KW3.out
          clear HM HML HMS HGM HFM hML HFF HLA HNA HNB
          obtain ⟨p0, p1, p2, p3, p4, p5, p6, p7, p8⟩ := (HP.out _ KB0.out).all
          go_wp2_with fail
          go_region_held3 (fun w' => w'.cell? ⟨w.heap.size, 0, none⟩ = some (.slice m.aL m.lL m.cL) ∧ w'.cell? ⟨w.heap.size, 1, none⟩ = some (.slice m.aS m.lS m.cS) ∧ w'.cell? ⟨w.heap.size, 2, none⟩ = some (.slice m.aD m.lD m.cD) ∧ w'.cell? ⟨w.heap.size, 3, none⟩ = some (.int .i64 m.idle) ∧ w'.cell? ⟨w.heap.size, 4, none⟩ = some (.int .i64 m.crit) ∧ w'.cell? ⟨w.heap.size, 5, none⟩ = some (.int .i64 m.sw) ∧ w'.cell? ⟨w.heap.size, 6, none⟩ = some (.int .i64 m.swe) ∧ w'.cell? ⟨w.heap.size, 7, none⟩ = some (.int .i64 m.sems) ∧ w'.cell? ⟨w.heap.size, 8, none⟩ = some (.int .i64 m.hor)) (go_keep) (first
            | (go_at_call 10; refine (aanswers_any _).mono ?_; rintro e w4 ⟨rfl, k4⟩; have KC : Kp V3 w4 := (by first | exact (tkp_drew _).trans k4 | exact k4); clear k4; obtain ⟨z0, z1, z2, z3, z4, z5, z6, z7, z8⟩ := (HP.out _ (KB0.out.trans KC)).all)
            | (go_at_call 20; refine (HA.out _ KC).mono ?_; rintro e w5 ⟨rfl, k5⟩; have KC := KC.trans k5; clear k5; obtain ⟨z0, z1, z2, z3, z4, z5, z6, z7, z8⟩ := (HP.out _ (KB0.out.trans KC)).all)
            | (go_at_call 18; refine (HB.out _ KC).mono ?_; rintro e w5 ⟨rfl, k5⟩; have KC := KC.trans k5; clear k5 HB; obtain ⟨z0, z1, z2, z3, z4, z5, z6, z7, z8⟩ := (HP.out _ (KB0.out.trans KC)).all)
            | (go_at_call 18; refine (HL1.out _ (KC0.out.trans KC)).mono ?_; rintro e w5 ⟨rfl, k5⟩; have KC := KC.trans k5; clear k5 HL1; obtain ⟨z0, z1, z2, z3, z4, z5, z6, z7, z8⟩ := (HP.out _ (KB0.out.trans KC)).all)
            | (go_at_call 21; refine (HC.out _ KC).mono ?_; rintro e w5 ⟨rfl, k5⟩; have KC := KC.trans k5; clear k5; obtain ⟨z0, z1, z2, z3, z4, z5, z6, z7, z8⟩ := (HP.out _ (KB0.out.trans KC)).all)
            | fail)
          all_goals
            go_wp2
            go_ret
            exact ⟨by simp, HE.out _ (KC0.out.trans KC)⟩

theorem admitLess_walk (aL : Option Addr) (lL cL : Nat) (rL : List (List Int)) (aS : Option Addr) (lS cS : Nat) (rS : List (List Int)) (aD : Option Addr) (lD cD : Nat) (rD : List (List Int)) (idle crit sw swe sems hor : Int) (ao : Option Addr) (len cap : Nat) (L : List Tk) (n : Int) (w : World)
    (hm : Mach w aL lL rL aS lS rS aD lD rD) (h : LAt w ao len L) (_ : len * 64 ≤ 140737488351232) (hcap : len ≤ cap) (hcm : cap ≤ 9223372036854775807) (hn : (Lit.int .u8 n).wf = true) :
    Calls Try.prog 7 #[pv aL lL cL aS lS cS aD lD cD idle crit sw swe sems hor, .slice ao len cap, .int .u8 n] w fun e w' => e = .returned (.bool true) ∧ Below w.heap.size w w' :=
  admitLess_go ⟨aL, lL, cL, rL, aS, lS, cS, rS, aD, lD, cD, rD, idle, crit, sw, swe, sems, hor⟩ ao len cap L n w hm h hcap hcm hn

end Go.Proofs.Ytgecandbbmljbaa.AD
