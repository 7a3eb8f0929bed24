/- With a task less the CPU may stay away as long, or longer. -/
import Derived.Test.YtnpbdcnogeohdaaRstLaw
import Derived.Test.YtnpbdcnogeohdaaTskLst
import Derived.Test.YtnpbdcnogeohdaaAdmAns
namespace Go.Proofs.Ytnpbdcnogeohdaa.RS
open Go.ChangeShapes Go.WideShapes Go.ChangeAt Go.RowKit Go.Proofs.Ytnpbdcnogeohdaa.AR Go.Proofs.Ytnpbdcnogeohdaa.TB Go.Proofs.Ytnpbdcnogeohdaa.TK Go.Proofs.Ytnpbdcnogeohdaa.JB Go.Proofs.Ytnpbdcnogeohdaa.FX Go.Proofs.Ytnpbdcnogeohdaa.AD Go.Proofs.Ytnpbdcnogeohdaa.SK
open Go.Proofs.Ytnpbdcnogeohdaa.LK (Hd atH HsAt C3)

/-! ### a row of tasks of the call's own -/

theorem flat4_set : ∀ (L : List Tk) (i : Nat) (t : Tk), i < L.length → ((((flat4 L).set (i * 4) (t.cell 0)).set (i * 4 + 1) (t.cell 1)).set (i * 4 + 2) (t.cell 2)).set (i * 4 + 3) (t.cell 3) = flat4 (L.set i t)
  | [], i, t, h => by simp at h
  | u :: L, 0, t, _ => by simp [flat4]
  | u :: L, i + 1, t, h => by
    have ih := flat4_set L i t (by simpa using h)
    rw [show (i + 1) * 4 = i * 4 + 1 + 1 + 1 + 1 from by omega]
    simp only [flat4, List.set_cons_succ]
    rw [ih]

/-- an append of a whole list, where the order is fixed -/
theorem wpList_append_tasks {P : Program} (w : World) {ops : Array Oper} {rest : List Oper} {o : Oper} {a : Act} {Q : Exit → Act → World → Prop} (hgd : o.guard = none) (s x : Operand) (t : TypeId)
    (ho : o.op = .call { callee := .builtin .append, args := #[s, x], argTypes := #[t, t] })
    (base : Nat) (e : TypeId) (i : TypeInfo) (z : Value) (size bytes : Nat) (ht : P.underlying t = some (.slice e)) (hi : P.info? e = some i) (hz : i.zero = some z)
    (hsize : i.size = size) (hby : i.bytes = bytes) (hzs : z.cells.size = size) (hsz : 0 < size)
    (g0 n c0 : Nat) (xs : List Value) (hs : a.eval s = .slice (some ⟨g0, 0, none⟩) n c0) (hown : w.ownsRow base e size (.slice (some ⟨g0, 0, none⟩) n c0) n xs)
    (ao : Option Addr) (m c : Nat) (news : List Value) (hx : a.eval x = .slice ao m c) (hl : news.length = m * size) (hn : ao = none → m = 0) (hnews : ∀ ad, ao = some ad → ∀ j u, news[j]? = some u → w.cell? (ad.add j) = some u) (h1 : ∀ u ∈ news, u.oneCell' = true)
    (h63 : n + m ≤ maxLen) (hbytes : (n + m) * bytes ≤ 140737488355328) (hbase : base ≤ w.heap.size)
    (h : ∀ g cap w', w'.ownsRow base e size (.slice (some ⟨g, 0, none⟩) (n + m) cap) (n + m) (xs ++ news) → w.grownBy w' (some g0) → wpList P ops Q rest (a.put o.dst (.slice (some ⟨g, 0, none⟩) (n + m) cap)) w') :
    wpList P ops Q (o :: rest) a w := by
  refine wpList_plain hgd fun K hK => ?_
  have q := step_append_any (E := False) (ops := ops) (K := K) (Q := Q) w hgd s x t ho base e i z size bytes ht hi hz hsize hby hzs hsz g0 n c0 xs hs hown ao m c news hx hl hn hnews h1 h63 hbytes hbase (fun g cap w' r1 r2 => hK _ _ (h g cap w' r1 r2))
  rw [if_pos (by simp [Region.wanted, hgd])] at q
  exact q

/-- a task in a row of the call's own -/
theorem row_four {w : World} {B g n cap : Nat} {L : List Tk} (h : w.ownsRow B 38 4 (.slice (some ⟨g, 0, none⟩) n cap) n (flat4 L)) {i : Nat} {t : Tk} (hi : L[i]? = some t) :
    w.cell? ⟨g, i * 4, none⟩ = some (.int .i64 t.p) ∧ w.cell? ⟨g, i * 4 + 1, none⟩ = some (.int .i64 t.c) ∧ w.cell? ⟨g, i * 4 + 2, none⟩ = some (.slice t.sa t.sl t.sc) ∧ w.cell? ⟨g, i * 4 + 3, none⟩ = some (.slice t.da t.dl t.dc) := by
  have hl : i < n := by
    have h1 := h.1
    rw [flat4_len] at h1
    have := (List.getElem?_eq_some_iff.1 hi).1
    omega
  have q : ∀ j, j < 4 → w.cell? ⟨g, i * 4 + j, none⟩ = some (t.cell j) := fun j hj => by
    rw [World.ownsRow.cellAt h (i * 4 + j) (by omega)]
    exact flat4_at L i j t hi hj
  exact ⟨q 0 (by omega), q 1 (by omega), q 2 (by omega), q 3 (by omega)⟩

theorem row_set {w : World} {B g n cap : Nat} {L : List Tk} (h : w.ownsRow B 38 4 (.slice (some ⟨g, 0, none⟩) n cap) n (flat4 L)) {i : Nat} (t : Tk) (hi : i < L.length) :
    ((((w.setCell ⟨g, i * 4, none⟩ (.int .i64 t.p)).setCell ⟨g, i * 4 + 1, none⟩ (.int .i64 t.c)).setCell ⟨g, i * 4 + 2, none⟩ (.slice t.sa t.sl t.sc)).setCell ⟨g, i * 4 + 3, none⟩ (.slice t.da t.dl t.dc)).ownsRow B 38 4 (.slice (some ⟨g, 0, none⟩) n cap) n (flat4 (L.set i t)) := by
  have s1 := (h.stored (i * 4) (.int .i64 t.p)).1
  have s2 := (s1.stored (i * 4 + 1) (.int .i64 t.c)).1
  have s3 := (s2.stored (i * 4 + 2) (.slice t.sa t.sl t.sc)).1
  have s4 := (s3.stored (i * 4 + 3) (.slice t.da t.dl t.dc)).1
  have e := flat4_set L i t hi
  simp only [Tk.cell] at e
  rw [← e]
  exact s4

theorem noT_at (w : World) : TAt w noT := ⟨RW.no_nums _ _, RW.no_nums _ _⟩

set_option maxRecDepth 100000 in
set_option maxHeartbeats 32000000 in
theorem restFewer_walk (v : Vw) (a n : Int) (w : World) (hv0 : VL w v) (_ : I64 v.now) (_ : I64 a) (hn : (Lit.int .u8 n).wf = true) :
    Calls Try.prog 5 #[v.rv a, .int .u8 n] w fun e w' => e = .returned (.bool true) ∧ Below w.heap.size w w' := by
  have HE : Hid (∀ w', Kp w w' → Below w.heap.size w w') := fun w' q => q
  obtain ⟨n0, n1⟩ := su8_in hn
  obtain ⟨W0, HW, K0, P0⟩ := box_noJ w v a
  obtain ⟨u, hu⟩ : ∃ u, (v.setH none 0 0 []).setJ none 0 0 [] = u := ⟨_, rfl⟩
  have hv : VL w u := by rw [← hu]; exact hv0.noH.noJ
  have hb : Bare u := by rw [← hu]; exact bare_of v
  rw [hu] at P0
  clear hu hv0 hn
  have HP : Hid (∀ W, Kp W0 W → B15 W w.heap.size u a) := fun W k => P0.kp k
  have HK : Hid (Kp w W0) := K0
  have HV0 : Hid (VL w u) := hv
  have hty := hv.t.by'
  have HG : Hid (Calls Try.prog 6 #[u.rv a] W0 fun e w' => e = .returned (.bool (goodV u a)) ∧ Kp W0 w') := rgood_any u a W0 (hv.kept K0) hb
  have HD : Hid (goodV u a = true → VG u) := fun q => (good_vg hv q).1
  have HA : Hid (VG u → ∀ W, Kp W0 W → Calls Try.prog 8 #[u.m.v, .slice u.ta u.tl u.tc, .slice u.na u.nl u.nc, .int .i64 u.now] W fun e w' => e = .returned (.int .i64 (rdI u)) ∧ Kp W w') := fun g W q => pready_any u W (hv.kept (K0.trans q)) g hb
  have HB : Hid (VG u → ∀ (i : Nat) (ao : Option Addr) (c : Nat) W, Kp W0 W → LAt W ao u.tl (u.T.set i noT) → Calls Try.prog 8 #[u.m.v, .slice ao u.tl c, .slice u.na u.nl u.nc, .int .i64 u.now] W fun e w' => e = .returned (.int .i64 (rdI (setT u ao c (u.T.set i noT)))) ∧ Kp W w') := fun g i ao c W q l => pready_any (setT u ao c (u.T.set i noT)) W (setT_vl (hv.kept (K0.trans q)) l) (less_vg g hb) (setT_bare hb _)
  have HL : Hid (VG u → ∀ (i : Nat) (ao : Option Addr) (c : Nat), rdI u ≤ rdI (setT u ao c (u.T.set i noT))) := fun g i ao c => rd_less g hb
  have wn : IntKind.i64.wrap n = n := wrapI (by omega)
  have wn2 : wrap64 n = n := IntWalk.wrap64_in _ (by omega)
  generalize hgd : goodV u a = gd at *
  clear hv K0 hgd hb
  unfold Vw.rv Mc.v at *
  go_enter Try.func5, Try.ntmps5
  try dsimp only [List.append]
  go_upto_region 2 with fail
  rw [← HW.out]
  clear HW
  obtain ⟨p0, p1, p2, p3, p4, p5, p6, p7, p8, p9, p10, p11, p12, p13, p14⟩ := P0.all
  clear P0
  cases gd with
  | false =>
    go_wp2_with fail
    refine Calls.mono HG.out ?_
    rintro e w1 ⟨rfl, k1⟩
    go_wp2_with fail
    refine (ranswers_any _).mono ?_
    rintro e w2 ⟨rfl, k2⟩
    go_wp2
    go_ret
    exact ⟨rfl, HE.out _ ((HK.out.trans k1).trans k2)⟩
  | true =>
    have HVG : Hid (VG u) := HD.out rfl
    have HA' : Hid _ := HA.out HVG.out
    have HB' : Hid _ := HB.out HVG.out
    have HL' : Hid _ := HL.out HVG.out
    clear HD HA HB HL
    by_cases hl0 : u.tl = 0
    · have hl0' : ((u.tl : Int) == 0) = true := by simp [hl0]
      clear hl0
      go_wp2_with fail
      refine Calls.mono HG.out ?_
      rintro e w1 ⟨rfl, k1⟩
      have HK1 : Hid (Kp W0 w1) := k1
      clear p0 p1 p2 p3 p4 p5 p6 p7 p8 p9 p10 p11 p12 p13 p14 k1 HG
      obtain ⟨p0, p1, p2, p3, p4, p5, p6, p7, p8, p9, p10, p11, p12, p13, p14⟩ := (HP.out _ HK1.out).all
      go_wp2_with fail
      refine (ranswers_any _).mono ?_
      rintro e w2 ⟨rfl, k2⟩
      go_wp2
      go_ret
      exact ⟨rfl, HE.out _ ((HK.out.trans HK1.out).trans k2)⟩
    · have hl0' : ((u.tl : Int) == 0) = false := by simpa using hl0
      obtain ⟨x, hx, ex, wx⟩ := smod_of ⟨n0, n1⟩ (show 1 ≤ u.tl by omega)
      obtain ⟨i0, hi, hz0, hz1, hz2⟩ := info_parts tk_info
      have HI : Hid (Try.prog.info? 38 = some i0 ∧ i0.zero = some (.agg #[.int .i64 0, .int .i64 0, .slice none 0 0, .slice none 0 0]) ∧ i0.size = 4 ∧ i0.bytes = 64) := ⟨hi, hz0, hz1, hz2⟩
      have h64 := HVG.out.n
      clear wx hl0 hi hz0 hz1 hz2
      go_wp2_with fail
      refine Calls.mono HG.out ?_
      rintro e w1 ⟨rfl, k1⟩
      have HK1 : Hid (Kp W0 w1) := k1
      have HLA : Hid (LAt w1 u.ta u.tl u.T) := HV0.out.t.kept (HK.out.trans k1)
      have HNl : Hid (u.ta = none → u.tl = 0) := fun q => LAt.nil (w := w1) (L := u.T) (by rw [← q]; exact HLA.out)
      obtain ⟨tx, htx0⟩ : ∃ t, u.T[x]? = some t := ⟨_, List.getElem?_eq_getElem (show x < u.T.length by rw [HLA.out.ln]; exact hx)⟩
      have htx : Hid (u.T[x]? = some tx) := htx0
      have hxT : Hid (x < u.T.length) := by show _ < _; rw [HLA.out.ln]; exact hx
      have x0 : (0 : Int) ≤ (x : Int) := by omega
      have xl : (x : Int) < (u.tl : Int) := by omega
      have xn : ((x : Int)).toNat = x := by omega
      clear p0 p1 p2 p3 p4 p5 p6 p7 p8 p9 p10 p11 p12 p13 p14 k1 HG htx0
      obtain ⟨p0, p1, p2, p3, p4, p5, p6, p7, p8, p9, p10, p11, p12, p13, p14⟩ := (HP.out _ HK1.out).all
      have hsz : w.heap.size < w1.heap.size := (HP.out _ HK1.out).lt
      go_wp2_with (first
        | (at_builtin; refine wpList_append_tasks _ rfl _ _ 27 rfl w1.heap.size 38 i0 _ 4 64 Try.underlying27 HI.out.1 HI.out.2.1 HI.out.2.2.1 HI.out.2.2.2 (by rfl) (by decide) w1.heap.size 0 0 [] rfl (ownsRow_none _ (Nat.le_refl _) (heap_alloc_at w1 _)) u.ta u.tl u.tc (flat4 u.T) rfl (by rw [flat4_len, HLA.out.ln]) HNl.out (HLA.out.kept ((Kp.refl _).alloc _)).flat flat4_one (by unfold maxLen; omega) (by omega) ((Kp.refl _).alloc _).size ?_; intro g1 cap1 V R1 hg1; simp only [Nat.zero_add, List.nil_append] at R1 ⊢; have KV : Hid (Kp w1 V) := kp_grown ((Kp.refl _).alloc _) hg1 (Nat.le_refl _); have HR : Hid (V.ownsRow w1.heap.size 38 4 (.slice (some ⟨g1, 0, none⟩) u.tl cap1) u.tl (flat4 u.T)) := R1; obtain ⟨cx0, cx1, cx2, cx3⟩ := row_four R1 htx.out; have fx0 := R1.frozenAt (x * 4); have fx1 := R1.frozenAt (x * 4 + 1); have fx2 := R1.frozenAt (x * 4 + 2); have fx3 := R1.frozenAt (x * 4 + 3); clear R1 hg1)
        | fail)
      obtain ⟨U, HU⟩ : ∃ U, Hid (U = ((((V.setCell ⟨g1, x * 4, none⟩ (.int .i64 0)).setCell ⟨g1, x * 4 + 1, none⟩ (.int .i64 0)).setCell ⟨g1, x * 4 + 2, none⟩ (.slice none 0 0)).setCell ⟨g1, x * 4 + 3, none⟩ (.slice none 0 0))) := ⟨_, rfl⟩
      have R1 : U.ownsRow w1.heap.size 38 4 (.slice (some ⟨g1, 0, none⟩) u.tl cap1) u.tl (flat4 (u.T.set x noT)) := by rw [HU.out]; exact row_set (w := V) HR.out noT hxT.out
      have hg1b : w1.heap.size ≤ g1 := row_base HR.out
      have KU : Hid (Kp w1 U) := by show Kp _ _; rw [HU.out]; exact (((KV.out.setCell hg1b _).setCell hg1b _).setCell hg1b _).setCell hg1b _
      rw [← HU.out]
      have HKU : Hid (Kp W0 U) := HK1.out.trans KU.out
      have HLU : Hid (LAt U (some ⟨g1, 0, none⟩) u.tl (u.T.set x noT)) := lat_of_row R1 (fun t ht => by
        rcases List.mem_or_eq_of_mem_set ht with q | rfl
        · exact (HLA.out.each t q).kept KU.out
        · exact noT_at _) (by omega)
      have HBc : Hid (∀ W, Kp U W → Calls Try.prog 8 #[.agg #[.slice u.m.aL u.m.lL u.m.cL, .slice u.m.aS u.m.lS u.m.cS, .slice u.m.aD u.m.lD u.m.cD, .int .i64 u.m.idle, .int .i64 u.m.crit, .int .i64 u.m.sw, .int .i64 u.m.swe, .int .i64 u.m.sems, .int .i64 u.m.hor], .slice (some ⟨g1, 0, none⟩) u.tl cap1, .slice u.na u.nl u.nc, .int .i64 u.now] W fun e w' => e = .returned (.int .i64 (rdI (setT u (some ⟨g1, 0, none⟩) cap1 (u.T.set x noT)))) ∧ Kp W w') := fun W q => HB'.out x _ cap1 W (HKU.out.trans q) (HLU.out.kept q)
      have hle := HL'.out x (some ⟨g1, 0, none⟩) cap1
      clear HU cx0 cx1 cx2 cx3 fx0 fx1 fx2 fx3 p0 p1 p2 p3 p4 p5 p6 p7 p8 p9 p10 p11 p12 p13 p14 R1 hg1b HB' HL' HR KV
      generalize rdI (setT u (some ⟨g1, 0, none⟩) cap1 (u.T.set x noT)) = rb at *
      generalize rdI u = ra at *
      obtain ⟨p0, p1, p2, p3, p4, p5, p6, p7, p8, p9, p10, p11, p12, p13, p14⟩ := (HP.out _ HKU.out).all
      go_region_held3 (fun w' => w'.cell? ⟨w.heap.size, 0, none⟩ = some (.slice u.m.aL u.m.lL u.m.cL) ∧ w'.cell? ⟨w.heap.size, 1, none⟩ = some (.slice u.m.aS u.m.lS u.m.cS) ∧ w'.cell? ⟨w.heap.size, 2, none⟩ = some (.slice u.m.aD u.m.lD u.m.cD) ∧ w'.cell? ⟨w.heap.size, 3, none⟩ = some (.int .i64 u.m.idle) ∧ w'.cell? ⟨w.heap.size, 4, none⟩ = some (.int .i64 u.m.crit) ∧ w'.cell? ⟨w.heap.size, 5, none⟩ = some (.int .i64 u.m.sw) ∧ w'.cell? ⟨w.heap.size, 6, none⟩ = some (.int .i64 u.m.swe) ∧ w'.cell? ⟨w.heap.size, 7, none⟩ = some (.int .i64 u.m.sems) ∧ w'.cell? ⟨w.heap.size, 8, none⟩ = some (.int .i64 u.m.hor) ∧ w'.cell? ⟨w.heap.size, 9, none⟩ = some (.slice u.ta u.tl u.tc) ∧ w'.cell? ⟨w.heap.size, 10, none⟩ = some (.slice u.na u.nl u.nc) ∧ w'.cell? ⟨w.heap.size, 11, none⟩ = some (.slice u.ja u.jl u.jc) ∧ w'.cell? ⟨w.heap.size, 12, none⟩ = some (.slice u.ha u.hl u.hc) ∧ w'.cell? ⟨w.heap.size, 13, none⟩ = some (.int .i64 u.now) ∧ w'.cell? ⟨w.heap.size, 14, none⟩ = some (.int .i64 a)) (go_keep) (first
        | (go_at_call 8; refine Calls.mono (HA'.out _ (HKU.out.trans (TB.kp_drew _))) ?_; clear HA'; rintro e w3 ⟨rfl, k3⟩; have K3 : Kp U w3 := (TB.kp_drew _).trans k3; clear k3; obtain ⟨z0, z1, z2, z3, z4, z5, z6, z7, z8, z9, z10, z11, z12, z13, z14⟩ := (HP.out _ (HKU.out.trans K3)).all)
        | (go_at_call 8; refine Calls.mono (HBc.out _ K3) ?_; rintro e w4 ⟨rfl, k4⟩; have K4 := K3.trans k4; clear k4; obtain ⟨z0, z1, z2, z3, z4, z5, z6, z7, z8, z9, z10, z11, z12, z13, z14⟩ := (HP.out _ (HKU.out.trans K4)).all)
        | fail)
      all_goals
        go_wp2_with fail
        refine (ranswers_any _).mono ?_
        rintro e w5 ⟨rfl, k5⟩
        go_wp2
        go_ret
        exact ⟨by simp, HE.out _ (HK.out.trans (HKU.out.trans (K4.trans k5)))⟩

end Go.Proofs.Ytnpbdcnogeohdaa.RS
