/- In whatever order tasks stand, their load is the same. -/
import Derived.Test.YtgecandbbmljbaaAdmAns
import Derived.Test.YtgecandbbmljbaaAdmGood
import Derived.Test.YtgecandbbmljbaaAdmLstP
import Derived.Test.YtgecandbbmljbaaAdmSloP
namespace Go.Proofs.Ytgecandbbmljbaa.AD
open Go.ChangeShapes Go.WideShapes Go.ChangeAt Go.RowKit Go.Proofs.Ytgecandbbmljbaa.AR Go.Proofs.Ytgecandbbmljbaa.TB Go.Proofs.Ytgecandbbmljbaa.TK Go.Proofs.Ytgecandbbmljbaa.FX

/-- an append of a whole list, where the order is fixed -/
theorem wpList_append_tasks {P : Program} (w : World) {ops : Array Oper} {rest : List Oper} {o : Oper} {a : Act} {Q : Exit → Act → World → Prop} (hgd : o.guard = none) (s x : Operand) (t : TypeId)
    (ho : o.op = .call { callee := .builtin .append, args := #[s, x], argTypes := #[t, t] })
    (base : Nat) (e : TypeId) (i : TypeInfo) (z : Value) (size bytes : Nat) (ht : P.underlying t = some (.slice e)) (hi : P.info? e = some i) (hz : i.zero = some z)
    (hsize : i.size = size) (hby : i.bytes = bytes) (hzs : z.cells.size = size) (hsz : 0 < size)
    (g0 n c0 : Nat) (xs : List Value) (hs : a.eval s = .slice (some ⟨g0, 0, none⟩) n c0) (hown : w.ownsRow base e size (.slice (some ⟨g0, 0, none⟩) n c0) n xs)
    (ao : Option Addr) (m c : Nat) (news : List Value) (hx : a.eval x = .slice ao m c) (hl : news.length = m * size) (hn : ao = none → m = 0) (hnews : ∀ ad, ao = some ad → ∀ j u, news[j]? = some u → w.cell? (ad.add j) = some u) (h1 : ∀ u ∈ news, u.oneCell' = true)
    (h63 : n + m ≤ maxLen) (hbytes : (n + m) * bytes ≤ 140737488355328) (hbase : base ≤ w.heap.size)
    (h : ∀ g cap w', w'.ownsRow base e size (.slice (some ⟨g, 0, none⟩) (n + m) cap) (n + m) (xs ++ news) → w.grownBy w' (some g0) → wpList P ops Q rest (a.put o.dst (.slice (some ⟨g, 0, none⟩) (n + m) cap)) w') :
    wpList P ops Q (o :: rest) a w := by
  refine wpList_plain hgd fun K hK => ?_
  have q := step_append_any (E := False) (ops := ops) (K := K) (Q := Q) w hgd s x t ho base e i z size bytes ht hi hz hsize hby hzs hsz g0 n c0 xs hs hown ao m c news hx hl hn hnews h1 h63 hbytes hbase (fun g cap w' r1 r2 => hK _ _ (h g cap w' r1 r2))
  rw [if_pos (by simp [Region.wanted, hgd])] at q
  exact q

/-- a task in a row of the call's own -/
theorem row_four {w : World} {B g n cap : Nat} {L : List Tk} (h : w.ownsRow B 29 4 (.slice (some ⟨g, 0, none⟩) n cap) n (flat4 L)) {i : Nat} {t : Tk} (hi : L[i]? = some t) :
    w.cell? ⟨g, i * 4, none⟩ = some (.int .i64 t.p) ∧ w.cell? ⟨g, i * 4 + 1, none⟩ = some (.int .i64 t.c) ∧ w.cell? ⟨g, i * 4 + 2, none⟩ = some (.slice t.sa t.sl t.sc) ∧ w.cell? ⟨g, i * 4 + 3, none⟩ = some (.slice t.da t.dl t.dc) := by
  have hl : i < n := by
    have h1 := h.1
    rw [flat4_len] at h1
    have := (List.getElem?_eq_some_iff.1 hi).1
    omega
  have q : ∀ j, j < 4 → w.cell? ⟨g, i * 4 + j, none⟩ = some (t.cell j) := fun j hj => by
    rw [World.ownsRow.cellAt h (i * 4 + j) (by omega)]
    exact flat4_at L i j t hi hj
  exact ⟨q 0 (by omega), q 1 (by omega), q 2 (by omega), q 3 (by omega)⟩

theorem row_set {w : World} {B g n cap : Nat} {L : List Tk} (h : w.ownsRow B 29 4 (.slice (some ⟨g, 0, none⟩) n cap) n (flat4 L)) {i : Nat} (t : Tk) (hi : i < L.length) :
    ((((w.setCell ⟨g, i * 4, none⟩ (.int .i64 t.p)).setCell ⟨g, i * 4 + 1, none⟩ (.int .i64 t.c)).setCell ⟨g, i * 4 + 2, none⟩ (.slice t.sa t.sl t.sc)).setCell ⟨g, i * 4 + 3, none⟩ (.slice t.da t.dl t.dc)).ownsRow B 29 4 (.slice (some ⟨g, 0, none⟩) n cap) n (flat4 (L.set i t)) := by
  have s1 := (h.stored (i * 4) (.int .i64 t.p)).1
  have s2 := (s1.stored (i * 4 + 1) (.int .i64 t.c)).1
  have s3 := (s2.stored (i * 4 + 2) (.slice t.sa t.sl t.sc)).1
  have s4 := (s3.stored (i * 4 + 3) (.slice t.da t.dl t.dc)).1
  have e := flat4_set L i t hi
  simp only [Tk.cell] at e
  rw [← e]
  exact s4

set_option maxRecDepth 100000 in
set_option maxHeartbeats 16000000 in
theorem admitOrder_go (m : Mc) (ao : Option Addr) (len cap : Nat) (L : List Tk) (a b lev : Int) (w : World) (hm : m.At w) (h : LAt w ao len L) (ha : (Lit.int .u8 a).wf = true) (hb : (Lit.int .u8 b).wf = true) :
    Calls Try.prog 8 #[m.v, .slice ao len cap, .int .u8 a, .int .u8 b, .int .i64 lev] w fun e w' => e = .returned (.bool true) ∧ Below w.heap.size w w' := by
  have HE : Hid (∀ w', Kp w w' → Below w.heap.size w w') := fun w' q => q
  have hby := h.by'
  have HL0 : Hid (LAt w ao len L) := h
  have HG : Hid (∀ W, Kp w W → Calls Try.prog 9 #[m.v, .slice ao len cap] W fun e w' => e = .returned (.bool (goodB m L)) ∧ Kp W w') := fun W k => good_any m ao len cap L W (hm.kept k) (h.kept k)
  have HD : Hid (goodB m L = true → Gd m L) := fun q => (good_t q).1
  have HLd : Hid (∀ (M : List Tk), Gd m M → ∀ W av ln cv, Kp w W → LAt W av ln M → Calls Try.prog 18 #[m.v, .slice av ln cv, .int .i64 lev] W fun e w' => e = .returned (.int .i64 (lod m M lev)) ∧ Kp W w') := fun M d W av ln cv k q => load_any m av ln cv M lev W (hm.kept k) q d
  have HRs : Hid (∀ (M : List Tk), Gd m M → ∀ W av ln cv, Kp w W → LAt W av ln M → Calls Try.prog 16 #[m.v, .slice av ln cv] W fun e w' => e = .returned (.int .i64 (rsv m M M.length)) ∧ Kp W w') := fun M d W av ln cv k q => by rw [q.ln]; exact reserve_any m av ln cv M W (hm.kept k) q d.b d.t
  have HSl : Hid (∀ (M : List Tk), Gd m M → ∀ W av ln cv, Kp w W → LAt W av ln M → Calls Try.prog 21 #[m.v, .slice av ln cv] W fun e w' => e = .returned (.int .i64 (slo m M : Nat)) ∧ Kp W w') := fun M d W av ln cv k q => slowest_any m av ln cv M W (hm.kept k) q d
  obtain ⟨a0, a1⟩ := u8_in ha
  obtain ⟨b0, b1⟩ := u8_in hb
  clear hm h ha hb
  obtain ⟨W0, HW, K0, P0⟩ := one_box w m
  have HP : Hid (∀ W, Kp W0 W → B9 W w.heap.size m) := fun W k => P0.kp k
  have HK : Hid (Kp w W0) := K0
  generalize goodB m L = gd at *
  obtain ⟨p0, p1, p2, p3, p4, p5, p6, p7, p8⟩ := P0.all
  unfold Mc.v at *
  clear P0 K0
  cases gd with
  | false =>
    go_enter Try.func8, Try.ntmps8
    go_wp2_with fail
    rw [← HW.out]
    refine (HG.out _ HK.out).mono ?_
    rintro e w1 ⟨rfl, k1⟩
    go_wp2_with fail
    refine (aanswers_any _).mono ?_
    rintro e w2 ⟨rfl, k2⟩
    go_wp2
    go_ret
    exact ⟨rfl, HE.out _ ((HK.out.trans k1).trans k2)⟩
  | true =>
    have d := HD.out rfl
    by_cases hl0 : len = 0
    · subst hl0
      go_enter Try.func8, Try.ntmps8
      go_wp2_with fail
      rw [← HW.out]
      refine (HG.out _ HK.out).mono ?_
      rintro e w1 ⟨rfl, k1⟩
      go_wp2_with fail
      refine (aanswers_any _).mono ?_
      rintro e w2 ⟨rfl, k2⟩
      go_wp2
      go_ret
      exact ⟨rfl, HE.out _ ((HK.out.trans k1).trans k2)⟩
    · have hl0' : ((len : Int) == 0) = false := by simpa using hl0
      have HDD : Hid (Gd m L) := d
      have hl64 : len ≤ 64 := by rw [← HL0.out.ln]; exact HDD.out.n
      clear HD d
      obtain ⟨x, hx, ex, wx⟩ := mod_of ⟨a0, a1⟩ (show 1 ≤ len by omega)
      obtain ⟨y, hy, ey, wy⟩ := mod_of ⟨b0, b1⟩ (show 1 ≤ len by omega)
      have wa : IntKind.i64.wrap a = a := wrapI (by omega)
      have wb : IntKind.i64.wrap b = b := wrapI (by omega)
      obtain ⟨i0, hi, hz0, hz1, hz2⟩ := info_parts tk_info
      have HI : Hid (Try.prog.info? 29 = some i0 ∧ i0.zero = some (.agg #[.int .i64 0, .int .i64 0, .slice none 0 0, .slice none 0 0]) ∧ i0.size = 4 ∧ i0.bytes = 64) := ⟨hi, hz0, hz1, hz2⟩
      clear wx wy hi hz0 hz1 hz2
      go_enter Try.func8, Try.ntmps8
      try dsimp only [List.append]
      go_wp2_with fail
      rw [← HW.out]
      clear HW
      refine (HG.out _ HK.out).mono ?_
      rintro e w2 ⟨rfl, k2⟩
      have HK2 : Hid (Kp W0 w2) := k2
      have HLA : Hid (LAt w2 ao len L) := HL0.out.kept (HK.out.trans k2)
      clear k2 p0 p1 p2 p3 p4 p5 p6 p7 p8 HG
      go_wp2_with (first
        | (refine wpList_append_tasks _ rfl _ _ 31 rfl w2.heap.size 29 i0 _ 4 64 Try.underlying31 HI.out.1 HI.out.2.1 HI.out.2.2.1 HI.out.2.2.2 (by rfl) (by decide) w2.heap.size 0 0 [] rfl (ownsRow_none _ (Nat.le_refl _) (heap_alloc_at w2 _)) ao len cap (flat4 L) rfl (by rw [flat4_len, HLA.out.ln]) (fun q => by subst q; exact HLA.out.nil) (HLA.out.kept ((Kp.refl _).alloc _)).flat flat4_one (by unfold maxLen; omega) (by omega) ((Kp.refl _).alloc _).size ?_; intro g1 cap1 V R1 hg1; simp only [Nat.zero_add, List.nil_append] at R1 ⊢; have KV : Hid (Kp w2 V) := kp_grown ((Kp.refl _).alloc _) hg1 (Nat.le_refl _); have HR : Hid (V.ownsRow w2.heap.size 29 4 (.slice (some ⟨g1, 0, none⟩) len cap1) len (flat4 L)) := R1; clear R1 hg1)
        | fail)
      obtain ⟨p0, p1, p2, p3, p4, p5, p6, p7, p8⟩ := (HP.out _ (HK2.out.trans KV.out)).all
      go_region_held3 (fun w' => w'.cell? ⟨w.heap.size, 0, none⟩ = some (.slice m.aL m.lL m.cL) ∧ w'.cell? ⟨w.heap.size, 1, none⟩ = some (.slice m.aS m.lS m.cS) ∧ w'.cell? ⟨w.heap.size, 2, none⟩ = some (.slice m.aD m.lD m.cD) ∧ w'.cell? ⟨w.heap.size, 3, none⟩ = some (.int .i64 m.idle) ∧ w'.cell? ⟨w.heap.size, 4, none⟩ = some (.int .i64 m.crit) ∧ w'.cell? ⟨w.heap.size, 5, none⟩ = some (.int .i64 m.sw) ∧ w'.cell? ⟨w.heap.size, 6, none⟩ = some (.int .i64 m.swe) ∧ w'.cell? ⟨w.heap.size, 7, none⟩ = some (.int .i64 m.sems) ∧ w'.cell? ⟨w.heap.size, 8, none⟩ = some (.int .i64 m.hor)) (go_keep) (fail)
      all_goals
        obtain ⟨U, HU⟩ : ∃ U, Hid (U = V.drew) := ⟨_, rfl⟩
        have KU : Hid (Kp w2 U) := by show Kp _ _; rw [HU.out]; exact KV.out.trans (tkp_drew _)
        have HRU : Hid (U.ownsRow w2.heap.size 29 4 (.slice (some ⟨g1, 0, none⟩) len cap1) len (flat4 L)) := by show World.ownsRow _ _ _ _ _ _ _; rw [HU.out]; exact ownsRow_kp HR.out (tkp_drew _)
        rw [← HU.out]
        clear HU p0 p1 p2 p3 p4 p5 p6 p7 p8 ex ey wa wb a0 a1 b0 b1 hl0 HR KV
        go_wp2_with fail
        obtain ⟨tx, htx⟩ : ∃ t, L[x]? = some t := ⟨_, List.getElem?_eq_getElem (show x < L.length by rw [HL0.out.ln]; exact hx)⟩
        obtain ⟨ty, hty⟩ : ∃ t, L[y]? = some t := ⟨_, List.getElem?_eq_getElem (show y < L.length by rw [HL0.out.ln]; exact hy)⟩
        have HPm : Hid ((swp L x y tx ty).Perm L) := swp_perm htx hty
        have HLx : Hid (x < L.length ∧ y < L.length) := ⟨by rw [HL0.out.ln]; exact hx, by rw [HL0.out.ln]; exact hy⟩
        have HTX : Hid (L[x]? = some tx ∧ L[y]? = some ty) := ⟨htx, hty⟩
        have hx0 : (0 : Int) ≤ (x : Int) := by omega
        have hxl : (x : Int) < (len : Int) := by omega
        have hxn : (x : Int).toNat = x := by omega
        have hy0 : (0 : Int) ≤ (y : Int) := by omega
        have hyl : (y : Int) < (len : Int) := by omega
        have hyn : (y : Int).toNat = y := by omega
        clear htx hty
        refine wp_region_noPanic ?_
        refine wp_region_held_drew (S := fun _ => True) (by kernel_rfl) ?_ (fun hHeld => ?_)
        · exact trivial
        obtain ⟨U0, HU0⟩ : ∃ U0, Hid (U0 = U.drew) := ⟨_, rfl⟩
        have KU0 : Hid (Kp w2 U0) := by show Kp _ _; rw [HU0.out]; exact KU.out.trans (tkp_drew _)
        have R0 : U0.ownsRow w2.heap.size 29 4 (.slice (some ⟨g1, 0, none⟩) len cap1) len (flat4 L) := by rw [HU0.out]; exact ownsRow_kp HRU.out (tkp_drew _)
        rw [← HU0.out]
        clear HU0
        obtain ⟨cx0, cx1, cx2, cx3⟩ := row_four R0 HTX.out.1
        obtain ⟨cy0, cy1, cy2, cy3⟩ := row_four R0 HTX.out.2
        have fx := fun j => R0.frozenAt (x * 4 + j)
        have fx0 := R0.frozenAt (x * 4)
        have hg1b : Hid (w2.heap.size ≤ g1) := row_base R0
        have HR0 : Hid (U0.ownsRow w2.heap.size 29 4 (.slice (some ⟨g1, 0, none⟩) len cap1) len (flat4 L)) := R0
        clear R0
        refine wpAnyH_take (i := 0) (oi := Oper.mk (some 37) _ _ _ _ _) (v := ?v0z) rfl (by kernel_rfl) (by kernel_rfl) (by kernel_rfl) (fun _ _ _ h => h) (Or.inl ⟨by rfl, ?hy0z⟩) (by assumption) ?rest0z
        case hy0z => (intro w0 hSw; (try dsimp only at hSw); go_simp; try with_reducible rfl)
        try simp only [Act.put, List.setIfInBounds_toArray, List.set_cons_zero, List.set_cons_succ]
        refine wpAnyH_take (i := 1) (oi := Oper.mk (some 38) _ _ _ _ _) (v := ?v1z) rfl (by kernel_rfl) (by kernel_rfl) (by kernel_rfl) (fun _ _ _ h => h) (Or.inl ⟨by rfl, ?hy1z⟩) (by assumption) ?rest1z
        case hy1z => (intro w0 hSw; (try dsimp only at hSw); go_simp; try with_reducible rfl)
        try simp only [Act.put, List.setIfInBounds_toArray, List.set_cons_zero, List.set_cons_succ]
        refine wpAnyH_take (i := 2) (oi := Oper.mk (some 39) _ _ _ _ _) (v := ?v2z) rfl (by kernel_rfl) (by kernel_rfl) (by kernel_rfl) (fun _ _ _ h => h) (Or.inl ⟨by rfl, ?hy2z⟩) (by assumption) ?rest2z
        case hy2z => (intro w0 hSw; (try dsimp only at hSw); go_simp; try with_reducible rfl)
        try simp only [Act.put, List.setIfInBounds_toArray, List.set_cons_zero, List.set_cons_succ]
        refine wpAnyH_take (i := 3) (oi := Oper.mk (some 40) _ _ _ _ _) (v := ?v3z) rfl (by kernel_rfl) (by kernel_rfl) (by kernel_rfl) (fun _ _ _ h => h) (Or.inl ⟨by rfl, ?hy3z⟩) (by assumption) ?rest3z
        case hy3z => (intro w0 hSw; (try dsimp only at hSw); go_simp; try with_reducible rfl)
        try simp only [Act.put, List.setIfInBounds_toArray, List.set_cons_zero, List.set_cons_succ]
        refine wpAnyH_take (i := 4) (oi := Oper.mk (some 41) _ _ _ _ _) (v := ?v4z) rfl (by kernel_rfl) (by kernel_rfl) (by kernel_rfl) (fun _ _ _ h => h) (Or.inl ⟨by rfl, ?hy4z⟩) (by assumption) ?rest4z
        case hy4z => (intro w0 hSw; (try dsimp only at hSw); go_simp; try with_reducible rfl)
        try simp only [Act.put, List.setIfInBounds_toArray, List.set_cons_zero, List.set_cons_succ]
        refine wpAnyH_take (i := 5) (oi := Oper.mk (some 42) _ _ _ _ _) (v := ?v5z) rfl (by kernel_rfl) (by kernel_rfl) (by kernel_rfl) (fun _ _ _ h => h) (Or.inl ⟨by rfl, ?hy5z⟩) (by assumption) ?rest5z
        case hy5z => (intro w0 hSw; (try dsimp only at hSw); go_simp; try with_reducible rfl)
        try simp only [Act.put, List.setIfInBounds_toArray, List.set_cons_zero, List.set_cons_succ]
        refine wpAnyH_take (i := 6) (oi := Oper.mk (some 43) _ _ _ _ _) (v := ?v6z) rfl (by kernel_rfl) (by kernel_rfl) (by kernel_rfl) (fun _ _ _ h => h) (Or.inl ⟨by rfl, ?hy6z⟩) (by assumption) ?rest6z
        case hy6z => (intro w0 hSw; (try dsimp only at hSw); go_simp; try with_reducible rfl)
        try simp only [Act.put, List.setIfInBounds_toArray, List.set_cons_zero, List.set_cons_succ]
        refine wpAnyH_take (i := 8) (oi := Oper.mk (some 45) _ _ _ _ _) (v := ?v8z) rfl (by kernel_rfl) (by kernel_rfl) (by kernel_rfl) (fun _ _ _ h => h) (Or.inl ⟨by rfl, ?hy8z⟩) (by assumption) ?rest8z
        case hy8z => (intro w0 hSw; (try dsimp only at hSw); go_simp; try with_reducible rfl)
        try simp only [Act.put, List.setIfInBounds_toArray, List.set_cons_zero, List.set_cons_succ]
        refine wpAnyH_take (i := 9) (oi := Oper.mk (some 46) _ _ _ _ _) (v := ?v9z) rfl (by kernel_rfl) (by kernel_rfl) (by kernel_rfl) (fun _ _ _ h => h) (Or.inl ⟨by rfl, ?hy9z⟩) (by assumption) ?rest9z
        case hy9z => (intro w0 hSw; (try dsimp only at hSw); go_simp; try with_reducible rfl)
        try simp only [Act.put, List.setIfInBounds_toArray, List.set_cons_zero, List.set_cons_succ]
        refine wpAnyH_take (i := 10) (oi := Oper.mk (some 47) _ _ _ _ _) (v := ?v10z) rfl (by kernel_rfl) (by kernel_rfl) (by kernel_rfl) (fun _ _ _ h => h) (Or.inl ⟨by rfl, ?hy10z⟩) (by assumption) ?rest10z
        case hy10z => (intro w0 hSw; (try dsimp only at hSw); go_simp; try with_reducible rfl)
        try simp only [Act.put, List.setIfInBounds_toArray, List.set_cons_zero, List.set_cons_succ]
        refine wpAnyH_ready (rs := [7, 11]) (by kernel_rfl) (by simp) ?_
        refine AllReadyH.cons (o := Oper.mk (some 44) _ _ _ _ _) rfl (fun K hK => ?_) (AllReadyH.cons (o := Oper.mk (some 48) _ _ _ _ _) rfl (fun K hK => ?_) AllReadyH.nil)
        · go_simp
          go_wp2_with fail
          refine hK.out _ _ ?_ (fun hHeld => ?_)
          · exact trivial
          clear hK K
          try simp only [Act.put, List.setIfInBounds_toArray, List.set_cons_zero, List.set_cons_succ]
          refine wpAnyH_ready (rs := [11]) (by kernel_rfl) (by simp) ?_
          refine AllReadyH.cons (o := Oper.mk (some 48) _ _ _ _ _) rfl (fun K hK => ?_) AllReadyH.nil
          go_simp
          go_wp2_with fail
          refine hK.out _ _ ?_ (fun hHeld => ?_)
          · exact trivial
          clear hK K
          try simp only [Act.put, List.setIfInBounds_toArray, List.set_cons_zero, List.set_cons_succ]
          refine wpAnyH_take (i := 12) (oi := Oper.mk (some 49) _ _ _ _ _) (v := ?v12a) rfl (by kernel_rfl) (by kernel_rfl) (by kernel_rfl) (fun _ _ _ h => h) (Or.inl ⟨by rfl, ?hy12a⟩) (by assumption) ?rest12a
          case hy12a => (intro w0 hSw; (try dsimp only at hSw); go_simp; try with_reducible rfl)
          try simp only [Act.put, List.setIfInBounds_toArray, List.set_cons_zero, List.set_cons_succ]
          clear cx0 cx1 cx2 cx3 cy0 cy1 cy2 cy3 fx fx0
          obtain ⟨cx0, cx1, cx2, cx3⟩ := row_four HR0.out HTX.out.1
          have fx0 := World.ownsRow.frozenAt HR0.out (x * 4)
          have fx1 := World.ownsRow.frozenAt HR0.out (x * 4 + 1)
          have fx2 := World.ownsRow.frozenAt HR0.out (x * 4 + 2)
          have fx3 := World.ownsRow.frozenAt HR0.out (x * 4 + 3)
          refine wpAnyH_ready (rs := [13]) (by kernel_rfl) (by simp) ?_
          refine AllReadyH.cons (o := Oper.mk none _ _ _ _ _) rfl (fun K hK => ?_) AllReadyH.nil
          go_simp
          go_wp2_with fail
          obtain ⟨U1, HU1⟩ : ∃ U1, Hid (U1 = ((((U0.setCell ⟨g1, x * 4, none⟩ (.int .i64 ty.p)).setCell ⟨g1, x * 4 + 1, none⟩ (.int .i64 ty.c)).setCell ⟨g1, x * 4 + 2, none⟩ (.slice ty.sa ty.sl ty.sc)).setCell ⟨g1, x * 4 + 3, none⟩ (.slice ty.da ty.dl ty.dc))) := ⟨_, rfl⟩
          have R1 : U1.ownsRow w2.heap.size 29 4 (.slice (some ⟨g1, 0, none⟩) len cap1) len (flat4 (L.set x ty)) := by rw [HU1.out]; exact row_set (w := U0) HR0.out ty HLx.out.1
          have KU1 : Hid (Kp w2 U1) := by show Kp _ _; rw [HU1.out]; exact (((KU0.out.setCell hg1b.out _).setCell hg1b.out _).setCell hg1b.out _).setCell hg1b.out _
          rw [← HU1.out]
          clear HU1 cx0 cx1 cx2 cx3 fx0 fx1 fx2 fx3
          obtain ⟨tz, htz⟩ : ∃ t, (L.set x ty)[y]? = some t := ⟨_, List.getElem?_eq_getElem (show y < (L.set x ty).length by rw [List.length_set]; exact HLx.out.2)⟩
          obtain ⟨cy0, cy1, cy2, cy3⟩ := row_four R1 htz
          have fy0 := R1.frozenAt (y * 4)
          have fy1 := R1.frozenAt (y * 4 + 1)
          have fy2 := R1.frozenAt (y * 4 + 2)
          have fy3 := R1.frozenAt (y * 4 + 3)
          have HR1 : Hid (U1.ownsRow w2.heap.size 29 4 (.slice (some ⟨g1, 0, none⟩) len cap1) len (flat4 (L.set x ty))) := R1
          clear R1 htz
          refine hK.out _ _ ?_ (fun hHeld => ?_)
          · exact trivial
          clear hK K
          try simp only [Act.put, List.setIfInBounds_toArray, List.set_cons_zero, List.set_cons_succ]
          refine wpAnyH_take (i := 14) (oi := Oper.mk (some 50) _ _ _ _ _) (v := ?v14a) rfl (by kernel_rfl) (by kernel_rfl) (by kernel_rfl) (fun _ _ _ h => h) (Or.inl ⟨by rfl, ?hy14a⟩) (by assumption) ?rest14a
          case hy14a => (intro w0 hSw; (try dsimp only at hSw); go_simp; try with_reducible rfl)
          try simp only [Act.put, List.setIfInBounds_toArray, List.set_cons_zero, List.set_cons_succ]
          refine wpAnyH_ready (rs := [15]) (by kernel_rfl) (by simp) ?_
          refine AllReadyH.cons (o := Oper.mk none _ _ _ _ _) rfl (fun K hK => ?_) AllReadyH.nil
          go_simp
          go_wp2_with fail
          obtain ⟨U2, HU2⟩ : ∃ U2, Hid (U2 = ((((U1.setCell ⟨g1, y * 4, none⟩ (.int .i64 tx.p)).setCell ⟨g1, y * 4 + 1, none⟩ (.int .i64 tx.c)).setCell ⟨g1, y * 4 + 2, none⟩ (.slice tx.sa tx.sl tx.sc)).setCell ⟨g1, y * 4 + 3, none⟩ (.slice tx.da tx.dl tx.dc))) := ⟨_, rfl⟩
          have R2 : U2.ownsRow w2.heap.size 29 4 (.slice (some ⟨g1, 0, none⟩) len cap1) len (flat4 (swp L x y tx ty)) := by rw [HU2.out]; exact row_set (w := U1) HR1.out tx (by rw [List.length_set]; exact HLx.out.2)
          have KU2 : Hid (Kp w2 U2) := by show Kp _ _; rw [HU2.out]; exact (((KU1.out.setCell hg1b.out _).setCell hg1b.out _).setCell hg1b.out _).setCell hg1b.out _
          rw [← HU2.out]
          clear HU2 cy0 cy1 cy2 cy3 fy0 fy1 fy2 fy3 HR0 HR1 KU0 KU1
          have HLM : Hid (LAt U2 (some ⟨g1, 0, none⟩) len (swp L x y tx ty)) := lat_of_row R2 (fun t ht => (HLA.out.kept KU2.out).each t (HPm.out.mem_iff.1 ht)) (by omega)
          clear R2
          refine hK.out _ _ ?_ (fun hHeld => ?_)
          · exact trivial
          clear hK K
          try simp only [Act.put, List.setIfInBounds_toArray, List.set_cons_zero, List.set_cons_succ]
          refine wpAnyH_done (by kernel_rfl) ?_ _
          refine NoPanic.normal ?_
          have KC0 : Hid (Kp w U2) := (HK.out.trans HK2.out).trans KU2.out
          have HGM : Hid (Gd m (swp L x y tx ty)) := gd_sub HDD.out (fun t ht => HPm.out.mem_iff.1 ht) (Nat.le_of_eq HPm.out.length_eq)
          have HA1 : Hid (∀ W, Kp U2 W → Calls Try.prog 18 #[.agg #[.slice m.aL m.lL m.cL, .slice m.aS m.lS m.cS, .slice m.aD m.lD m.cD, .int .i64 m.idle, .int .i64 m.crit, .int .i64 m.sw, .int .i64 m.swe, .int .i64 m.sems, .int .i64 m.hor], .slice (some ⟨g1, 0, none⟩) len cap1, .int .i64 lev] W fun e w' => e = .returned (.int .i64 (lod m L lev)) ∧ Kp W w') := fun W q => by rw [← lod_perm HDD.out.b HPm.out]; exact HLd.out _ HGM.out W _ len _ (KC0.out.trans q) (HLM.out.kept q)
          have HA2 : Hid (∀ W, Kp U2 W → Calls Try.prog 18 #[.agg #[.slice m.aL m.lL m.cL, .slice m.aS m.lS m.cS, .slice m.aD m.lD m.cD, .int .i64 m.idle, .int .i64 m.crit, .int .i64 m.sw, .int .i64 m.swe, .int .i64 m.sems, .int .i64 m.hor], .slice ao len cap, .int .i64 lev] W fun e w' => e = .returned (.int .i64 (lod m L lev)) ∧ Kp W w') := fun W q => HLd.out _ HDD.out W _ len _ (KC0.out.trans q) (HL0.out.kept (KC0.out.trans q))
          have HB1 : Hid (∀ W, Kp U2 W → Calls Try.prog 16 #[.agg #[.slice m.aL m.lL m.cL, .slice m.aS m.lS m.cS, .slice m.aD m.lD m.cD, .int .i64 m.idle, .int .i64 m.crit, .int .i64 m.sw, .int .i64 m.swe, .int .i64 m.sems, .int .i64 m.hor], .slice (some ⟨g1, 0, none⟩) len cap1] W fun e w' => e = .returned (.int .i64 (rsv m L L.length)) ∧ Kp W w') := fun W q => by rw [← rsv_perm HDD.out.b HPm.out]; exact HRs.out _ HGM.out W _ len _ (KC0.out.trans q) (HLM.out.kept q)
          have HB2 : Hid (∀ W, Kp U2 W → Calls Try.prog 16 #[.agg #[.slice m.aL m.lL m.cL, .slice m.aS m.lS m.cS, .slice m.aD m.lD m.cD, .int .i64 m.idle, .int .i64 m.crit, .int .i64 m.sw, .int .i64 m.swe, .int .i64 m.sems, .int .i64 m.hor], .slice ao len cap] W fun e w' => e = .returned (.int .i64 (rsv m L L.length)) ∧ Kp W w') := fun W q => HRs.out _ HDD.out W _ len _ (KC0.out.trans q) (HL0.out.kept (KC0.out.trans q))
          have HC1 : Hid (∀ W, Kp U2 W → Calls Try.prog 21 #[.agg #[.slice m.aL m.lL m.cL, .slice m.aS m.lS m.cS, .slice m.aD m.lD m.cD, .int .i64 m.idle, .int .i64 m.crit, .int .i64 m.sw, .int .i64 m.swe, .int .i64 m.sems, .int .i64 m.hor], .slice (some ⟨g1, 0, none⟩) len cap1] W fun e w' => e = .returned (.int .i64 ((slo m L : Nat))) ∧ Kp W w') := fun W q => by rw [← slo_perm HDD.out.b HPm.out]; exact HSl.out _ HGM.out W _ len _ (KC0.out.trans q) (HLM.out.kept q)
          have HC2 : Hid (∀ W, Kp U2 W → Calls Try.prog 21 #[.agg #[.slice m.aL m.lL m.cL, .slice m.aS m.lS m.cS, .slice m.aD m.lD m.cD, .int .i64 m.idle, .int .i64 m.crit, .int .i64 m.sw, .int .i64 m.swe, .int .i64 m.sems, .int .i64 m.hor], .slice ao len cap] W fun e w' => e = .returned (.int .i64 ((slo m L : Nat))) ∧ Kp W w') := fun W q => HSl.out _ HDD.out W _ len _ (KC0.out.trans q) (HL0.out.kept (KC0.out.trans q))
          generalize lod m L lev = vA at *
          generalize rsv m L L.length = vB at *
          generalize slo m L = vC at *
          have KB0 : Hid (Kp W0 U2) := HK2.out.trans KU2.out
          clear HLd HRs HSl HGM HLM HPm HTX HLx HRU KU
          obtain ⟨p0, p1, p2, p3, p4, p5, p6, p7, p8⟩ := (HP.out _ KB0.out).all
          go_wp2_with fail
          go_region_held3 (fun w' => w'.cell? ⟨w.heap.size, 0, none⟩ = some (.slice m.aL m.lL m.cL) ∧ w'.cell? ⟨w.heap.size, 1, none⟩ = some (.slice m.aS m.lS m.cS) ∧ w'.cell? ⟨w.heap.size, 2, none⟩ = some (.slice m.aD m.lD m.cD) ∧ w'.cell? ⟨w.heap.size, 3, none⟩ = some (.int .i64 m.idle) ∧ w'.cell? ⟨w.heap.size, 4, none⟩ = some (.int .i64 m.crit) ∧ w'.cell? ⟨w.heap.size, 5, none⟩ = some (.int .i64 m.sw) ∧ w'.cell? ⟨w.heap.size, 6, none⟩ = some (.int .i64 m.swe) ∧ w'.cell? ⟨w.heap.size, 7, none⟩ = some (.int .i64 m.sems) ∧ w'.cell? ⟨w.heap.size, 8, none⟩ = some (.int .i64 m.hor)) (go_keep) (first
            | (go_at_call 10; refine (aanswers_any _).mono ?_; rintro e w4 ⟨rfl, k4⟩; have KC : Kp U2 w4 := (by first | exact (tkp_drew _).trans k4 | exact k4); clear k4; obtain ⟨z0, z1, z2, z3, z4, z5, z6, z7, z8⟩ := (HP.out _ (KB0.out.trans KC)).all)
            | (go_at_call 18; refine (HA1.out _ KC).mono ?_; rintro e w5 ⟨rfl, k5⟩; have KC := KC.trans k5; clear k5 HA1; obtain ⟨z0, z1, z2, z3, z4, z5, z6, z7, z8⟩ := (HP.out _ (KB0.out.trans KC)).all)
            | (go_at_call 18; refine (HA2.out _ KC).mono ?_; rintro e w5 ⟨rfl, k5⟩; have KC := KC.trans k5; clear k5 HA2; obtain ⟨z0, z1, z2, z3, z4, z5, z6, z7, z8⟩ := (HP.out _ (KB0.out.trans KC)).all)
            | (go_at_call 16; refine (HB1.out _ KC).mono ?_; rintro e w5 ⟨rfl, k5⟩; have KC := KC.trans k5; clear k5 HB1; obtain ⟨z0, z1, z2, z3, z4, z5, z6, z7, z8⟩ := (HP.out _ (KB0.out.trans KC)).all)
            | (go_at_call 16; refine (HB2.out _ KC).mono ?_; rintro e w5 ⟨rfl, k5⟩; have KC := KC.trans k5; clear k5 HB2; obtain ⟨z0, z1, z2, z3, z4, z5, z6, z7, z8⟩ := (HP.out _ (KB0.out.trans KC)).all)
            | (go_at_call 21; refine (HC1.out _ KC).mono ?_; rintro e w5 ⟨rfl, k5⟩; have KC := KC.trans k5; clear k5 HC1; obtain ⟨z0, z1, z2, z3, z4, z5, z6, z7, z8⟩ := (HP.out _ (KB0.out.trans KC)).all)
            | (go_at_call 21; refine (HC2.out _ KC).mono ?_; rintro e w5 ⟨rfl, k5⟩; have KC := KC.trans k5; clear k5 HC2; obtain ⟨z0, z1, z2, z3, z4, z5, z6, z7, z8⟩ := (HP.out _ (KB0.out.trans KC)).all)
            | fail)
          all_goals
            go_wp2
            go_ret
            exact ⟨by simp, HE.out _ (KC0.out.trans KC)⟩
        · go_simp
          go_wp2_with fail
          refine hK.out _ _ ?_ (fun hHeld => ?_)
          · exact trivial
          clear hK K
          try simp only [Act.put, List.setIfInBounds_toArray, List.set_cons_zero, List.set_cons_succ]
          refine wpAnyH_ready (rs := [7]) (by kernel_rfl) (by simp) ?_
          refine AllReadyH.cons (o := Oper.mk (some 44) _ _ _ _ _) rfl (fun K hK => ?_) AllReadyH.nil
          go_simp
          go_wp2_with fail
          refine hK.out _ _ ?_ (fun hHeld => ?_)
          · exact trivial
          clear hK K
          try simp only [Act.put, List.setIfInBounds_toArray, List.set_cons_zero, List.set_cons_succ]
          refine wpAnyH_take (i := 12) (oi := Oper.mk (some 49) _ _ _ _ _) (v := ?v12b) rfl (by kernel_rfl) (by kernel_rfl) (by kernel_rfl) (fun _ _ _ h => h) (Or.inl ⟨by rfl, ?hy12b⟩) (by assumption) ?rest12b
          case hy12b => (intro w0 hSw; (try dsimp only at hSw); go_simp; try with_reducible rfl)
          try simp only [Act.put, List.setIfInBounds_toArray, List.set_cons_zero, List.set_cons_succ]
          clear cx0 cx1 cx2 cx3 cy0 cy1 cy2 cy3 fx fx0
          obtain ⟨cx0, cx1, cx2, cx3⟩ := row_four HR0.out HTX.out.1
          have fx0 := World.ownsRow.frozenAt HR0.out (x * 4)
          have fx1 := World.ownsRow.frozenAt HR0.out (x * 4 + 1)
          have fx2 := World.ownsRow.frozenAt HR0.out (x * 4 + 2)
          have fx3 := World.ownsRow.frozenAt HR0.out (x * 4 + 3)
          refine wpAnyH_ready (rs := [13]) (by kernel_rfl) (by simp) ?_
          refine AllReadyH.cons (o := Oper.mk none _ _ _ _ _) rfl (fun K hK => ?_) AllReadyH.nil
          go_simp
          go_wp2_with fail
          obtain ⟨U1, HU1⟩ : ∃ U1, Hid (U1 = ((((U0.setCell ⟨g1, x * 4, none⟩ (.int .i64 ty.p)).setCell ⟨g1, x * 4 + 1, none⟩ (.int .i64 ty.c)).setCell ⟨g1, x * 4 + 2, none⟩ (.slice ty.sa ty.sl ty.sc)).setCell ⟨g1, x * 4 + 3, none⟩ (.slice ty.da ty.dl ty.dc))) := ⟨_, rfl⟩
          have R1 : U1.ownsRow w2.heap.size 29 4 (.slice (some ⟨g1, 0, none⟩) len cap1) len (flat4 (L.set x ty)) := by rw [HU1.out]; exact row_set (w := U0) HR0.out ty HLx.out.1
          have KU1 : Hid (Kp w2 U1) := by show Kp _ _; rw [HU1.out]; exact (((KU0.out.setCell hg1b.out _).setCell hg1b.out _).setCell hg1b.out _).setCell hg1b.out _
          rw [← HU1.out]
          clear HU1 cx0 cx1 cx2 cx3 fx0 fx1 fx2 fx3
          obtain ⟨tz, htz⟩ : ∃ t, (L.set x ty)[y]? = some t := ⟨_, List.getElem?_eq_getElem (show y < (L.set x ty).length by rw [List.length_set]; exact HLx.out.2)⟩
          obtain ⟨cy0, cy1, cy2, cy3⟩ := row_four R1 htz
          have fy0 := R1.frozenAt (y * 4)
          have fy1 := R1.frozenAt (y * 4 + 1)
          have fy2 := R1.frozenAt (y * 4 + 2)
          have fy3 := R1.frozenAt (y * 4 + 3)
          have HR1 : Hid (U1.ownsRow w2.heap.size 29 4 (.slice (some ⟨g1, 0, none⟩) len cap1) len (flat4 (L.set x ty))) := R1
          clear R1 htz
          refine hK.out _ _ ?_ (fun hHeld => ?_)
          · exact trivial
          clear hK K
          try simp only [Act.put, List.setIfInBounds_toArray, List.set_cons_zero, List.set_cons_succ]
          refine wpAnyH_take (i := 14) (oi := Oper.mk (some 50) _ _ _ _ _) (v := ?v14b) rfl (by kernel_rfl) (by kernel_rfl) (by kernel_rfl) (fun _ _ _ h => h) (Or.inl ⟨by rfl, ?hy14b⟩) (by assumption) ?rest14b
          case hy14b => (intro w0 hSw; (try dsimp only at hSw); go_simp; try with_reducible rfl)
          try simp only [Act.put, List.setIfInBounds_toArray, List.set_cons_zero, List.set_cons_succ]
          refine wpAnyH_ready (rs := [15]) (by kernel_rfl) (by simp) ?_
          refine AllReadyH.cons (o := Oper.mk none _ _ _ _ _) rfl (fun K hK => ?_) AllReadyH.nil
          go_simp
          go_wp2_with fail
          obtain ⟨U2, HU2⟩ : ∃ U2, Hid (U2 = ((((U1.setCell ⟨g1, y * 4, none⟩ (.int .i64 tx.p)).setCell ⟨g1, y * 4 + 1, none⟩ (.int .i64 tx.c)).setCell ⟨g1, y * 4 + 2, none⟩ (.slice tx.sa tx.sl tx.sc)).setCell ⟨g1, y * 4 + 3, none⟩ (.slice tx.da tx.dl tx.dc))) := ⟨_, rfl⟩
          have R2 : U2.ownsRow w2.heap.size 29 4 (.slice (some ⟨g1, 0, none⟩) len cap1) len (flat4 (swp L x y tx ty)) := by rw [HU2.out]; exact row_set (w := U1) HR1.out tx (by rw [List.length_set]; exact HLx.out.2)
          have KU2 : Hid (Kp w2 U2) := by show Kp _ _; rw [HU2.out]; exact (((KU1.out.setCell hg1b.out _).setCell hg1b.out _).setCell hg1b.out _).setCell hg1b.out _
          rw [← HU2.out]
          clear HU2 cy0 cy1 cy2 cy3 fy0 fy1 fy2 fy3 HR0 HR1 KU0 KU1
          have HLM : Hid (LAt U2 (some ⟨g1, 0, none⟩) len (swp L x y tx ty)) := lat_of_row R2 (fun t ht => (HLA.out.kept KU2.out).each t (HPm.out.mem_iff.1 ht)) (by omega)
          clear R2
          refine hK.out _ _ ?_ (fun hHeld => ?_)
          · exact trivial
          clear hK K
          try simp only [Act.put, List.setIfInBounds_toArray, List.set_cons_zero, List.set_cons_succ]
          refine wpAnyH_done (by kernel_rfl) ?_ _
          refine NoPanic.normal ?_
          have KC0 : Hid (Kp w U2) := (HK.out.trans HK2.out).trans KU2.out
          have HGM : Hid (Gd m (swp L x y tx ty)) := gd_sub HDD.out (fun t ht => HPm.out.mem_iff.1 ht) (Nat.le_of_eq HPm.out.length_eq)
          have HA1 : Hid (∀ W, Kp U2 W → Calls Try.prog 18 #[.agg #[.slice m.aL m.lL m.cL, .slice m.aS m.lS m.cS, .slice m.aD m.lD m.cD, .int .i64 m.idle, .int .i64 m.crit, .int .i64 m.sw, .int .i64 m.swe, .int .i64 m.sems, .int .i64 m.hor], .slice (some ⟨g1, 0, none⟩) len cap1, .int .i64 lev] W fun e w' => e = .returned (.int .i64 (lod m L lev)) ∧ Kp W w') := fun W q => by rw [← lod_perm HDD.out.b HPm.out]; exact HLd.out _ HGM.out W _ len _ (KC0.out.trans q) (HLM.out.kept q)
          have HA2 : Hid (∀ W, Kp U2 W → Calls Try.prog 18 #[.agg #[.slice m.aL m.lL m.cL, .slice m.aS m.lS m.cS, .slice m.aD m.lD m.cD, .int .i64 m.idle, .int .i64 m.crit, .int .i64 m.sw, .int .i64 m.swe, .int .i64 m.sems, .int .i64 m.hor], .slice ao len cap, .int .i64 lev] W fun e w' => e = .returned (.int .i64 (lod m L lev)) ∧ Kp W w') := fun W q => HLd.out _ HDD.out W _ len _ (KC0.out.trans q) (HL0.out.kept (KC0.out.trans q))
          have HB1 : Hid (∀ W, Kp U2 W → Calls Try.prog 16 #[.agg #[.slice m.aL m.lL m.cL, .slice m.aS m.lS m.cS, .slice m.aD m.lD m.cD, .int .i64 m.idle, .int .i64 m.crit, .int .i64 m.sw, .int .i64 m.swe, .int .i64 m.sems, .int .i64 m.hor], .slice (some ⟨g1, 0, none⟩) len cap1] W fun e w' => e = .returned (.int .i64 (rsv m L L.length)) ∧ Kp W w') := fun W q => by rw [← rsv_perm HDD.out.b HPm.out]; exact HRs.out _ HGM.out W _ len _ (KC0.out.trans q) (HLM.out.kept q)
          have HB2 : Hid (∀ W, Kp U2 W → Calls Try.prog 16 #[.agg #[.slice m.aL m.lL m.cL, .slice m.aS m.lS m.cS, .slice m.aD m.lD m.cD, .int .i64 m.idle, .int .i64 m.crit, .int .i64 m.sw, .int .i64 m.swe, .int .i64 m.sems, .int .i64 m.hor], .slice ao len cap] W fun e w' => e = .returned (.int .i64 (rsv m L L.length)) ∧ Kp W w') := fun W q => HRs.out _ HDD.out W _ len _ (KC0.out.trans q) (HL0.out.kept (KC0.out.trans q))
          have HC1 : Hid (∀ W, Kp U2 W → Calls Try.prog 21 #[.agg #[.slice m.aL m.lL m.cL, .slice m.aS m.lS m.cS, .slice m.aD m.lD m.cD, .int .i64 m.idle, .int .i64 m.crit, .int .i64 m.sw, .int .i64 m.swe, .int .i64 m.sems, .int .i64 m.hor], .slice (some ⟨g1, 0, none⟩) len cap1] W fun e w' => e = .returned (.int .i64 ((slo m L : Nat))) ∧ Kp W w') := fun W q => by rw [← slo_perm HDD.out.b HPm.out]; exact HSl.out _ HGM.out W _ len _ (KC0.out.trans q) (HLM.out.kept q)
          have HC2 : Hid (∀ W, Kp U2 W → Calls Try.prog 21 #[.agg #[.slice m.aL m.lL m.cL, .slice m.aS m.lS m.cS, .slice m.aD m.lD m.cD, .int .i64 m.idle, .int .i64 m.crit, .int .i64 m.sw, .int .i64 m.swe, .int .i64 m.sems, .int .i64 m.hor], .slice ao len cap] W fun e w' => e = .returned (.int .i64 ((slo m L : Nat))) ∧ Kp W w') := fun W q => HSl.out _ HDD.out W _ len _ (KC0.out.trans q) (HL0.out.kept (KC0.out.trans q))
          generalize lod m L lev = vA at *
          generalize rsv m L L.length = vB at *
          generalize slo m L = vC at *
          have KB0 : Hid (Kp W0 U2) := HK2.out.trans KU2.out
          clear HLd HRs HSl HGM HLM HPm HTX HLx HRU KU
          obtain ⟨p0, p1, p2, p3, p4, p5, p6, p7, p8⟩ := (HP.out _ KB0.out).all
          go_wp2_with fail
          go_region_held3 (fun w' => w'.cell? ⟨w.heap.size, 0, none⟩ = some (.slice m.aL m.lL m.cL) ∧ w'.cell? ⟨w.heap.size, 1, none⟩ = some (.slice m.aS m.lS m.cS) ∧ w'.cell? ⟨w.heap.size, 2, none⟩ = some (.slice m.aD m.lD m.cD) ∧ w'.cell? ⟨w.heap.size, 3, none⟩ = some (.int .i64 m.idle) ∧ w'.cell? ⟨w.heap.size, 4, none⟩ = some (.int .i64 m.crit) ∧ w'.cell? ⟨w.heap.size, 5, none⟩ = some (.int .i64 m.sw) ∧ w'.cell? ⟨w.heap.size, 6, none⟩ = some (.int .i64 m.swe) ∧ w'.cell? ⟨w.heap.size, 7, none⟩ = some (.int .i64 m.sems) ∧ w'.cell? ⟨w.heap.size, 8, none⟩ = some (.int .i64 m.hor)) (go_keep) (first
            | (go_at_call 10; refine (aanswers_any _).mono ?_; rintro e w4 ⟨rfl, k4⟩; have KC : Kp U2 w4 := (by first | exact (tkp_drew _).trans k4 | exact k4); clear k4; obtain ⟨z0, z1, z2, z3, z4, z5, z6, z7, z8⟩ := (HP.out _ (KB0.out.trans KC)).all)
            | (go_at_call 18; refine (HA1.out _ KC).mono ?_; rintro e w5 ⟨rfl, k5⟩; have KC := KC.trans k5; clear k5 HA1; obtain ⟨z0, z1, z2, z3, z4, z5, z6, z7, z8⟩ := (HP.out _ (KB0.out.trans KC)).all)
            | (go_at_call 18; refine (HA2.out _ KC).mono ?_; rintro e w5 ⟨rfl, k5⟩; have KC := KC.trans k5; clear k5 HA2; obtain ⟨z0, z1, z2, z3, z4, z5, z6, z7, z8⟩ := (HP.out _ (KB0.out.trans KC)).all)
            | (go_at_call 16; refine (HB1.out _ KC).mono ?_; rintro e w5 ⟨rfl, k5⟩; have KC := KC.trans k5; clear k5 HB1; obtain ⟨z0, z1, z2, z3, z4, z5, z6, z7, z8⟩ := (HP.out _ (KB0.out.trans KC)).all)
            | (go_at_call 16; refine (HB2.out _ KC).mono ?_; rintro e w5 ⟨rfl, k5⟩; have KC := KC.trans k5; clear k5 HB2; obtain ⟨z0, z1, z2, z3, z4, z5, z6, z7, z8⟩ := (HP.out _ (KB0.out.trans KC)).all)
            | (go_at_call 21; refine (HC1.out _ KC).mono ?_; rintro e w5 ⟨rfl, k5⟩; have KC := KC.trans k5; clear k5 HC1; obtain ⟨z0, z1, z2, z3, z4, z5, z6, z7, z8⟩ := (HP.out _ (KB0.out.trans KC)).all)
            | (go_at_call 21; refine (HC2.out _ KC).mono ?_; rintro e w5 ⟨rfl, k5⟩; have KC := KC.trans k5; clear k5 HC2; obtain ⟨z0, z1, z2, z3, z4, z5, z6, z7, z8⟩ := (HP.out _ (KB0.out.trans KC)).all)
            | fail)
          all_goals
            go_wp2
            go_ret
            exact ⟨by simp, HE.out _ (KC0.out.trans KC)⟩

theorem admitOrder_walk (aL : Option Addr) (lL cL : Nat) (rL : List (List Int)) (aS : Option Addr) (lS cS : Nat) (rS : List (List Int)) (aD : Option Addr) (lD cD : Nat) (rD : List (List Int)) (idle crit sw swe sems hor : Int) (ao : Option Addr) (len cap : Nat) (L : List Tk) (a b lev : Int) (w : World)
    (hm : Mach w aL lL rL aS lS rS aD lD rD) (h : LAt w ao len L) (_ : len * 64 ≤ 140737488351232) (ha : (Lit.int .u8 a).wf = true) (hb : (Lit.int .u8 b).wf = true) (_ : (Lit.int .i64 lev).wf = true) :
    Calls Try.prog 8 #[pv aL lL cL aS lS cS aD lD cD idle crit sw swe sems hor, .slice ao len cap, .int .u8 a, .int .u8 b, .int .i64 lev] w fun e w' => e = .returned (.bool true) ∧ Below w.heap.size w w' :=
  admitOrder_go ⟨aL, lL, cL, rL, aS, lS, cS, rS, aD, lD, cD, rD, idle, crit, sw, swe, sems, hor⟩ ao len cap L a b lev w hm h ha hb

end Go.Proofs.Ytgecandbbmljbaa.AD
