/- What the statements ask of every program, and their own functions: walked. -/
import Derived.Test.YtaibpanceiapmaaSlkRAt
import Derived.Test.YtaibpanceiapmaaAdmAns
namespace Go.Proofs.Ytaibpanceiapmaa.SK
open Go.ChangeShapes Go.WideShapes Go.ChangeAt Go.RowKit Go.Proofs.Ytaibpanceiapmaa.AR Go.Proofs.Ytaibpanceiapmaa.TB Go.Proofs.Ytaibpanceiapmaa.TK Go.Proofs.Ytaibpanceiapmaa.JB Go.Proofs.Ytaibpanceiapmaa.FX Go.Proofs.Ytaibpanceiapmaa.AD
open Go.Proofs.Ytaibpanceiapmaa.LK (Hd atH HsAt C3)

/-! ### the same, wherever what is held lies -/

section
variable {v : Vw} {ao : Option Addr} {c : Nat}
theorem tsksB_setH {h : Hd} {a : Int} : ∀ {k : Nat}, tsksB (v.setH ao v.hl c v.H) h a k = tsksB v h a k
  | 0 => rfl
  | k + 1 => by
    have e : tskB (v.setH ao v.hl c v.H) h a k = tskB v h a k := rfl
    simp only [tsksB, tsksB_setH (k := k), e]
theorem cntB_setH {h : Hd} {a : Int} : cntB (v.setH ao v.hl c v.H) h a = cntB v h a := by
  have e : lateB (v.setH ao v.hl c v.H) h a = lateB v h a := rfl
  have e2 : (v.setH ao v.hl c v.H).tl = v.tl := rfl
  simp only [cntB, e, e2, tsksB_setH]
theorem lng_setH {a : Int} : ∀ {k : Nat}, lng (v.setH ao v.hl c v.H) a k = lng v a k
  | 0 => rfl
  | k + 1 => by
    have e : (v.setH ao v.hl c v.H).H = v.H := rfl
    simp only [lng, lng_setH (k := k), e, cntB_setH]
theorem hnI_setH {a : Int} : hnI (v.setH ao v.hl c v.H) a = hnI v a := by
  have e : (v.setH ao v.hl c v.H).hl = v.hl := rfl
  have e2 : (v.setH ao v.hl c v.H).m = v.m := rfl
  simp only [hnI, e, e2, lng_setH]
theorem qs_setH {a : Int} : ∀ {k : Nat}, qs (v.setH ao v.hl c v.H) a k = qs v a k
  | 0 => rfl
  | k + 1 => by
    have e : (v.setH ao v.hl c v.H).J = v.J := rfl
    have e2 : (v.setH ao v.hl c v.H).m = v.m := rfl
    simp only [qs, qs_setH (k := k), e, e2]
theorem toc_setH {a : Int} : ∀ {k : Nat}, toc (v.setH ao v.hl c v.H) a k = toc v a k
  | 0 => rfl
  | k + 1 => by
    have e : (v.setH ao v.hl c v.H).T = v.T := rfl
    have e2 : ptI (v.setH ao v.hl c v.H) k = ptI v k := rfl
    have e3 : coI (v.setH ao v.hl c v.H) k = coI v k := rfl
    simp only [toc, toc_setH (k := k), e, e2, e3]
theorem atI_setH {a : Int} : atI (v.setH ao v.hl c v.H) a = atI v a := by
  have e : (v.setH ao v.hl c v.H).tl = v.tl := rfl
  have e2 : (v.setH ao v.hl c v.H).jl = v.jl := rfl
  have e3 : (v.setH ao v.hl c v.H).now = v.now := rfl
  simp only [atI, qnI, e, e2, e3, hnI_setH, qs_setH, toc_setH]
theorem dts_setH : ∀ {k : Nat}, dts (v.setH ao v.hl c v.H) k = dts v k
  | 0 => rfl
  | k + 1 => by
    have e : (v.setH ao v.hl c v.H).T = v.T := rfl
    have e3 : ndI (v.setH ao v.hl c v.H) k = ndI v k := rfl
    simp only [dts, dts_setH (k := k), e, e3]
theorem lsI_setH {f : Int} : lsI (v.setH ao v.hl c v.H) f = lsI v f := by
  have e : (v.setH ao v.hl c v.H).tl = v.tl := rfl
  have e2 : djs (v.setH ao v.hl c v.H) (v.setH ao v.hl c v.H).jl = djs v v.jl := rfl
  have e4 : (fun (x d : Int) => if f ≤ d then mn x (atI (v.setH ao v.hl c v.H) d) else x) = fun (x d : Int) => if f ≤ d then mn x (atI v d) else x := by
    funext x d
    rw [atI_setH]
  simp only [lsI, lsM, dls, e, e2, dts_setH, e4]
theorem VG.setH (g : VG v) : VG (v.setH ao v.hl c v.H) := ⟨g.b, g.n, g.nl, g.tk, g.now, g.nx, g.jb, g.jo, g.jn, g.hd⟩
theorem VL.setH {w : World} (h : VL w v) (q : HsAt w ao v.hl v.H) : VL w (v.setH ao v.hl c v.H) := ⟨h.m, h.t, h.n, h.j, q, h.hy⟩
end

/-! ### what is held, as the program's -/

theorem ls_more {w W W1 W' : World} {e : TypeId} {v v' : Value} {L L' : List Hd} (h : LK.Ls W e w.heap.size v L) (k : Kp w W) (k1 : Kp W W1) (hr : W'.ownsRow w.heap.size e 3 v' L'.length (LK.flatH L')) (hl : L'.length ≤ 5864062014805) (hg : W1.grownBy W' v.ownBlock) : LK.Ls W' e w.heap.size v' L' ∧ Kp w W' := by
  have hs : LK.Step (fun q => v.ownBlock = some q) W W' := (LK.kp_of_tb k1).any.grown hg (fun q hq => hq)
  exact ⟨⟨hr, hl⟩, (LK.Step.trans_new (LK.kp_of_tb k) hs (fun i hi q => by have := (h.own i q).1; omega)).tb⟩

theorem take_snocH {L : List Hd} {k : Nat} (h : k < L.length) : L.take (k + 1) = L.take k ++ [atH L k] := by
  rw [List.take_succ_eq_append_getElem h, LK.atH_get h]

/-- a list of its own, with the same that is held -/
def HldR (w : World) (hl : Nat) (H : List Hd) (e : Ending) (w' : World) : Prop := ∃ ao cap, e = .returned (.slice ao hl cap) ∧ HsAt w' ao hl H ∧ Kp w w'

set_option maxRecDepth 100000 in
set_option maxHeartbeats 8000000 in
theorem held_any (ho : Option Addr) (hl hc : Nat) (H : List Hd) (w : World) (h : HsAt w ho hl H) (hy : hl * 24 ≤ 140737488351232) :
    Calls Try.prog 12 #[.slice ho hl hc] w fun e w' => HldR w hl H e w' := by
  have HH : Hid (HsAt w ho hl H) := h
  have HLn : Hid (H.length = hl) := h.ln
  clear h
  go_enter Try.func12, Try.ntmps12
  go_wp2
  go_loopw [3, 4] (fun l i wr => ∃ k : Nat, k ≤ hl ∧ i = .int .i64 k ∧ Hid (LK.Ls wr 64 w.heap.size l (H.take k)) ∧ Kp w wr) (fun _ i _ => hl - (intOf i).toNat)
  case atStart => exact ⟨0, Nat.zero_le _, rfl, LK.ls_nil _ _ _, Kp.refl _⟩
  case round =>
    obtain ⟨k, hk, rfl, HN, hkp⟩ := hrel
    by_cases hlt : k < hl
    · have hlt' : (k : Int) < (hl : Int) := by omega
      have k0 : (0 : Int) ≤ (k : Int) := by omega
      have kn : ((k : Int)).toNat = k := by omega
      obtain ⟨b, off, rfl, hb, _, _, _, _⟩ := HH.out.one hlt
      have HC : Hid (∀ W, Kp w W → W.cell? ⟨b, off + k * 3, none⟩ = some (.int .i64 (atH H k).t) ∧ W.cell? ⟨b, off + k * 3 + 1, none⟩ = some (.int .i64 (atH H k).s) ∧ W.cell? ⟨b, off + k * 3 + 2, none⟩ = some (.int .i64 (atH H k).l)) := fun W q => by
        obtain ⟨b', off', e, _, c⟩ := (HH.out.kp (LK.kp_of_tb q)).one hlt
        simp only [Option.some.injEq, Addr.mk.injEq, and_true] at e
        obtain ⟨rfl, rfl⟩ := e
        exact ⟨c.c0, c.c1, c.c2⟩
      have HT : Hid (H.take (k + 1) = H.take k ++ [atH H k]) := take_snocH (by have := HLn.out; omega)
      have hln : (H.take k).length = k := by rw [List.length_take]; have := HLn.out; omega
      have HKr : Hid (Kp w wr) := hkp
      have hsz := hkp.size
      obtain ⟨c0, c1, c2⟩ := HC.out _ hkp
      have HLL : Hid ((H.take k).length = k) := hln
      generalize H.take k = L at *
      generalize atH H k = x at *
      clear hln hkp hb
      go_wp2_with fail
      go_region_held3 (fun w' => w'.cell? ⟨b, off + k * 3, none⟩ = some (.int .i64 x.t) ∧ w'.cell? ⟨b, off + k * 3 + 1, none⟩ = some (.int .i64 x.s) ∧ w'.cell? ⟨b, off + k * 3 + 2, none⟩ = some (.int .i64 x.l)) (go_keep) (first
        | (refine LK.step_append_three _ rfl _ _ 36 64 rfl Try.underlying36 LK.hd_info w.heap.size u3 L rfl (by exact HN.out.row.alloc _) wr.heap.size x rfl (by exact heap_alloc_at wr _) (by have := HLL.out; omega) (by simp; omega) ?_; intro g4 cap4 w4 row4 hg4 hloc4; have N4 : Hid (LK.Ls w4 64 w.heap.size (.slice (some ⟨g4, 0, none⟩) (L.length + 1) cap4) (L ++ [x]) ∧ Kp w w4) := ls_more HN.out HKr.out ((Kp.refl _).alloc _) (by rw [List.length_append]; exact row4) (by rw [List.length_append]; have := HLL.out; simp; omega) ⟨hg4.os, hg4.tape, hg4.output, hg4.size, hg4.block⟩; obtain ⟨r0, r1, r2⟩ := HC.out _ N4.out.2)
        | (refine LK.step_append_three _ rfl _ _ 36 64 rfl Try.underlying36 LK.hd_info w.heap.size u3 L rfl (by exact (HN.out.kp (LK.kp_of_tb (TB.kp_drew _))).row.alloc _) wr.heap.size x rfl (by exact heap_alloc_at wr _) (by have := HLL.out; omega) (by simp; omega) ?_; intro g4 cap4 w4 row4 hg4 hloc4; have N4 : Hid (LK.Ls w4 64 w.heap.size (.slice (some ⟨g4, 0, none⟩) (L.length + 1) cap4) (L ++ [x]) ∧ Kp w w4) := ls_more HN.out HKr.out ((Kp.refl _).alloc _) (by rw [List.length_append]; exact row4) (by rw [List.length_append]; have := HLL.out; simp; omega) ⟨hg4.os, hg4.tape, hg4.output, hg4.size, hg4.block⟩; obtain ⟨r0, r1, r2⟩ := HC.out _ N4.out.2)
        | fail)
      all_goals
        go_wp2
        go_roundw
      all_goals first
        | exact ⟨k + 1, by omega, by go_num, by show LK.Ls _ _ _ _ _; rw [HT.out]; exact N4.out.1, N4.out.2⟩
        | (simp [intOf]; omega)
    · have hlt' : ¬ (k : Int) < (hl : Int) := by omega
      obtain rfl : k = hl := by omega
      have HF : Hid (HldR w k H (.returned u3) wr) := by
        have hN := HN.out
        rw [List.take_of_length_le (by have := HLn.out; omega)] at hN
        obtain ⟨ao, cap, e, q⟩ := hN.lies
        rw [HLn.out] at e q
        exact ⟨ao, cap, congrArg Ending.returned e, q, hkp⟩
      clear HN
      go_wp2
      go_ret
      exact HF.out

set_option maxRecDepth 100000 in
set_option maxHeartbeats 8000000 in
theorem vat_any (v : Vw) (m a : Int) (w : World) (hv : VL w v) (g : VG v) (ha : 0 ≤ a ∧ a ≤ 4194304) :
    Calls Try.prog 14 #[v.rv m, .int .i64 a] w fun e w' => e = .returned (.int .i64 (atI v a)) ∧ Kp w w' := by
  obtain ⟨W0, HW, K0, P0⟩ := rview_box w v m
  have HP : Hid (∀ W, Kp W0 W → B15 W w.heap.size v m) := fun W k => P0.kp k
  have HK : Hid (Kp w W0) := K0
  have HH : Hid (∀ W, Kp W0 W → Calls Try.prog 12 #[.slice v.ha v.hl v.hc] W fun e w' => HldR W v.hl v.H e w') := fun W q => held_any v.ha v.hl v.hc v.H W (hv.h.kp (LK.kp_of_tb (K0.trans q))) hv.hy
  have HA : Hid (∀ W ao cap, Kp W0 W → HsAt W ao v.hl v.H → Calls Try.prog 26 #[.agg #[.slice v.m.aL v.m.lL v.m.cL, .slice v.m.aS v.m.lS v.m.cS, .slice v.m.aD v.m.lD v.m.cD, .int .i64 v.m.idle, .int .i64 v.m.crit, .int .i64 v.m.sw, .int .i64 v.m.swe, .int .i64 v.m.sems, .int .i64 v.m.hor], .slice v.ta v.tl v.tc, .slice v.na v.nl v.nc, .slice v.ja v.jl v.jc, .slice ao v.hl cap, .int .i64 v.now, .int .i64 a] W fun e w' => e = .returned (.int .i64 (atI v a)) ∧ Kp W w') := fun W ao cap q z => by
    have y := pat_any (v.setH ao v.hl cap v.H) a W ((hv.kept (K0.trans q)).setH z) g.setH ha
    rw [atI_setH] at y
    exact y
  generalize atI v a = res at *
  obtain ⟨p0, p1, p2, p3, p4, p5, p6, p7, p8, p9, p10, p11, p12, p13, p14⟩ := P0.all
  unfold Vw.rv
  clear K0 P0 hv g ha
  go_enter Try.func14, Try.ntmps14
  go_wp2_with fail
  rw [← HW.out]
  clear HW
  go_region_held3 (fun w' => w'.cell? ⟨w.heap.size, 0, none⟩ = some (.slice v.m.aL v.m.lL v.m.cL) ∧ w'.cell? ⟨w.heap.size, 1, none⟩ = some (.slice v.m.aS v.m.lS v.m.cS) ∧ w'.cell? ⟨w.heap.size, 2, none⟩ = some (.slice v.m.aD v.m.lD v.m.cD) ∧ w'.cell? ⟨w.heap.size, 3, none⟩ = some (.int .i64 v.m.idle) ∧ w'.cell? ⟨w.heap.size, 4, none⟩ = some (.int .i64 v.m.crit) ∧ w'.cell? ⟨w.heap.size, 5, none⟩ = some (.int .i64 v.m.sw) ∧ w'.cell? ⟨w.heap.size, 6, none⟩ = some (.int .i64 v.m.swe) ∧ w'.cell? ⟨w.heap.size, 7, none⟩ = some (.int .i64 v.m.sems) ∧ w'.cell? ⟨w.heap.size, 8, none⟩ = some (.int .i64 v.m.hor) ∧ w'.cell? ⟨w.heap.size, 9, none⟩ = some (.slice v.ta v.tl v.tc) ∧ w'.cell? ⟨w.heap.size, 10, none⟩ = some (.slice v.na v.nl v.nc) ∧ w'.cell? ⟨w.heap.size, 11, none⟩ = some (.slice v.ja v.jl v.jc) ∧ w'.cell? ⟨w.heap.size, 12, none⟩ = some (.slice v.ha v.hl v.hc) ∧ w'.cell? ⟨w.heap.size, 13, none⟩ = some (.int .i64 v.now) ∧ w'.cell? ⟨w.heap.size, 14, none⟩ = some (.int .i64 m)) (go_keep) (first
    | (go_at_call 12; refine (HH.out _ ?_).mono ?_; first | exact Kp.refl _ | exact TB.kp_drew _; rintro e w3 ⟨ao, cap, rfl, q3, k3⟩; have K3 : Kp W0 w3 := (by first | exact (TB.kp_drew _).trans k3 | exact k3); have HQ3 : Hid (HsAt w3 ao v.hl v.H) := q3; clear k3 q3; obtain ⟨z0, z1, z2, z3, z4, z5, z6, z7, z8, z9, z10, z11, z12, z13, z14⟩ := (HP.out _ K3).all)
    | (go_at_call 26; refine (HA.out _ _ _ K3 HQ3.out).mono ?_; rintro e w4 ⟨rfl, k4⟩; have K4 := K3.trans k4; clear k4; obtain ⟨z0, z1, z2, z3, z4, z5, z6, z7, z8, z9, z10, z11, z12, z13, z14⟩ := (HP.out _ K4).all)
    | (go_at_call 26; refine (HA.out _ _ _ (K3.trans (TB.kp_drew _)) (HQ3.out.kp (LK.kp_of_tb (TB.kp_drew _)))).mono ?_; rintro e w4 ⟨rfl, k4⟩; have K4 := K3.trans ((TB.kp_drew _).trans k4); clear k4; obtain ⟨z0, z1, z2, z3, z4, z5, z6, z7, z8, z9, z10, z11, z12, z13, z14⟩ := (HP.out _ K4).all)
    | fail)
  all_goals
    go_wp2
    go_ret
    exact ⟨rfl, HK.out.trans K4⟩

/-! ### what is asked of every program -/

abbrev sT : Tk := ⟨4, 1, none, 0, 0, [], none, 0, 0, []⟩
/-- a machine with a task that may come at 0; one without a task -/
abbrev vA (h t n : Nat) : Vw := ⟨aM h, some ⟨t, 0, none⟩, 1, 1, [sT], some ⟨n, 0, none⟩, 1, 1, [0], none, 0, 0, [], none, 0, 0, [], 0⟩
abbrev vB (h : Nat) : Vw := ⟨aM h, none, 0, 0, [], none, 0, 0, [], none, 0, 0, [], none, 0, 0, [], 0⟩

theorem va_least (h t n : Nat) : lsI (vA h t n) 0 = 12884901888 := by rfl
theorem va_at (h t n : Nat) : atI (vA h t n) 8 = 25769803776 := by rfl
theorem vb_least (h : Nat) : lsI (vB h) 0 = 4611686018427387904 := by rfl

theorem va_good (h t n : Nat) : VG (vA h t n) := by
  refine ⟨ans_bd h, by simp, rfl, fun x hx => ?_, by simp, fun k hk => ?_, fun j hj => by simp at hj, fun i k x y hi => by simp at hi, by simp, fun x hx => by simp at hx⟩
  · simp only [List.mem_cons, List.not_mem_nil, or_false] at hx
    subst hx
    exact ⟨⟨by simp, fun k hk => by simp at hk⟩, by simp, by simp, by simp⟩
  · obtain rfl : k = 0 := by simp at hk; omega
    simp
theorem vb_good (h : Nat) : VG (vB h) := ⟨ans_bd h, by simp, rfl, fun x hx => by simp at hx, by simp, fun k hk => by simp at hk, fun j hj => by simp at hj, fun i k x y hi => by simp at hi, by simp, fun x hx => by simp at hx⟩

/-- the blocks that are made -/
structure Asl (h : Nat) (W : World) : Prop where
  l : W.heap[h]? = some (.cells #[.int .i64 1, .int .i64 0] 60 (0, 0))
  p : B9 W (h + 1) (aM h)
  t : W.heap[h + 1 + 1]? = some (.cells #[.int .i64 4, .int .i64 1, .slice none 0 0, .slice none 0 0] 42 (0, 0))
theorem Asl.kp {h : Nat} {W W' : World} (a : Asl h W) (k : Kp W W') : Asl h W' := ⟨kp_block a.l k, a.p.kp k, kp_block a.t k⟩

theorem asl_new (w : World) : ∃ W0, Hid (W0 = ((w.alloc (.cells #[.int .i64 1, .int .i64 0] 60)).alloc (.cells #[.slice (some ⟨w.heap.size, 0, none⟩) 1 1, .slice none 0 0, .slice none 0 0, .int .i64 0, .int .i64 0, .int .i64 0, .int .i64 0, .int .i64 0, .int .i64 50] 26)).alloc
      (.cells #[.int .i64 4, .int .i64 1, .slice none 0 0, .slice none 0 0] 42)) ∧ Asl w.heap.size W0 ∧ Kp w W0 := by
  refine ⟨_, rfl, ⟨kp_block (heap_alloc_at _ _) (((Kp.refl _).alloc _).alloc _), ⟨kp_block (w := (w.alloc (.cells #[.int .i64 1, .int .i64 0] 60)).alloc (.cells #[.slice (some ⟨w.heap.size, 0, none⟩) 1 1, .slice none 0 0, .slice none 0 0, .int .i64 0, .int .i64 0, .int .i64 0, .int .i64 0, .int .i64 0, .int .i64 50] 26)) (alloc2_at _ _ _) ((Kp.refl _).alloc _)⟩, ?_⟩, (((Kp.refl _).alloc _).alloc _).alloc _⟩
  have h := heap_alloc_at ((w.alloc (.cells #[.int .i64 1, .int .i64 0] 60)).alloc (.cells #[.slice (some ⟨w.heap.size, 0, none⟩) 1 1, .slice none 0 0, .slice none 0 0, .int .i64 0, .int .i64 0, .int .i64 0, .int .i64 0, .int .i64 0, .int .i64 50] 26)) (.cells #[.int .i64 4, .int .i64 1, .slice none 0 0, .slice none 0 0] 42)
  rw [World.size_alloc, World.size_alloc] at h
  exact h

theorem no_hs (W : World) : HsAt W none 0 [] := ⟨rfl, .inl rfl⟩
theorem no_js (W : World) : JsAt W none 0 [] := ⟨rfl, fun j hj => by simp at hj, .inl rfl, by omega⟩
theorem no_ts (W : World) : LAt W none 0 [] := ⟨rfl, fun j hj => by simp at hj, .inl rfl, by omega⟩

theorem va_lies {h : Nat} {W : World} (a : Asl h W) (o : Obj) (e : o = .cells #[.int .i64 0] 3) : VL (W.alloc o) (vA h (h + 1 + 1) W.heap.size) := by
  subst e
  have k : Kp W (W.alloc (.cells #[.int .i64 0] 3)) := (Kp.refl _).alloc _
  refine ⟨an_at (a.kp k).l, RW.lat_block (a.kp k).t rfl rfl (fun t ht => ?_) (by simp), RW.nat_block (heap_alloc_at _ _) rfl rfl (fun z hz => ?_) (by simp), no_js _, no_hs _, by simp⟩
  · simp only [List.mem_cons, List.not_mem_nil, or_false] at ht
    subst ht
    exact ⟨RW.no_nums _ _, RW.no_nums _ _⟩
  · simp only [List.mem_cons, List.not_mem_nil, or_false] at hz
    subst hz
    unfold I64; omega
theorem vb_lies {h : Nat} {W : World} (a : Asl h W) : VL W (vB h) := ⟨an_at a.l, no_ts _, RW.no_nums _ _, no_js _, no_hs _, by simp⟩

set_option maxRecDepth 100000 in
set_option maxHeartbeats 8000000 in
theorem sanswers_any (w : World) :
    Calls Try.prog 10 #[] w fun e w' => e = .returned (.bool true) ∧ Kp w w' := by
  obtain ⟨W0, HW, A0, K0⟩ := asl_new w
  have HA : Hid (∀ W, Kp W0 W → Asl w.heap.size W) := fun W q => A0.kp q
  have HK : Hid (Kp w W0) := K0
  have H1 : Hid (∀ W, Kp W0 W → Calls Try.prog 16 #[.agg #[.slice (some ⟨w.heap.size, 0, none⟩) 1 1, .slice none 0 0, .slice none 0 0, .int .i64 0, .int .i64 0, .int .i64 0, .int .i64 0, .int .i64 0, .int .i64 50], .slice (some ⟨w.heap.size + 1 + 1, 0, none⟩) 1 1, .slice (some ⟨W.heap.size, 0, none⟩) 1 1, .slice none 0 0, .slice none 0 0, .int .i64 0, .int .i64 0] (W.alloc (.cells #[.int .i64 0] 3))
      fun e w' => e = .returned (.int .i64 12884901888) ∧ Kp W w') := fun W q => by
    have y := pleast_any (vA w.heap.size (w.heap.size + 1 + 1) W.heap.size) 0 _ (va_lies (A0.kp q) _ rfl) (va_good _ _ _)
    rw [va_least] at y
    exact y.mono fun e w' ⟨z1, z2⟩ => ⟨z1, ((Kp.refl _).alloc _).trans z2⟩
  have H2 : Hid (∀ W, Kp W0 W → Calls Try.prog 26 #[.agg #[.slice (some ⟨w.heap.size, 0, none⟩) 1 1, .slice none 0 0, .slice none 0 0, .int .i64 0, .int .i64 0, .int .i64 0, .int .i64 0, .int .i64 0, .int .i64 50], .slice (some ⟨w.heap.size + 1 + 1, 0, none⟩) 1 1, .slice (some ⟨W.heap.size, 0, none⟩) 1 1, .slice none 0 0, .slice none 0 0, .int .i64 0, .int .i64 8] (W.alloc (.cells #[.int .i64 0] 3))
      fun e w' => e = .returned (.int .i64 25769803776) ∧ Kp W w') := fun W q => by
    have y := pat_any (vA w.heap.size (w.heap.size + 1 + 1) W.heap.size) 8 _ (va_lies (A0.kp q) _ rfl) (va_good _ _ _) (by omega)
    rw [va_at] at y
    exact y.mono fun e w' ⟨z1, z2⟩ => ⟨z1, ((Kp.refl _).alloc _).trans z2⟩
  have H3 : Hid (∀ W, Kp W0 W → Calls Try.prog 16 #[.agg #[.slice (some ⟨w.heap.size, 0, none⟩) 1 1, .slice none 0 0, .slice none 0 0, .int .i64 0, .int .i64 0, .int .i64 0, .int .i64 0, .int .i64 0, .int .i64 50], .slice none 0 0, .slice none 0 0, .slice none 0 0, .slice none 0 0, .int .i64 0, .int .i64 0] W
      fun e w' => e = .returned (.int .i64 4611686018427387904) ∧ Kp W w') := fun W q => by
    have y := pleast_any (vB w.heap.size) 0 _ (vb_lies (A0.kp q)) (vb_good _)
    rw [vb_least] at y
    exact y
  have H1' := H1.out W0 (Kp.refl _)
  rw [show W0.heap.size = w.heap.size + 1 + 1 + 1 from by rw [HW.out]; simp] at H1'
  have H1'' : Hid _ := H1'
  obtain ⟨p0, p1, p2, p3, p4, p5, p6, p7, p8⟩ := (HA.out _ (Kp.refl _)).p.all
  clear A0 K0 H1 H1'
  go_enter Try.func10, Try.ntmps10
  go_wp2_with fail
  rw [← HW.out]
  clear HW
  refine Calls.mono H1''.out ?_
  rintro e w1 ⟨rfl, k1⟩
  have HK1 : Hid (Kp W0 w1) := k1
  clear p0 p1 p2 p3 p4 p5 p6 p7 p8 H1'' k1
  obtain ⟨p0, p1, p2, p3, p4, p5, p6, p7, p8⟩ := (HA.out _ HK1.out).p.all
  go_wp2_with fail
  refine Calls.mono (H2.out _ HK1.out) ?_
  rintro e w2 ⟨rfl, k2⟩
  have HK2 : Hid (Kp W0 w2) := HK1.out.trans k2
  clear p0 p1 p2 p3 p4 p5 p6 p7 p8 H2 k2
  obtain ⟨p0, p1, p2, p3, p4, p5, p6, p7, p8⟩ := (HA.out _ HK2.out).p.all
  go_wp2_with fail
  refine Calls.mono (H3.out _ HK2.out) ?_
  rintro e w3 ⟨rfl, k3⟩
  have HK3 : Hid (Kp W0 w3) := HK2.out.trans k3
  clear p0 p1 p2 p3 p4 p5 p6 p7 p8 H3 k3
  go_wp2
  go_ret
  exact ⟨rfl, HK.out.trans HK3.out⟩

end Go.Proofs.Ytaibpanceiapmaa.SK
