/- A list of numbers that grows in a call. -/
import Derived.Test.YtnpbdcnogeohdaaSlkLeft
import Derived.Maps.AppendAt
import Derived.Laws.AppendOwn
namespace Go.Proofs.Ytnpbdcnogeohdaa.SK
open Go.ChangeShapes Go.WideShapes Go.ChangeAt Go.RowKit Go.Proofs.Ytnpbdcnogeohdaa.AR Go.Proofs.Ytnpbdcnogeohdaa.TB Go.Proofs.Ytnpbdcnogeohdaa.TK Go.Proofs.Ytnpbdcnogeohdaa.JB Go.Proofs.Ytnpbdcnogeohdaa.FX Go.Proofs.Ytnpbdcnogeohdaa.AD
open Go.Proofs.Ytnpbdcnogeohdaa.LK (Hd atH HsAt C3)

theorem num_info : (Try.prog.info? 3).map (fun i => (i.zero, i.size, i.bytes)) = some (some (.int .i64 0), 1, 8) := by kernel_rfl

/-- the slice v has the numbers zs, in a block of its own -/
structure Nd (w : World) (base : Nat) (v : Value) (zs : List Int) : Prop where
  row : w.ownsRow base 3 1 v zs.length (zs.map (Value.int .i64))

theorem nd_nil (w : World) (base : Nat) : Nd w base (.slice none 0 0) [] := ⟨World.ownsRow_nil _ _ _ _⟩
theorem Nd.kp {w w' : World} {base : Nat} {v : Value} {zs : List Int} (h : Nd w base v zs) (s : Kp w w') : Nd w' base v zs := ⟨LK.row_kept (LK.kp_of_tb s) h.row (fun _ _ q => q)⟩
theorem Nd.low {w : World} {base base' : Nat} {v : Value} {zs : List Int} (h : Nd w base v zs) (hb : base' ≤ base) : Nd w base' v zs := ⟨LK.row_low h.row hb⟩
theorem Nd.form {w : World} {base : Nat} {v : Value} {zs : List Int} (h : Nd w base v zs) : ∃ ao cap, v = .slice ao zs.length cap := by
  rcases h.row.2 with ⟨hv, hn⟩ | ⟨g, cap, cur, rfl, _⟩
  · exact ⟨none, 0, by rw [hv, hn]⟩
  · exact ⟨_, _, rfl⟩
theorem Nd.one {w : World} {base : Nat} {ao : Option Addr} {n cap : Nat} {zs : List Int} (h : Nd w base (.slice ao n cap) zs) {i : Nat} (hi : i < zs.length) : ∃ g, ao = some ⟨g, 0, none⟩ ∧ g < w.heap.size ∧ w.cell? ⟨g, i, none⟩ = some (.int .i64 (zs.getD i 0)) := by
  rcases h.row.2 with ⟨hv, hn⟩ | ⟨g, c, cur, e, hb, hg, _⟩
  · omega
  · simp only [Value.slice.injEq] at e
    obtain ⟨rfl, rfl, rfl⟩ := e
    refine ⟨g, rfl, lt_blk hg, ?_⟩
    rw [h.row.cellAt i (by simpa using hi)]
    simp [List.getD_eq_getElem?_getD, List.getElem?_eq_getElem hi]

/-- 'append' of one number -/
theorem wpList_append_num {P : Program} (w : World) {ops : Array Oper} {rest : List Oper} {o : Oper} {a : Act} {Q : Exit → Act → World → Prop} (hgd : o.guard = none) (s x : Operand) (t e : TypeId)
    (ho : o.op = .call { callee := .builtin .append, args := #[s, x], argTypes := #[t, t] }) (ht : P.underlying t = some (.slice e))
    (hinf : (P.info? e).map (fun i => (i.zero, i.size, i.bytes)) = some (some (.int .i64 0), 1, 8))
    (base : Nat) (v : Value) (zs : List Int) (hs : a.eval s = v) (hown : w.ownsRow base e 1 v zs.length (zs.map (Value.int .i64)))
    (b : Nat) (y : Int) (hx : a.eval x = .slice (some ⟨b, 0, none⟩) 1 1) (hb : w.heap[b]? = some (.cells #[.int .i64 y] e (0, 0)))
    (hlen : zs.length + 1 ≤ 17592186044415) (hbase : base ≤ w.heap.size)
    (h : ∀ v' w', w'.ownsRow base e 1 v' (zs ++ [y]).length ((zs ++ [y]).map (Value.int .i64)) → w.grownBy w' v.ownBlock → (v'.ownBlock = v.ownBlock ∨ v'.ownBlock = some w.heap.size) → wpList P ops Q rest (a.put o.dst v') w') :
    wpList P ops Q (o :: rest) a w := by
  obtain ⟨i0, hi, hz0, hz1, hz2⟩ := info_parts hinf
  refine wpList_append_own_at _ hgd s x t ho base e i0 _ 1 8 ht hi hz0 hz1 hz2 (by rfl) (by decide) v zs.length (zs.map (Value.int .i64)) hs hown ⟨b, 0, none⟩ 1 1 [.int .i64 y] hx (by rfl) ?_ ?_ (by unfold maxLen; omega) (by omega) hbase ?_
  · intro j u hj
    match j, hj with
    | 0, hj => simp at hj; subst hj; simp [Addr.add, World.cell?, hb]
  · intro u hu
    simp at hu
    rcases hu with rfl; rfl
  · intro v' w' ho' hg hnil hloc
    refine h v' w' ?_ hg hloc
    simpa using ho'

/-- it has grown -/
theorem Nd.more {w W W1 W' : World} {v v' : Value} {zs zs' : List Int} (h : Nd W w.heap.size v zs) (k : Kp w W) (k1 : Kp W W1) (hr : W'.ownsRow w.heap.size 3 1 v' zs'.length (zs'.map (Value.int .i64))) (hg : W1.grownBy W' v.ownBlock) : Nd W' w.heap.size v' zs' ∧ Kp w W' := by
  have hs : LK.Step (fun q => v.ownBlock = some q) W W' := (LK.kp_of_tb k1).any.grown hg (fun q hq => hq)
  exact ⟨⟨hr⟩, (LK.Step.trans_new (LK.kp_of_tb k) hs (fun i hi q => by have := (h.row.lt i q).1; omega)).tb⟩

theorem alloc2_at (w : World) (o1 o2 : Obj) : ((w.alloc o1).alloc o2).heap[w.heap.size + 1]? = some o2 := by
  have h := heap_alloc_at (w.alloc o1) o2
  rwa [World.size_alloc] at h

theorem dts_len {v : Vw} : ∀ k, (dts v k).length ≤ k
  | 0 => by simp [dts]
  | k + 1 => by
    have := dts_len (v := v) k
    by_cases h : pk v.T k = 0
    · rw [dts_not h]; omega
    · rw [dts_more h]; simp; omega
theorem djs_len {v : Vw} (k : Nat) : (djs v k).length ≤ k := by
  unfold djs
  rw [List.length_map]
  exact List.length_take_le _ _

set_option maxRecDepth 100000 in
set_option maxHeartbeats 16000000 in
theorem deadlines_any (v : Vw) (w : World) (hv : VL w v) (g : VG v) :
    Calls Try.prog 24 #[v.v] w fun e w' => ∃ u, e = .returned u ∧ Nd w' w.heap.size u (dls v) ∧ Kp w w' := by
  obtain ⟨W0, HW, K0, P0⟩ := view_box w v
  have HP : Hid (∀ W, Kp W0 W → B14 W w.heap.size v) := fun W k => P0.kp k
  have HK : Hid (Kp w W0) := K0
  have HV0 : Hid (VL w v) := hv
  have HNx : Hid (∀ W (k : Nat), k < v.tl → Kp W0 W → Calls Try.prog 35 #[v.v, .int .i64 (k : Nat)] W fun e w' => e = .returned (.int .i64 (ndI v k)) ∧ Kp W w') := fun W k hk q => next_any v k W (hv.kept (K0.trans q)) g hk
  have HIs : Hid (∀ W (t : Tk), Calls Try.prog 34 #[t.v] W fun e w' => e = .returned (.bool (decide (t.p ≠ 0))) ∧ Kp W w') := fun W t => istask_any t W
  have HE : Hid (∀ W u, Nd W W0.heap.size u (dls v) → Kp W0 W → Nd W w.heap.size u (dls v) ∧ Kp w W) := fun W u q k => ⟨q.low K0.size, K0.trans k⟩
  have htn := g.n
  have hjn := g.jn
  obtain ⟨p0, p1, p2, p3, p4, p5, p6, p7, p8, p9, p10, p11, p12, p13⟩ := P0.all
  unfold Vw.v Tk.v at *
  clear K0 P0 hv g
  go_enter Try.func24, Try.ntmps24
  go_wp2
  rw [← HW.out]
  clear HW p0 p1 p2 p3 p4 p5 p6 p7 p8 p9 p10 p11 p12 p13
  go_loopw [3, 11] (fun l i wr => ∃ k : Nat, k ≤ v.jl ∧ i = .int .i64 k ∧ Hid (Nd wr W0.heap.size l (djs v k)) ∧ Kp W0 wr) (fun _ i _ => v.jl - (intOf i).toNat)
  case atStart => exact ⟨0, Nat.zero_le _, rfl, nd_nil _ _, Kp.refl _⟩
  case round =>
    obtain ⟨k, hk, rfl, HN, hkp⟩ := hrel
    by_cases hlt : k < v.jl
    · have hlt' : (k : Int) < (v.jl : Int) := by omega
      obtain ⟨b, off, j, e, hb, hg, hi, c0, c1, c2, c3, c4, c5⟩ := (HV0.out.j.kept (HK.out.trans hkp)).one hlt
      have HM : Hid (djs v (k + 1) = djs v k ++ [j.d]) := djs_more hg
      have hln := djs_len (v := v) k
      have hsz := hkp.size
      have HKp : Hid (Kp W0 wr) := hkp
      generalize djs v k = zs at *
      clear hg hi hkp
      rw [e]
      clear e
      go_wp2_with (first
        | (at_builtin; refine wpList_append_num _ rfl _ _ 28 3 rfl Try.underlying28 num_info W0.heap.size u3 zs rfl (by exact LK.row_kept (((LK.Step.refl (fun _ => False) _).alloc _).alloc _) HN.out.row (fun _ _ q => q)) (wr.heap.size + 1) j.d rfl (by exact alloc2_at _ _ _) (by omega) (by simp; omega) ?_; intro v3 w3 R3 hg3 hl3; have N3 : Hid (Nd w3 W0.heap.size v3 (zs ++ [j.d]) ∧ Kp W0 w3) := HN.out.more HKp.out (((Kp.refl _).alloc _).alloc _) R3 hg3; clear R3 hg3 hl3)
        | fail)
      go_roundw
      case rel => exact ⟨k + 1, by omega, by go_num, by show Nd _ _ _ _; rw [HM.out]; exact N3.out.1, N3.out.2⟩
      case measure => simp [intOf]; omega
    · have hlt' : ¬ (k : Int) < (v.jl : Int) := by omega
      obtain rfl : k = v.jl := by omega
      have HKp : Hid (Kp W0 wr) := hkp
      obtain ⟨p0, p1, p2, p3, p4, p5, p6, p7, p8, p9, p10, p11, p12, p13⟩ := (HP.out _ hkp).all
      clear hkp
      go_wp2
      clear p0 p1 p2 p3 p4 p5 p6 p7 p8 p9 p10 p11 p12 p13
      go_loopw [3, 24] (fun l i wi => ∃ k : Nat, k ≤ v.tl ∧ i = .int .i64 k ∧ Hid (Nd wi W0.heap.size l (djs v v.jl ++ dts v k)) ∧ Kp W0 wi) (fun _ i _ => v.tl - (intOf i).toNat)
      case atStart => exact ⟨0, Nat.zero_le _, rfl, by show Nd _ _ _ _; simp only [dts, List.append_nil]; exact HN.out, HKp.out⟩
      case round =>
        obtain ⟨k, hk, rfl, HM, hkp⟩ := hrel
        clear HN HKp
        by_cases hlt : k < v.tl
        · have hlt' : (k : Int) < (v.tl : Int) := by omega
          obtain ⟨b, off, t, e, hb, hg, ht, c0, c1, c2, c3⟩ := (HV0.out.t.kept (HK.out.trans hkp)).one hlt
          obtain ⟨V, HV, KV, TV⟩ := tk_box wr t
          have HKV : Hid (Kp W0 V) := hkp.trans KV
          have HI := HIs.out V t
          have HT1 : Hid (t.p = 0 → dts v (k + 1) = dts v k) := fun q => dts_not ((pk_at hg).trans q)
          have HT2 : Hid (t.p ≠ 0 → dts v (k + 1) = dts v k ++ [ndI v k]) := fun q => dts_more (by rw [pk_at hg]; exact q)
          have HNk : Hid (∀ W, Kp V W → Calls Try.prog 35 #[.agg #[.slice v.m.aL v.m.lL v.m.cL, .slice v.m.aS v.m.lS v.m.cS, .slice v.m.aD v.m.lD v.m.cD, .int .i64 v.m.idle, .int .i64 v.m.crit, .int .i64 v.m.sw, .int .i64 v.m.swe, .int .i64 v.m.sems, .int .i64 v.m.hor, .slice v.ta v.tl v.tc, .slice v.na v.nl v.nc, .slice v.ja v.jl v.jc, .slice v.ha v.hl v.hc, .int .i64 v.now], .int .i64 (k : Nat)] W fun e w' => e = .returned (.int .i64 (ndI v k)) ∧ Kp W w') := fun W q => HNx.out W k hlt (HKV.out.trans q)
          have hln := djs_len (v := v) v.jl
          have hln2 := dts_len (v := v) k
          have hln3 : (djs v v.jl ++ dts v k).length ≤ 128 := by simp; omega
          have HNV : Hid (Nd V W0.heap.size u3 (djs v v.jl ++ dts v k)) := HM.out.kp KV
          have hsz := HKV.out.size
          clear hg ht TV KV hln hln2 hkp
          by_cases hp : t.p = 0
          · have hd : decide (t.p ≠ 0) = false := decide_eq_false (by simpa using hp)
            have HN2 : Hid (dts v (k + 1) = dts v k) := HT1.out hp
            rw [hd] at HI
            have HI' : Hid _ := HI
            clear HI hd hp HT1 HT2
            rw [e]
            clear e
            go_wp2_with fail
            rw [← HV.out]
            refine Calls.mono HI'.out ?_
            rintro e w6 ⟨rfl, k6⟩
            go_wp2
            go_roundw
            case rel => exact ⟨k + 1, by omega, by go_num, by show Nd _ _ _ _; rw [HN2.out]; exact HNV.out.kp k6, HKV.out.trans k6⟩
            case measure => simp [intOf]; omega
          · have hd : decide (t.p ≠ 0) = true := decide_eq_true hp
            have HN2 : Hid (djs v v.jl ++ dts v (k + 1) = (djs v v.jl ++ dts v k) ++ [ndI v k]) := by show _ = _; rw [HT2.out hp, List.append_assoc]
            rw [hd] at HI
            have HI' : Hid _ := HI
            clear HI hd HT1 HT2 HM
            generalize djs v v.jl ++ dts v k = zs at *
            generalize ndI v k = nd at *
            rw [e]
            clear e
            go_wp2_with fail
            rw [← HV.out]
            refine Calls.mono HI'.out ?_
            rintro e w6 ⟨rfl, k6⟩
            have HK6 : Hid (Kp V w6) := k6
            obtain ⟨p0, p1, p2, p3, p4, p5, p6, p7, p8, p9, p10, p11, p12, p13⟩ := (HP.out _ (HKV.out.trans k6)).all
            clear k6 c0 c1 c2 c3
            go_wp2_with fail
            refine Calls.mono (HNk.out _ HK6.out) ?_
            rintro e w7 ⟨rfl, k7⟩
            have HK7 : Hid (Kp V w7) := HK6.out.trans k7
            have hs7 := HK7.out.size
            clear k7 p0 p1 p2 p3 p4 p5 p6 p7 p8 p9 p10 p11 p12 p13
            go_wp2_with (first
              | (at_builtin; refine wpList_append_num _ rfl _ _ 28 3 rfl Try.underlying28 num_info W0.heap.size u3 zs rfl (by exact LK.row_kept ((LK.Step.refl (fun _ => False) _).alloc _) (HNV.out.kp HK7.out).row (fun _ _ q => q)) w7.heap.size nd rfl (by exact heap_alloc_at w7 _) (by omega) (by simp; omega) ?_; intro v3 w8 R3 hg3 hl3; have N3 : Hid (Nd w8 W0.heap.size v3 (zs ++ [nd]) ∧ Kp W0 w8) := (HNV.out.kp HK7.out).more (HKV.out.trans HK7.out) ((Kp.refl _).alloc _) R3 hg3; clear R3 hg3 hl3)
              | fail)
            go_roundw
            case rel => exact ⟨k + 1, by omega, by go_num, by show Nd _ _ _ _; rw [HN2.out]; exact N3.out.1, N3.out.2⟩
            case measure => simp [intOf]; omega
        · have hlt' : ¬ (k : Int) < (v.tl : Int) := by omega
          obtain rfl : k = v.tl := by omega
          have HF := HE.out _ _ HM.out hkp
          have HF' : Hid _ := HF
          clear HF HM
          go_wp2
          go_ret
          exact ⟨_, rfl, HF'.out⟩

set_option maxHeartbeats 4000000 in
theorem pat_any (v : Vw) (a : Int) (w : World) (hv : VL w v) (g : VG v) (ha : 0 ≤ a ∧ a ≤ 4194304) :
    Calls Try.prog 11 #[v.m.v, .slice v.ta v.tl v.tc, .slice v.na v.nl v.nc, .slice v.ja v.jl v.jc, .slice v.ha v.hl v.hc, .int .i64 v.now, .int .i64 a] w fun e w' => e = .returned (.int .i64 (atI v a)) ∧ Kp w w' := by
  obtain ⟨W0, HW, K0, P0⟩ := one_box w v.m
  have HC : Hid (Calls Try.prog 18 #[v.v, .int .i64 a] W0 fun e w' => e = .returned (.int .i64 (atI v a)) ∧ Kp W0 w') := leftover_any v a W0 (hv.kept K0) g ha
  have HK : Hid (Kp w W0) := K0
  unfold Mc.v Vw.v at *
  clear K0 P0 hv g ha
  go_enter Try.func11, Try.ntmps11
  go_wp2_with fail
  rw [← HW.out]
  refine HC.out.mono ?_
  rintro e w1 ⟨rfl, k1⟩
  go_wp2
  go_ret
  exact ⟨rfl, HK.out.trans k1⟩

theorem run_min2 (ts : Array TypeId) (t : TypeId) (a b : Int) (w : World) : (Builtin.min_ ts t #[.int .i64 a, .int .i64 b]).run Try.prog w = .ok (.int .i64 (mn a b)) w := by
  unfold mn
  simp [Builtin.min_, Builtin.min2]

/-- every moment of which Least speaks -/
theorem dts_mem {v : Vw} (g : VG v) {d : Int} : ∀ {k : Nat}, k ≤ v.tl → d ∈ dts v k → 0 ≤ d ∧ d ≤ 4194304
  | 0, _, h => by simp [dts] at h
  | k + 1, hk, h => by
    by_cases hp : pk v.T k = 0
    · rw [dts_not hp] at h; exact dts_mem g (by omega) h
    · rw [dts_more hp, List.mem_append, List.mem_singleton] at h
      rcases h with h | rfl
      · exact dts_mem g (by omega) h
      · have := ndI_bd g (k := k) (by omega); omega
theorem djs_mem {v : Vw} (g : VG v) {d : Int} {k : Nat} (h : d ∈ djs v k) : 0 ≤ d ∧ d ≤ 4194304 := by
  unfold djs at h
  obtain ⟨j, hj, rfl⟩ := List.mem_map.1 h
  have := (g.jb j (List.mem_of_mem_take hj)).2.2.1
  omega
theorem dls_mem {v : Vw} (g : VG v) {d : Int} (h : d ∈ dls v) : 0 ≤ d ∧ d ≤ 4194304 := by
  unfold dls at h
  rcases List.mem_append.1 h with h | h
  · exact djs_mem g h
  · exact dts_mem g (Nat.le_refl _) h
theorem dls_len {v : Vw} (g : VG v) : (dls v).length ≤ 128 := by
  have h1 := djs_len (v := v) v.jl
  have h2 := dts_len (v := v) v.tl
  have h3 := g.n
  have h4 := g.jn
  unfold dls
  rw [List.length_append]; omega

/-- a machine's box and a view's behind it -/
theorem least_box (w : World) (v : Vw) : ∃ W0, Hid (W0 = (w.alloc (.cells #[.slice v.m.aL v.m.lL v.m.cL, .slice v.m.aS v.m.lS v.m.cS, .slice v.m.aD v.m.lD v.m.cD, .int .i64 v.m.idle, .int .i64 v.m.crit, .int .i64 v.m.sw, .int .i64 v.m.swe, .int .i64 v.m.sems, .int .i64 v.m.hor] 26)).alloc (.cells #[.slice v.m.aL v.m.lL v.m.cL, .slice v.m.aS v.m.lS v.m.cS, .slice v.m.aD v.m.lD v.m.cD, .int .i64 v.m.idle, .int .i64 v.m.crit, .int .i64 v.m.sw, .int .i64 v.m.swe, .int .i64 v.m.sems, .int .i64 v.m.hor, .slice v.ta v.tl v.tc, .slice v.na v.nl v.nc, .slice v.ja v.jl v.jc, .slice v.ha v.hl v.hc, .int .i64 v.now] 47)) ∧ Kp w W0 ∧ B14 W0 (w.heap.size + 1) v := by
  refine ⟨_, rfl, ((Kp.refl _).alloc _).alloc _, ?_⟩
  have h := b14_new (w.alloc (.cells #[.slice v.m.aL v.m.lL v.m.cL, .slice v.m.aS v.m.lS v.m.cS, .slice v.m.aD v.m.lD v.m.cD, .int .i64 v.m.idle, .int .i64 v.m.crit, .int .i64 v.m.sw, .int .i64 v.m.swe, .int .i64 v.m.sems, .int .i64 v.m.hor] 26)) v
  rw [World.size_alloc] at h
  exact h

set_option maxRecDepth 100000 in
set_option maxHeartbeats 8000000 in
theorem pleast_any (v : Vw) (f : Int) (w : World) (hv : VL w v) (g : VG v) :
    Calls Try.prog 14 #[v.m.v, .slice v.ta v.tl v.tc, .slice v.na v.nl v.nc, .slice v.ja v.jl v.jc, .slice v.ha v.hl v.hc, .int .i64 v.now, .int .i64 f] w fun e w' => e = .returned (.int .i64 (lsI v f)) ∧ Kp w w' := by
  obtain ⟨W0, HW, K0, P0⟩ := least_box w v
  have HP : Hid (∀ W, Kp W0 W → B14 W (w.heap.size + 1) v) := fun W k => P0.kp k
  have HK : Hid (Kp w W0) := K0
  have HWh : Hid (∀ W, Calls Try.prog 23 #[.int .i64 1073741824] W fun e w' => e = .returned (.int .i64 4611686018427387904) ∧ W = w') := fun W => whole_at 1073741824 W
  have HDl : Hid (∀ W, Kp W0 W → Calls Try.prog 24 #[v.v] W fun e w' => ∃ u, e = .returned u ∧ Nd w' W.heap.size u (dls v) ∧ Kp W w') := fun W q => deadlines_any v W (hv.kept (K0.trans q)) g
  have HLo : Hid (∀ W d, 0 ≤ d ∧ d ≤ 4194304 → Kp W0 W → Calls Try.prog 18 #[v.v, .int .i64 d] W fun e w' => e = .returned (.int .i64 (atI v d)) ∧ Kp W w') := fun W d hd q => leftover_any v d W (hv.kept (K0.trans q)) g hd
  have HMm : Hid (∀ d ∈ dls v, 0 ≤ d ∧ d ≤ 4194304) := fun d hd => dls_mem g hd
  have hln := dls_len g
  obtain ⟨res, hres⟩ : ∃ res, lsI v f = res := ⟨_, rfl⟩
  rw [hres]
  have HR : Hid (lsM v f (dls v) = res) := hres
  generalize dls v = D at *
  obtain ⟨p0, p1, p2, p3, p4, p5, p6, p7, p8, p9, p10, p11, p12, p13⟩ := P0.all
  unfold Mc.v Vw.v at *
  clear hres K0 P0 hv g
  go_enter Try.func14, Try.ntmps14
  go_wp2_with fail
  rw [← HW.out]
  clear HW
  refine (HWh.out _).mono ?_
  rintro e w1 ⟨rfl, rfl⟩
  go_wp2_with fail
  refine (HDl.out _ (Kp.refl _)).mono ?_
  rintro e w2 ⟨u, rfl, N2, k2⟩
  obtain ⟨ao, cap, rfl⟩ := N2.form
  have HN : Hid (Nd w2 W0.heap.size (.slice ao D.length cap) D) := N2
  have HK2 : Hid (Kp W0 w2) := k2
  obtain ⟨n, hn⟩ : ∃ n, D.length = n := ⟨_, rfl⟩
  rw [hn] at HN hln ⊢
  have HDn : Hid (D.length = n) := hn
  clear p0 p1 p2 p3 p4 p5 p6 p7 p8 p9 p10 p11 p12 p13 N2 k2 hn
  go_wp2
  go_loopw [16, 30] (fun l i wr => ∃ (k : Nat) (lv : Int), k ≤ n ∧ i = .int .i64 k ∧ l = .int .i64 lv ∧ Hid (lsM v f (D.take k) = lv) ∧ Kp w2 wr) (fun _ i _ => n - (intOf i).toNat)
  case atStart => exact ⟨0, _, Nat.zero_le _, rfl, rfl, rfl, Kp.refl _⟩
  case round =>
    obtain ⟨k, lv, hk, rfl, rfl, HL, hkp⟩ := hrel
    by_cases hlt : k < n
    · have hlt' : (k : Int) < (n : Int) := by omega
      have hkl : k < D.length := by rw [HDn.out]; exact hlt
      obtain ⟨b, rfl, hb, c0⟩ := (HN.out.kp hkp).one hkl
      have hgd : D.getD k 0 = D[k] := by simp [List.getD_eq_getElem?_getD, hkl]
      have hdm := HMm.out (D.getD k 0) (by rw [hgd]; exact List.getElem_mem hkl)
      have HT : Hid (lsM v f (D.take (k + 1)) = if f ≤ D.getD k 0 then mn lv (atI v (D.getD k 0)) else lv) := by
        show _ = _
        have e : D.take (k + 1) = D.take k ++ [D.getD k 0] := by rw [List.take_succ_eq_append_getElem hkl, hgd]
        rw [e, lsM_more, HL.out]
      have HKr : Hid (Kp W0 wr) := HK2.out.trans hkp
      have HK2r : Hid (Kp w2 wr) := hkp
      have HA : Hid (Calls Try.prog 18 #[.agg #[.slice v.m.aL v.m.lL v.m.cL, .slice v.m.aS v.m.lS v.m.cS, .slice v.m.aD v.m.lD v.m.cD, .int .i64 v.m.idle, .int .i64 v.m.crit, .int .i64 v.m.sw, .int .i64 v.m.swe, .int .i64 v.m.sems, .int .i64 v.m.hor, .slice v.ta v.tl v.tc, .slice v.na v.nl v.nc, .slice v.ja v.jl v.jc, .slice v.ha v.hl v.hc, .int .i64 v.now], .int .i64 (D.getD k 0)] wr fun e w' => e = .returned (.int .i64 (atI v (D.getD k 0))) ∧ Kp wr w') := HLo.out wr _ hdm HKr.out
      have MN : ∀ ts t w, (Builtin.min_ ts t #[.int .i64 lv, .int .i64 (atI v (D.getD k 0))]).run Try.prog w = .ok (.int .i64 (mn lv (atI v (D.getD k 0)))) w := fun ts t w => run_min2 ts t lv (atI v (D.getD k 0)) w
      obtain ⟨p0, p1, p2, p3, p4, p5, p6, p7, p8, p9, p10, p11, p12, p13⟩ := (HP.out _ HKr.out).all
      generalize atI v (D.getD k 0) = x at *
      generalize D.getD k 0 = d at *
      generalize mn lv x = r at *
      clear hkp hkl hdm HL hgd
      by_cases hf : f ≤ d
      · have HT2 : Hid (lsM v f (D.take (k + 1)) = r) := HT.out.trans (if_pos hf)
        clear HT HR
        go_wp2_with fail
        refine HA.out.mono ?_
        rintro e w5 ⟨rfl, k5⟩
        go_wp2
        go_roundw
        case rel => exact ⟨k + 1, r, by omega, by go_num, rfl, HT2, HK2r.out.trans k5⟩
        case measure => simp [intOf]; omega
      · have HT2 : Hid (lsM v f (D.take (k + 1)) = lv) := HT.out.trans (if_neg hf)
        clear HT HR MN
        go_wp2_with fail
        go_roundw
        case rel => exact ⟨k + 1, lv, by omega, by go_num, rfl, HT2, HK2r.out⟩
        case measure => simp [intOf]; omega
    · have hlt' : ¬ (k : Int) < (n : Int) := by omega
      obtain rfl : k = n := by omega
      have HF : Hid (lv = res) := by
        have e : D.take k = D := List.take_of_length_le (by rw [HDn.out]; exact Nat.le_refl _)
        have := HL.out
        rw [e, HR.out] at this
        exact this.symm
      clear HL HR
      go_wp2
      go_ret
      exact ⟨congrArg (fun x => Ending.returned (Value.int .i64 x)) HF.out, (HK.out.trans HK2.out).trans hkp⟩

end Go.Proofs.Ytnpbdcnogeohdaa.SK
