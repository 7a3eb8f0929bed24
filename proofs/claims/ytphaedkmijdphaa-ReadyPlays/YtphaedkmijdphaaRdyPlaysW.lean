/- Whatever is put and dropped: the statement's walk. (Written by tools/mkrplays.py.) -/
import Derived.Test.YtphaedkmijdphaaRdyDropsW
import Derived.Test.YtphaedkmijdphaaRdyPut
namespace Go.Proofs.Ytphaedkmijdphaa.RD
open Go.ChangeShapes Go.WideShapes Go.ChangeAt Go.RowKit Go.Proofs.Ytphaedkmijdphaa.AR Go.Proofs.Ytphaedkmijdphaa.HP Go.Maps Go.Proofs.Ytphaedkmijdphaa.HM Go.Proofs.Ytphaedkmijdphaa.HW

theorem OpsAt.one {w : World} {ao : Option Addr} {len : Nat} {M : List Op3} (h : OpsAt w ao len M) {k : Nat} (hk : k < len) :
    ∃ b off, ao = some ⟨b, off, none⟩ ∧ b < w.heap.size ∧ (WJ (atO M k).j ∧ W64 (atO M k).t) ∧ ∀ W', Kp w W' → C8 W' b (off + k * 8) (atO M k) := by
  rcases h.row with h0 | ⟨b, off, e, hb, hc⟩
  · omega
  · exact ⟨b, off, e, hb, h.wf _ (atO_mem (by rw [h.ln]; exact hk)), fun W' kp => (hc k hk).kept kp (fun q => q)⟩

theorem Ls.form {w : World} {base : Nat} {v : Value} {L : List Jb} (h : Ls w base v L) : ∃ a c, v = .slice a L.length c := by
  rcases h.cases with ⟨rfl, rfl⟩ | ⟨g, cap, rfl, _⟩
  · exact ⟨_, _, rfl⟩
  · exact ⟨_, _, rfl⟩

/-- a block with a call -/
structure BO (w : World) (g : Nat) (x : Op3) : Prop where
  blk : w.heap[g]? = some (.cells #[.int .i64 x.k, .int .i64 x.t, .int .i64 x.j.t, .int .i64 x.j.r, .int .i64 x.j.d, .int .i64 x.j.l, .int .i64 x.j.x, .bool x.j.s] 29 (0, 0))
theorem BO.lt {w : World} {g : Nat} {x : Op3} (h : BO w g x) : g < w.heap.size := (Array.getElem?_eq_some_iff.1 h.blk).1
theorem BO.kept {A : Nat → Prop} {w w' : World} {g : Nat} {x : Op3} (h : BO w g x) (k : Step A w w') (hA : ¬ A g) : BO w' g x := ⟨(k.block g h.lt hA).trans h.blk⟩
theorem BO.kp {w w' : World} {g : Nat} {x : Op3} (h : BO w g x) (k : Kp w w') : BO w' g x := h.kept k (fun q => q)
theorem BO.all {w : World} {g : Nat} {x : Op3} (h : BO w g x) : w.cell? ⟨g, 0, none⟩ = some (.int .i64 x.k) ∧ w.cell? ⟨g, 1, none⟩ = some (.int .i64 x.t) ∧ w.cell? ⟨g, 2, none⟩ = some (.int .i64 x.j.t) ∧ w.cell? ⟨g, 3, none⟩ = some (.int .i64 x.j.r) ∧ w.cell? ⟨g, 4, none⟩ = some (.int .i64 x.j.d) ∧
    w.cell? ⟨g, 5, none⟩ = some (.int .i64 x.j.l) ∧ w.cell? ⟨g, 6, none⟩ = some (.int .i64 x.j.x) ∧ w.cell? ⟨g, 7, none⟩ = some (.bool x.j.s) := by simp [World.cell?, h.blk]
theorem bo_new {w W : World} {x : Op3} (e : W = w.alloc (.cells #[.int .i64 x.k, .int .i64 x.t, .int .i64 x.j.t, .int .i64 x.j.r, .int .i64 x.j.d, .int .i64 x.j.l, .int .i64 x.j.x, .bool x.j.s] 29)) : BO W w.heap.size x ∧ Kp w W := by
  subst e
  exact ⟨⟨alloc_at w _⟩, (Step.refl _ w).alloc _⟩

/-- the set beside the document's list -/
def Play (w W : World) (A : Nat → Prop) (L : List Jb) (k : Nat) (v : Value) : Prop :=
  SetOf w W w.heap.size A L ∧ Ls W w.heap.size v L ∧ (∀ g, v.ownBlock = some g → ¬ A g) ∧ L.length ≤ k

theorem Play.still {w W W' : World} {A : Nat → Prop} {L : List Jb} {k : Nat} {v : Value} (h : Play w W A L k v) (s : Kp W W') : Play w W' A L k v := ⟨h.1.still s, h.2.1.kp s, h.2.2.1, h.2.2.2⟩
theorem Play.more {w W : World} {A : Nat → Prop} {L : List Jb} {k : Nat} {v : Value} (h : Play w W A L k v) : Play w W A L (k + 1) v := ⟨h.1, h.2.1, h.2.2.1, by have := h.2.2.2; omega⟩
/-- the set has been called: the list and the box stay -/
theorem Play.went {w W W' : World} {A : Nat → Prop} {L L' : List Jb} {k g : Nat} {v : Value} {x : Op3} (h : Play w W A L k v) (b : BO W g x) (hg : ¬ A g) (s : SWent W w.heap.size A L' W') :
    ∃ A', SetOf w W' w.heap.size A' L' ∧ Ls W' w.heap.size v L ∧ BO W' g x ∧ ¬ A' g := by
  obtain ⟨A', r, m⟩ := s
  refine ⟨_, ⟨r.clip, Step.trans_new h.1.kp m.stp (fun i hi q => ?_), fun k q => ⟨?_, q.2⟩⟩, h.2.1.kept m.stp h.2.2.1, b.kept m.stp hg, fun q => hg (m.own g b.lt q.1)⟩
  · have := h.1.lo i q; omega
  · by_cases e : k < W.heap.size
    · exact (h.1.lo k (m.own k e q.1)).1
    · have := h.1.kp.size; omega
/-- the list is new -/
theorem Play.of {w W W' : World} {A : Nat → Prop} {L : List Jb} {k : Nat} {v : Value} (s : SetOf w W w.heap.size A L) (kw : Kp W W') (l : Ls W' W.heap.size v L) (hk : L.length ≤ k) : Play w W' A L k v :=
  ⟨s.still kw, l.low s.kp.size, fun g hg q => (by have := (s.lo g q).2; have := (l.row.lt g hg).1; omega), hk⟩

set_option maxRecDepth 100000 in
set_option maxHeartbeats 8000000 in
theorem readyPlays_go (ao : Option Addr) (len cap : Nat) (M : List Op3) (w : World) (J : OpsAt w ao len M) (hby : len * 64 ≤ 140737488351232) :
    Calls Try.prog 3 #[.slice ao len cap] w fun e w' => e = .returned (.bool true) ∧ Kp w w' := by
  have HJ : Hid (OpsAt w ao len M) := J
  clear J
  go_enter Try.func3, Try.ntmps3
  go_wp2_with fail
  refine (new_set _).mono ?_
  rintro e w0 ⟨rfl, r0, s0⟩
  have S0 : Hid (Play w w0 (fun k => k = w.heap.size) [] 0 (.slice none 0 0)) := ⟨SetOf.of_new r0 s0, ls_nil _ _, fun g hg => by simp [Value.ownBlock] at hg, Nat.le_refl _⟩
  clear r0 s0
  go_wp2
  go_loopw [4, 5] (fun v i wr => ∃ k : Nat, k ≤ len ∧ i = .int .i64 k ∧ ∃ A L, Hid (Play w wr A L k v)) (fun _ i _ => len - (intOf i).toNat)
  case atStart => exact ⟨0, Nat.zero_le _, rfl, _, _, S0⟩
  case round =>
    obtain ⟨k, hk, rfl, A, L, G⟩ := hrel
    by_cases hlt : k < len
    · obtain ⟨b, off, rfl, hb, hwo, hc⟩ := HJ.out.one hlt
      have hlt' : (k : Int) < (len : Int) := by omega
      have i1 : (0 : Int) ≤ (k : Int) := by omega
      have i3 : ((k : Int)).toNat = k := by omega
      have HQ : Hid (L.length ≤ k) := G.out.2.2.2
      have HQ2 : Hid (k + 1 ≤ 2932031007402) := by show k + 1 ≤ _; omega
      have HSJ : Hid (SJ L) := G.out.1.rep.sj
      obtain ⟨a0, a1, a2, a3, a4, a5, a6, a7, _⟩ := hc wr G.out.1.kp
      clear hc
      generalize atO M k = x at *
      obtain ⟨W0, HW⟩ : ∃ W0, Hid (W0 = wr.alloc (.cells #[.int .i64 x.k, .int .i64 x.t, .int .i64 x.j.t, .int .i64 x.j.r, .int .i64 x.j.d, .int .i64 x.j.l, .int .i64 x.j.x, .bool x.j.s] 29)) := ⟨_, rfl⟩
      have HB := bo_new HW.out
      have G0 := G.out.still HB.2
      have hA0 : ¬ A wr.heap.size := fun q => by have := (G.out.1.lo _ q).2; omega
      have bx := HB.1
      obtain ⟨la, lc, hform⟩ := G.out.2.1.form
      subst hform
      have HSW : Hid (wr.heap.size < W0.heap.size) := bx.lt
      clear HB G
      by_cases c0 : x.k = 0
      · have d0 : (x.k == 0) = true := by simp [c0]
        clear c0
        obtain ⟨p0, p1, p2, p3, p4, p5, p6, p7⟩ := bx.all
        go_wp2_with fail
        rw [← HW.out]
        go_wp2_with fail
        refine (put_any w.heap.size A L x.j _ G0.1.rep hwo.1 (by have := HQ.out; have := HQ2.out; omega)).mono ?_
        rintro e w1 ⟨rfl, hw1⟩
        obtain ⟨A1, S1, l1, b1, hA1⟩ := G0.went bx hA0 hw1
        clear p0 p1 p2 p3 p4 p5 p6 p7
        obtain ⟨q0, q1, q2, q3, q4, q5, q6, q7⟩ := b1.all
        go_wp2_with fail
        refine (rput_any _ _ L x.j _ l1 HSJ.out (by have := HQ.out; have := HQ2.out; omega)).mono ?_
        rintro e w2 ⟨v2, rfl, l2, k2⟩
        have GG : Play w w2 A1 (putL L x.j) (k + 1) v2 := Play.of S1 k2 l2 (by have := putL_len L x.j; have := HQ.out; omega)
        go_wp2_with (first
          | (go_at_call 20; refine (list_any w.heap.size A1 (putL L x.j) _ GG.1.rep (by have := GG.2.2.2; have := HQ2.out; omega)).mono ?_; rintro e w8 ⟨v8, rfl, l8, k8⟩)
          | (go_at_call 19; refine (rsame_any _ _ v8 v2 (putL L x.j) _ l8 (GG.2.1.kp k8)).mono ?_; rintro e w9 ⟨rfl, k9⟩)
          | fail)
        have GF : Hid (Play w w9 A1 (putL L x.j) (k + 1) v2) := (GG.still k8).still k9
        go_roundw
        case rel => exact ⟨k + 1, by omega, by go_num, A1, (putL L x.j), GF⟩
        case measure => simp [intOf]; omega
      · have d0 : (x.k == 0) = false := by simp [c0]
        by_cases c1 : x.k = 1
        · have d1 : (x.k == 1) = true := by simp [c1]
          clear c1
          obtain ⟨D, hD⟩ : ∃ D, Hid (dropJ L x.t = D) := ⟨_, rfl⟩
          have HDL : Hid (D.length ≤ L.length) := by have := dropJ_len L x.t; rwa [hD.out] at this
          have hiff := drop_len_iff (L := L) (x := x.t)
          rw [hD.out] at hiff
          by_cases hm : x.t ∈ tks L
          · have hlD : D.length < L.length := by
              rw [decide_eq_true hm] at hiff
              exact of_decide_eq_true hiff
            have hlD' : (D.length : Int) < (L.length : Int) := by omega
            have HD1 : Hid (∀ W, SRep W w.heap.size A L → Calls Try.prog 12 #[.pointer (some ⟨w.heap.size, 0, none⟩), .int .i64 x.t] W fun e w' => e = .returned (.bool true) ∧ SWent W w.heap.size A D w') := by
              intro W r
              have := drop_any w.heap.size A L x.t W r hwo.2
              rw [decide_eq_true hm, hD.out] at this
              exact this
            clear hiff hm
            obtain ⟨p0, p1, p2, p3, p4, p5, p6, p7⟩ := bx.all
            go_wp2_with fail
            rw [← HW.out]
            go_wp2_with fail
            refine (rdrop_any _ _ L x.t _ G0.2.1).mono ?_
            rintro e w1 ⟨v1, rfl, l1, k1⟩
            rw [hD.out] at l1
            obtain ⟨ra, rc, hf1⟩ := l1.form
            subst hf1
            have b1 := bx.kp k1
            have S1 := G0.still k1
            have hb1 := l1.row.lt
            have hz1 : W0.heap.size ≤ w1.heap.size := k1.size
            clear p0 p1 p2 p3 p4 p5 p6 p7
            obtain ⟨q0, q1, q2, q3, q4, q5, q6, q7⟩ := b1.all
            go_wp2_with fail
            refine (HD1.out _ S1.1.rep).mono ?_
            rintro e w2 ⟨rfl, hw2⟩
            have hv1 : ∀ g, (Value.slice ra D.length rc).ownBlock = some g → ¬ A g := fun g hg q => by
              have := (hb1 g hg).1
              have := (G0.1.lo g q).2
              omega
            obtain ⟨A2, S2, l2, hv2⟩ := S1.1.beside hw2 l1 hv1
            have GG : Play w w2 A2 D (k + 1) (.slice ra D.length rc) := ⟨S2, l2.low (by have := G0.1.kp.size; omega), hv2, by have := HDL.out; have := HQ.out; omega⟩
            go_wp2_with (first
              | (go_at_call 20; refine (list_any w.heap.size A2 D _ GG.1.rep (by have := GG.2.2.2; have := HQ2.out; omega)).mono ?_; rintro e w8 ⟨v8, rfl, l8, k8⟩)
              | (go_at_call 19; refine (rsame_any _ _ v8 (.slice ra D.length rc) D _ l8 (GG.2.1.kp k8)).mono ?_; rintro e w9 ⟨rfl, k9⟩)
              | fail)
            have GF : Hid (Play w w9 A2 D (k + 1) (.slice ra D.length rc)) := (GG.still k8).still k9
            go_roundw
            case rel => exact ⟨k + 1, by omega, by go_num, A2, D, GF⟩
            case measure => simp [intOf]; omega
          · have hlD : ¬ D.length < L.length := by
              rw [decide_eq_false hm] at hiff
              exact of_decide_eq_false hiff
            have hlD' : ¬ (D.length : Int) < (L.length : Int) := by omega
            have HD1 : Hid (∀ W, SRep W w.heap.size A L → Calls Try.prog 12 #[.pointer (some ⟨w.heap.size, 0, none⟩), .int .i64 x.t] W fun e w' => e = .returned (.bool false) ∧ SWent W w.heap.size A D w') := by
              intro W r
              have := drop_any w.heap.size A L x.t W r hwo.2
              rw [decide_eq_false hm, hD.out] at this
              exact this
            clear hiff hm
            obtain ⟨p0, p1, p2, p3, p4, p5, p6, p7⟩ := bx.all
            go_wp2_with fail
            rw [← HW.out]
            go_wp2_with fail
            refine (rdrop_any _ _ L x.t _ G0.2.1).mono ?_
            rintro e w1 ⟨v1, rfl, l1, k1⟩
            rw [hD.out] at l1
            obtain ⟨ra, rc, hf1⟩ := l1.form
            subst hf1
            have b1 := bx.kp k1
            have S1 := G0.still k1
            have hb1 := l1.row.lt
            have hz1 : W0.heap.size ≤ w1.heap.size := k1.size
            clear p0 p1 p2 p3 p4 p5 p6 p7
            obtain ⟨q0, q1, q2, q3, q4, q5, q6, q7⟩ := b1.all
            go_wp2_with fail
            refine (HD1.out _ S1.1.rep).mono ?_
            rintro e w2 ⟨rfl, hw2⟩
            have hv1 : ∀ g, (Value.slice ra D.length rc).ownBlock = some g → ¬ A g := fun g hg q => by
              have := (hb1 g hg).1
              have := (G0.1.lo g q).2
              omega
            obtain ⟨A2, S2, l2, hv2⟩ := S1.1.beside hw2 l1 hv1
            have GG : Play w w2 A2 D (k + 1) (.slice ra D.length rc) := ⟨S2, l2.low (by have := G0.1.kp.size; omega), hv2, by have := HDL.out; have := HQ.out; omega⟩
            go_wp2_with (first
              | (go_at_call 20; refine (list_any w.heap.size A2 D _ GG.1.rep (by have := GG.2.2.2; have := HQ2.out; omega)).mono ?_; rintro e w8 ⟨v8, rfl, l8, k8⟩)
              | (go_at_call 19; refine (rsame_any _ _ v8 (.slice ra D.length rc) D _ l8 (GG.2.1.kp k8)).mono ?_; rintro e w9 ⟨rfl, k9⟩)
              | fail)
            have GF : Hid (Play w w9 A2 D (k + 1) (.slice ra D.length rc)) := (GG.still k8).still k9
            go_roundw
            case rel => exact ⟨k + 1, by omega, by go_num, A2, D, GF⟩
            case measure => simp [intOf]; omega
        · have d1 : (x.k == 1) = false := by simp [c1]
          by_cases c2 : x.k = 2
          · have d2 : (x.k == 2) = true := by simp [c2]
            clear c2
            obtain ⟨y, hy⟩ : ∃ y, Hid (jobOf L x.t = y) := ⟨_, rfl⟩
            obtain ⟨bo, hbo⟩ : ∃ bo, Hid (decide (x.t ∈ tks L) = bo) := ⟨_, rfl⟩
            have HG1 : Hid (∀ W, SRep W w.heap.size A L → Calls Try.prog 13 #[.pointer (some ⟨w.heap.size, 0, none⟩), .int .i64 x.t] W fun e w' => e = .returned (.tuple #[.agg #[.int .i64 y.t, .int .i64 y.r, .int .i64 y.d, .int .i64 y.l, .int .i64 y.x, .bool y.s], .bool bo]) ∧ Kp W w') := by
              intro W r
              have := get_any w.heap.size A L x.t W r hwo.2 y hy.out
              rw [hbo.out] at this
              exact this
            have HG2 : Hid (∀ W, Ls W w.heap.size (.slice la L.length lc) L → Calls Try.prog 14 #[.slice la L.length lc, .int .i64 x.t] W fun e w' => e = .returned (.tuple #[.agg #[.int .i64 y.t, .int .i64 y.r, .int .i64 y.d, .int .i64 y.l, .int .i64 y.x, .bool y.s], .bool bo]) ∧ Kp W w') := by
              intro W r
              have := rof_any _ _ L x.t W r y hy.out
              rw [hbo.out] at this
              exact this
            obtain ⟨p0, p1, p2, p3, p4, p5, p6, p7⟩ := bx.all
            have HE := eqJ y
            go_wp2_with fail
            rw [← HW.out]
            go_wp2_with fail
            refine (HG1.out _ G0.1.rep).mono ?_
            rintro e w1 ⟨rfl, k1⟩
            have k1' : Kp W0 (w1.alloc (.cells #[.int .i64 y.t, .int .i64 y.r, .int .i64 y.d, .int .i64 y.l, .int .i64 y.x, .bool y.s] 27)) := Step.alloc k1 _
            have b1 := bx.kp k1'
            have S1 := G0.still k1'
            have hby1 : Hid (∀ w', Kp (w1.alloc (.cells #[.int .i64 y.t, .int .i64 y.r, .int .i64 y.d, .int .i64 y.l, .int .i64 y.x, .bool y.s] 27)) w' → BJ w' w1.heap.size y) := fun w' k => (bj_new w1 y).kp k
            clear p0 p1 p2 p3 p4 p5 p6 p7
            obtain ⟨q0, q1, q2, q3, q4, q5, q6, q7⟩ := b1.all
            go_wp2_with fail
            refine (HG2.out _ S1.2.1).mono ?_
            rintro e w2 ⟨rfl, k2⟩
            have k2' : Kp (w1.alloc (.cells #[.int .i64 y.t, .int .i64 y.r, .int .i64 y.d, .int .i64 y.l, .int .i64 y.x, .bool y.s] 27)) (w2.alloc (.cells #[.int .i64 y.t, .int .i64 y.r, .int .i64 y.d, .int .i64 y.l, .int .i64 y.x, .bool y.s] 27)) := Step.alloc k2 _
            have bA := hby1.out _ k2
            obtain ⟨r0, r1, r2, r3, r4, r5⟩ := bA.all
            have hlA := bA.lt
            have GG := (S1.still k2').more
            go_wp2_with (first
              | (go_at_call 20; refine (list_any w.heap.size A L _ GG.1.rep (by have := GG.2.2.2; have := HQ2.out; omega)).mono ?_; rintro e w8 ⟨v8, rfl, l8, k8⟩)
              | (go_at_call 19; refine (rsame_any _ _ v8 (.slice la L.length lc) L _ l8 (GG.2.1.kp k8)).mono ?_; rintro e w9 ⟨rfl, k9⟩)
              | fail)
            have GF : Hid (Play w w9 A L (k + 1) (.slice la L.length lc)) := (GG.still k8).still k9
            go_roundw
            case rel => exact ⟨k + 1, by omega, by go_num, A, L, GF⟩
            case measure => simp [intOf]; omega
          · have d2 : (x.k == 2) = false := by simp [c2]
            by_cases c3 : x.k = 3
            · have d3 : (x.k == 3) = true := by simp [c3]
              clear c3
              obtain ⟨y, hy⟩ : ∃ y, Hid (hdJ L = y) := ⟨_, rfl⟩
              obtain ⟨bo, hbo⟩ : ∃ bo, Hid (decide (0 < L.length) = bo) := ⟨_, rfl⟩
              have HG1 : Hid (∀ W, SRep W w.heap.size A L → Calls Try.prog 15 #[.pointer (some ⟨w.heap.size, 0, none⟩)] W fun e w' => e = .returned (.tuple #[.agg #[.int .i64 y.t, .int .i64 y.r, .int .i64 y.d, .int .i64 y.l, .int .i64 y.x, .bool y.s], .bool bo]) ∧ Kp W w') := by
                intro W r
                have := first_any w.heap.size A L W r y hy.out
                rw [hbo.out] at this
                exact this
              have HG2 : Hid (∀ W, Ls W w.heap.size (.slice la L.length lc) L → Calls Try.prog 16 #[.slice la L.length lc] W fun e w' => e = .returned (.tuple #[.agg #[.int .i64 y.t, .int .i64 y.r, .int .i64 y.d, .int .i64 y.l, .int .i64 y.x, .bool y.s], .bool bo]) ∧ Kp W w') := by
                intro W r
                have := lfirst_any _ _ L W r y hy.out
                rw [hbo.out] at this
                exact this
              obtain ⟨p0, p1, p2, p3, p4, p5, p6, p7⟩ := bx.all
              have HE := eqJ y
              go_wp2_with fail
              rw [← HW.out]
              go_wp2_with fail
              refine (HG1.out _ G0.1.rep).mono ?_
              rintro e w1 ⟨rfl, k1⟩
              have k1' : Kp W0 (w1.alloc (.cells #[.int .i64 y.t, .int .i64 y.r, .int .i64 y.d, .int .i64 y.l, .int .i64 y.x, .bool y.s] 27)) := Step.alloc k1 _
              have b1 := bx.kp k1'
              have S1 := G0.still k1'
              have hby1 : Hid (∀ w', Kp (w1.alloc (.cells #[.int .i64 y.t, .int .i64 y.r, .int .i64 y.d, .int .i64 y.l, .int .i64 y.x, .bool y.s] 27)) w' → BJ w' w1.heap.size y) := fun w' k => (bj_new w1 y).kp k
              clear p0 p1 p2 p3 p4 p5 p6 p7
              obtain ⟨q0, q1, q2, q3, q4, q5, q6, q7⟩ := b1.all
              go_wp2_with fail
              refine (HG2.out _ S1.2.1).mono ?_
              rintro e w2 ⟨rfl, k2⟩
              have k2' : Kp (w1.alloc (.cells #[.int .i64 y.t, .int .i64 y.r, .int .i64 y.d, .int .i64 y.l, .int .i64 y.x, .bool y.s] 27)) (w2.alloc (.cells #[.int .i64 y.t, .int .i64 y.r, .int .i64 y.d, .int .i64 y.l, .int .i64 y.x, .bool y.s] 27)) := Step.alloc k2 _
              have bA := hby1.out _ k2
              obtain ⟨r0, r1, r2, r3, r4, r5⟩ := bA.all
              have hlA := bA.lt
              have GG := (S1.still k2').more
              go_wp2_with (first
                | (go_at_call 20; refine (list_any w.heap.size A L _ GG.1.rep (by have := GG.2.2.2; have := HQ2.out; omega)).mono ?_; rintro e w8 ⟨v8, rfl, l8, k8⟩)
                | (go_at_call 19; refine (rsame_any _ _ v8 (.slice la L.length lc) L _ l8 (GG.2.1.kp k8)).mono ?_; rintro e w9 ⟨rfl, k9⟩)
                | fail)
              have GF : Hid (Play w w9 A L (k + 1) (.slice la L.length lc)) := (GG.still k8).still k9
              go_roundw
              case rel => exact ⟨k + 1, by omega, by go_num, A, L, GF⟩
              case measure => simp [intOf]; omega
            · have d3 : (x.k == 3) = false := by simp [c3]
              obtain ⟨z, hz⟩ : ∃ z, Hid (lstD L = z) := ⟨_, rfl⟩
              have HG1 : Hid (∀ W, SRep W w.heap.size A L → Calls Try.prog 17 #[.pointer (some ⟨w.heap.size, 0, none⟩)] W fun e w' => e = .returned (.int .i64 z) ∧ Kp W w') := by
                intro W r
                have := last_any w.heap.size A L W r (by have := HQ.out; have := HQ2.out; omega)
                rw [hz.out] at this
                exact this
              have HG2 : Hid (∀ W, Ls W w.heap.size (.slice la L.length lc) L → Calls Try.prog 18 #[.slice la L.length lc] W fun e w' => e = .returned (.int .i64 z) ∧ Kp W w') := by
                intro W r
                have := llast_any _ _ L W r
                rw [hz.out] at this
                exact this
              obtain ⟨p0, p1, p2, p3, p4, p5, p6, p7⟩ := bx.all
              go_wp2_with fail
              rw [← HW.out]
              go_wp2_with fail
              refine (HG1.out _ G0.1.rep).mono ?_
              rintro e w1 ⟨rfl, k1⟩
              have S1 := G0.still k1
              go_wp2_with fail
              refine (HG2.out _ S1.2.1).mono ?_
              rintro e w2 ⟨rfl, k2⟩
              have GG := (S1.still k2).more
              go_wp2_with (first
                | (go_at_call 20; refine (list_any w.heap.size A L _ GG.1.rep (by have := GG.2.2.2; have := HQ2.out; omega)).mono ?_; rintro e w8 ⟨v8, rfl, l8, k8⟩)
                | (go_at_call 19; refine (rsame_any _ _ v8 (.slice la L.length lc) L _ l8 (GG.2.1.kp k8)).mono ?_; rintro e w9 ⟨rfl, k9⟩)
                | fail)
              have GF : Hid (Play w w9 A L (k + 1) (.slice la L.length lc)) := (GG.still k8).still k9
              go_roundw
              case rel => exact ⟨k + 1, by omega, by go_num, A, L, GF⟩
              case measure => simp [intOf]; omega
    · have hlt' : ¬ (k : Int) < (len : Int) := by omega
      have G1 := G.out.1
      go_wp2_with (first
        | (go_at_call 21; refine (answers_any _).mono ?_; rintro e w5 ⟨rfl, k5⟩)
        | fail)
      go_ret
      exact ⟨rfl, Step.trans G1.kp k5⟩

theorem readyPlays_walk (ao : Option Addr) (len cap : Nat) (M : List Op3) (w : World) (J : OpsAt w ao len M) (hby : len * 64 ≤ 140737488351232) :
    Calls Try.prog 3 #[.slice ao len cap] w fun e w' => e = .returned (.bool true) ∧ Below w.heap.size w w' :=
  (readyPlays_go ao len cap M w J hby).mono fun _ _ ⟨he, k⟩ => ⟨he, Kp.bel k⟩

end Go.Proofs.Ytphaedkmijdphaa.RD
