/- The document's lists of jobs: without a task's, a task's, the same; and what a list has first, and last. -/
import Derived.Test.YtphaedkmijdphaaRdyList
namespace Go.Proofs.Ytphaedkmijdphaa.RD
open Go.ChangeShapes Go.WideShapes Go.ChangeAt Go.RowKit Go.Proofs.Ytphaedkmijdphaa.AR Go.Proofs.Ytphaedkmijdphaa.HP Go.Proofs.Ytphaedkmijdphaa.HM

theorem kp_drewN {a b : World} (h : Kp a b) (n : Nat) : Kp a (b.drewN n) := Step.drewN h n

theorem dropJ_snoc {L : List Jb} {k : Nat} (hk : k < L.length) (x : Int) : dropJ (L.take (k + 1)) x = if (atJ L k).t = x then dropJ (L.take k) x else dropJ (L.take k) x ++ [atJ L k] := by
  rw [take_snocJ hk]
  unfold dropJ
  rw [List.filter_append]
  split
  · rename_i h; simp [h]
  · rename_i h; simp [h]

/-- one more in a row of the call's own -/
theorem ls_more {w wr w4 : World} {v : Value} {M : List Jb} {y : Jb} {g4 cap4 : Nat} {o : Obj} (l : Ls wr w.heap.size v M) (k : Kp w wr) (hl : M.length + 1 ≤ 2932031007402)
    (row4 : w4.ownsRow w.heap.size 27 6 (.slice (some ⟨g4, 0, none⟩) (M.length + 1) cap4) (M.length + 1) (flatJ (M ++ [y]))) (hg4 : (wr.alloc o).grownBy w4 v.ownBlock) :
    Ls w4 w.heap.size (.slice (some ⟨g4, 0, none⟩) (M.length + 1) cap4) (M ++ [y]) ∧ Kp w w4 := by
  have k34 : Step (fun k => v.ownBlock = some k) wr w4 := ((Step.refl _ wr).alloc o).grown hg4 (fun k hk => hk)
  refine ⟨⟨by rw [List.length_append]; exact row4, by simp; omega⟩, Step.trans_new k k34 (fun i hi q => ?_)⟩
  have := (l.row.lt i q).1
  omega

/-- DropJob under way -/
def Drp (w wr : World) (L : List Jb) (x : Int) (k : Nat) (v : Value) : Prop := Ls wr w.heap.size v (dropJ (L.take k) x) ∧ Kp w wr

set_option maxHeartbeats 4000000 in
theorem rdrop_any (base : Nat) (v : Value) (L : List Jb) (x : Int) (w : World) (h : Ls w base v L) :
    Calls Try.prog 11 #[v, .int .i64 x] w fun e w' => ∃ v', e = .returned v' ∧ Ls w' w.heap.size v' (dropJ L x) ∧ Kp w w' := by
  have hlen := h.len
  have HL : Hid (L.length ≤ 2932031007402) := hlen
  by_cases hp : 0 < L.length
  · obtain ⟨g1, c1, rfl, _, hg1, _, hc1⟩ := h.pos hp
    go_enter Try.func11, Try.ntmps11
    go_wp2
    go_loopw [5, 6] (fun u i wr => ∃ k : Nat, k ≤ L.length ∧ i = .int .i64 k ∧ Hid (Drp w wr L x k u)) (fun _ i _ => L.length - (intOf i).toNat)
    case atStart => exact ⟨0, Nat.zero_le _, rfl, ls_nil _ _, Step.refl _ _⟩
    case round =>
      obtain ⟨k, hk, rfl, G⟩ := hrel
      by_cases hlt : k < L.length
      · have hlt' : (k : Int) < (L.length : Int) := by omega
        have i1 : (0 : Int) ≤ (k : Int) := by omega
        have i3 : ((k : Int)).toNat = k := by omega
        obtain ⟨a0, a1, a2, a3, a4, a5, _⟩ := (hc1 k hlt).kept G.out.2 (fun q => q)
        have hs := dropJ_snoc hlt x
        by_cases e : (atJ L k).t = x
        · have e' : ((atJ L k).t == x) = true := by simp [e]
          rw [if_pos e] at hs
          have G2 : Hid (Drp w wr L x (k + 1) u5) := by
            refine ⟨?_, G.out.2⟩
            rw [hs]; exact G.out.1
          clear hs e
          generalize atJ L k = y at *
          go_wp2
          go_roundw
          case rel => exact ⟨k + 1, by omega, by go_num, G2⟩
          case measure => simp [intOf]; omega
        · have e' : ((atJ L k).t == x) = false := by simp [e]
          rw [if_neg e] at hs
          have HS : Hid (dropJ (L.take (k + 1)) x = dropJ (L.take k) x ++ [atJ L k]) := hs
          have hq : (dropJ (L.take k) x).length ≤ k := by
            have := dropJ_len (L.take k) x
            have h2 := List.length_take_le k L
            omega
          clear hs e
          generalize atJ L k = y at *
          have lu := G.out.1
          have kk := G.out.2
          go_wp2_with (first
            | (at_builtin; refine wpList_append_six _ rfl _ _ 25 27 rfl Try.underlying25 jb_info w.heap.size u5 (dropJ (L.take k) x) rfl (by exact lu.row.alloc _) wr.heap.size y rfl (by exact alloc_at wr _) (by have := HL.out; omega) (by have := kk.size; simp; omega) ?_; intro g4 cap4 w4 row4 hg4 hloc4)
            | fail)
          have G4 : Hid (Drp w w4 L x (k + 1) (.slice (some ⟨g4, 0, none⟩) ((dropJ (L.take k) x).length + 1) cap4)) := by
            have := ls_more lu kk (by have := HL.out; omega) row4 hg4
            rw [← HS.out] at this
            exact this
          exact ⟨⟨k + 1, by omega, by go_num, G4⟩, by simp [intOf]; omega⟩
      · have hlt' : ¬ (k : Int) < (L.length : Int) := by omega
        have e : L.take k = L := List.take_of_length_le (by omega)
        go_wp2
        go_ret
        refine ⟨_, rfl, ?_, G.out.2⟩
        have := G.out.1
        rw [e] at this
        exact this
  · have hz : L = [] := List.length_eq_zero_iff.1 (by omega)
    subst hz
    have q1 : ∃ a c, v = .slice a 0 c := by
      rcases h.cases with ⟨rfl, _⟩ | ⟨g, cap, rfl, _⟩
      · exact ⟨_, _, rfl⟩
      · exact ⟨_, _, rfl⟩
    obtain ⟨a1, c1, rfl⟩ := q1
    go_enter Try.func11, Try.ntmps11
    go_wp2
    refine wp_loop_rounds 1 ?_
    rw [rounds_succ]
    go_wp2
    go_ret
    exact ⟨_, rfl, ls_nil _ _, Step.refl _ _⟩

/-! ### JobOf, and the first one -/

theorem results_of (tmps : Array Value) (w : World) (b : Nat) (j : Jb) (hp : tmps[4]?.getD undef = .pointer (some ⟨b, 0, none⟩)) (hb : BJ w b j) :
    (results Try.f14 tmps).run Try.prog w = .ok (.tuple #[.agg #[.int .i64 j.t, .int .i64 j.r, .int .i64 j.d, .int .i64 j.l, .int .i64 j.x, .bool j.s], tmps[5]?.getD undef]) w := by
  obtain ⟨z0, z1, z2, z3, z4, z5⟩ := hb.all
  simp [results, Try.results14, go_sem, hp, z0, z1, z2, z3, z4, z5]

theorem jobOf_take {L : List Jb} {x : Int} {k : Nat} (hn : x ∉ tks (L.take k)) (hk : k < L.length) (e : (atJ L k).t = x) : jobOf L x = atJ L k := by
  unfold jobOf
  have h1 : L = L.take k ++ atJ L k :: L.drop (k + 1) := by
    rw [atJ_get hk]
    conv => lhs; rw [← List.take_append_drop k L, List.drop_eq_getElem_cons hk]
  conv => lhs; rw [h1]
  rw [List.find?_append, List.find?_eq_none.2 (fun j hj => by simp; intro e'; exact hn (mem_tks.2 ⟨j, hj, e'⟩))]
  simp [e]

/-- JobOf under way -/
def Look (w wr : World) (L : List Jb) (x : Int) (k : Nat) : Prop := x ∉ tks (L.take k) ∧ BJ wr w.heap.size zJ ∧ Kp w wr

set_option maxHeartbeats 4000000 in
theorem rof_any (base : Nat) (v : Value) (L : List Jb) (x : Int) (w : World) (h : Ls w base v L) (j : Jb) (hj : jobOf L x = j) :
    Calls Try.prog 14 #[v, .int .i64 x] w fun e w' => e = .returned (.tuple #[.agg #[.int .i64 j.t, .int .i64 j.r, .int .i64 j.d, .int .i64 j.l, .int .i64 j.x, .bool j.s], .bool (decide (x ∈ tks L))]) ∧ Kp w w' := by
  have hlen := h.len
  have HJ : Hid (jobOf L x = j) := hj
  clear hj
  have hb0 : Hid (BJ (w.alloc (.cells #[.int .i64 zJ.t, .int .i64 zJ.r, .int .i64 zJ.d, .int .i64 zJ.l, .int .i64 zJ.x, .bool zJ.s] 27)) w.heap.size zJ) := bj_new w zJ
  have hk0 : Kp w (w.alloc (.cells #[.int .i64 zJ.t, .int .i64 zJ.r, .int .i64 zJ.d, .int .i64 zJ.l, .int .i64 zJ.x, .bool zJ.s] 27)) := (Step.refl _ w).alloc _
  by_cases hp : 0 < L.length
  · obtain ⟨g1, c1, rfl, _, hg1, _, hc1⟩ := h.pos hp
    go_enter Try.func14, Try.ntmps14
    go_wp2
    go_loopw [6] (fun i wr => ∃ k : Nat, k ≤ L.length ∧ i = .int .i64 k ∧ Hid (Look w wr L x k)) (fun i _ => L.length - (intOf i).toNat)
    case atStart => exact ⟨0, Nat.zero_le _, rfl, by simp [tks], hb0.out, hk0⟩
    case round =>
      obtain ⟨k, hk, rfl, G⟩ := hrel
      by_cases hlt : k < L.length
      · have hlt' : (k : Int) < (L.length : Int) := by omega
        have i1 : (0 : Int) ≤ (k : Int) := by omega
        have i3 : ((k : Int)).toNat = k := by omega
        have hck := (hc1 k hlt).kept G.out.2.2 (fun q => q)
        by_cases e : (atJ L k).t = x
        · have ej : atJ L k = j := (jobOf_take G.out.1 hlt e).symm.trans HJ.out
          have HM : Hid (x ∈ tks L) := mem_tks.2 ⟨_, atJ_mem hlt, e⟩
          rw [ej] at hck e
          have e' : (j.t == x) = true := by simp [e]
          clear e ej
          obtain ⟨a0, a1, a2, a3, a4, a5, _⟩ := hck
          have b1 := G.out.2.1
          have q20 := b1.fr 0
          have q21 := b1.fr 1
          have q22 := b1.fr 2
          have q23 := b1.fr 3
          have q24 := b1.fr 4
          have q25 := b1.fr 5
          obtain ⟨y0, y1, y2, y3, y4, y5⟩ := b1.all
          have hlw := b1.lt
          go_wp2
          have b2 := b1.setAll j
          refine bodyPost_ret (results_of _ _ w.heap.size j rfl b2) rfl ⟨?_, kp_setJ G.out.2.2 (Nat.le_refl _) j⟩
          rw [decide_eq_true HM.out]
          rfl
        · have e' : ((atJ L k).t == x) = false := by simp [e]
          obtain ⟨a0, a1, a2, a3, a4, a5, _⟩ := hck
          have G2 : Hid (Look w wr L x (k + 1)) := by
            refine ⟨?_, G.out.2⟩
            intro hx
            rw [take_snocJ hlt] at hx
            simp only [tks, List.map_append, List.mem_append, List.map_cons, List.map_nil, List.mem_singleton] at hx
            rcases hx with hx | hx
            · exact G.out.1 hx
            · exact e hx.symm
          clear e
          generalize atJ L k = y at *
          go_wp2
          go_roundw
          case rel => exact ⟨k + 1, by omega, by go_num, G2⟩
          case measure => simp [intOf]; omega
      · have hlt' : ¬ (k : Int) < (L.length : Int) := by omega
        have e : L.take k = L := List.take_of_length_le (by omega)
        have HM : Hid (x ∉ tks L) := by have := G.out.1; rw [e] at this; exact this
        have ej : j = zJ := HJ.out.symm.trans (jobOf_none HM.out)
        subst ej
        clear e
        have b1 := G.out.2.1
        have q20 := b1.fr 0
        have q21 := b1.fr 1
        have q22 := b1.fr 2
        have q23 := b1.fr 3
        have q24 := b1.fr 4
        have q25 := b1.fr 5
        obtain ⟨y0, y1, y2, y3, y4, y5⟩ := b1.all
        have hlw := b1.lt
        go_wp2
        have b2 := b1.setAll zJ
        have k2 := kp_setJ G.out.2.2 (Nat.le_refl _) zJ
        simp only [zJ] at b2 k2
        refine bodyPost_ret (results_of _ _ w.heap.size ⟨0, 0, 0, 0, 0, false⟩ rfl b2) rfl ⟨?_, k2⟩
        rw [decide_eq_false HM.out]
        rfl
  · have hz : L = [] := List.length_eq_zero_iff.1 (by omega)
    subst hz
    have ej : j = zJ := HJ.out.symm.trans (jobOf_none (by simp [tks]))
    subst ej
    have q1 : ∃ a c, v = .slice a 0 c := by
      rcases h.cases with ⟨rfl, _⟩ | ⟨g, cap, rfl, _⟩
      · exact ⟨_, _, rfl⟩
      · exact ⟨_, _, rfl⟩
    obtain ⟨a1, c1, rfl⟩ := q1
    go_enter Try.func14, Try.ntmps14
    go_wp2
    refine wp_loop_rounds 1 ?_
    rw [rounds_succ]
    go_wp2
    exact bodyPost_ret (results_of _ _ w.heap.size zJ rfl hb0.out) rfl ⟨by simp [tks], hk0⟩

/-! ### SameJobs -/

set_option maxHeartbeats 4000000 in
theorem rsame_any (b1 b2 : Nat) (v1 v2 : Value) (L : List Jb) (w : World) (h1 : Ls w b1 v1 L) (h2 : Ls w b2 v2 L) :
    Calls Try.prog 19 #[v1, v2] w fun e w' => e = .returned (.bool true) ∧ Kp w w' := by
  have hlen := h1.len
  by_cases hp : 0 < L.length
  · obtain ⟨g1, c1, rfl, _, hg1, _, hc1⟩ := h1.pos hp
    obtain ⟨g2, c2, rfl, _, hg2, _, hc2⟩ := h2.pos hp
    have HE : Hid (∀ x : Jb, ∀ w : World, (Op.equalIn 10000 27 (.agg #[.int .i64 x.t, .int .i64 x.r, .int .i64 x.d, .int .i64 x.l, .int .i64 x.x, .bool x.s]) (.agg #[.int .i64 x.t, .int .i64 x.r, .int .i64 x.d, .int .i64 x.l, .int .i64 x.x, .bool x.s])).run Try.prog w = .ok true w) := eqJ
    go_enter Try.func19, Try.ntmps19
    go_wp2
    go_loopw [5] (fun i wr => ∃ k : Nat, k ≤ L.length ∧ i = .int .i64 k ∧ Kp w wr) (fun i _ => L.length - (intOf i).toNat)
    case atStart => exact ⟨0, Nat.zero_le _, rfl, Step.refl _ _⟩
    case round =>
      obtain ⟨k, hk, rfl, kp⟩ := hrel
      by_cases hlt : k < L.length
      · have hlt' : (k : Int) < (L.length : Int) := by omega
        have i1 : (0 : Int) ≤ (k : Int) := by omega
        have i3 : ((k : Int)).toNat = k := by omega
        obtain ⟨a0, a1, a2, a3, a4, a5, _⟩ := (hc1 k hlt).kept kp (fun q => q)
        obtain ⟨d0, d1, d2, d3, d4, d5, _⟩ := (hc2 k hlt).kept kp (fun q => q)
        have E := HE.out (atJ L k)
        generalize atJ L k = x at *
        go_wp2_with fail
        go_quiet (fail)
        generalize hwq : World.drewN wr _ = w2
        have k2 : Kp w w2 := by rw [← hwq]; exact kp_drewN kp _
        clear hwq
        go_wp2
        go_roundw
        case rel => exact ⟨k + 1, by omega, by go_num, k2⟩
        case measure => simp [intOf]; omega
      · have hlt' : ¬ (k : Int) < (L.length : Int) := by omega
        go_wp2
        go_ret
        exact ⟨rfl, kp⟩
  · have hz : L = [] := List.length_eq_zero_iff.1 (by omega)
    subst hz
    have q1 : ∃ a c, v1 = .slice a 0 c := by
      rcases h1.cases with ⟨rfl, _⟩ | ⟨g, cap, rfl, _⟩
      · exact ⟨_, _, rfl⟩
      · exact ⟨_, _, rfl⟩
    have q2 : ∃ a c, v2 = .slice a 0 c := by
      rcases h2.cases with ⟨rfl, _⟩ | ⟨g, cap, rfl, _⟩
      · exact ⟨_, _, rfl⟩
      · exact ⟨_, _, rfl⟩
    obtain ⟨a1, c1, rfl⟩ := q1
    obtain ⟨a2, c2, rfl⟩ := q2
    go_enter Try.func19, Try.ntmps19
    go_wp2
    refine wp_loop_rounds 1 ?_
    rw [rounds_succ]
    go_wp2
    go_ret
    exact ⟨rfl, Step.refl _ _⟩

/-! ### what a list has first, and last -/

theorem results_hd (tmps : Array Value) (w : World) (b : Nat) (j : Jb) (hp : tmps[2]?.getD undef = .pointer (some ⟨b, 0, none⟩)) (hb : BJ w b j) :
    (results Try.f16 tmps).run Try.prog w = .ok (.tuple #[.agg #[.int .i64 j.t, .int .i64 j.r, .int .i64 j.d, .int .i64 j.l, .int .i64 j.x, .bool j.s], tmps[3]?.getD undef]) w := by
  obtain ⟨z0, z1, z2, z3, z4, z5⟩ := hb.all
  simp [results, Try.results16, go_sem, hp, z0, z1, z2, z3, z4, z5]

set_option maxHeartbeats 4000000 in
theorem lfirst_any (base : Nat) (v : Value) (L : List Jb) (w : World) (h : Ls w base v L) (j : Jb) (hj : hdJ L = j) :
    Calls Try.prog 16 #[v] w fun e w' => e = .returned (.tuple #[.agg #[.int .i64 j.t, .int .i64 j.r, .int .i64 j.d, .int .i64 j.l, .int .i64 j.x, .bool j.s], .bool (decide (0 < L.length))]) ∧ Kp w w' := by
  have hlen := h.len
  by_cases hp : 0 < L.length
  · obtain ⟨g1, c1, rfl, _, hg1, _, hc1⟩ := h.pos hp
    have e : atJ L 0 = j := by
      cases L with
      | nil => simp at hp
      | cons a r => exact hj
    obtain ⟨a0, a1, a2, a3, a4, a5, _⟩ := hc1 0 hp
    rw [e] at a0 a1 a2 a3 a4 a5
    simp only [Nat.zero_mul, Nat.zero_add] at a0 a1 a2 a3 a4 a5
    have hlt' : (0 : Int) < (L.length : Int) := by omega
    have hne : ((L.length : Int) == 0) = false := beq_eq_false_iff_ne.2 (by omega)
    rw [decide_eq_true hp]
    clear hc1 e hj
    have hb0 : Hid (BJ (w.alloc (.cells #[.int .i64 j.t, .int .i64 j.r, .int .i64 j.d, .int .i64 j.l, .int .i64 j.x, .bool j.s] 27)) w.heap.size j) := bj_new w j
    go_enter Try.func16, Try.ntmps16
    go_wp2
    exact bodyPost_ret (results_hd _ _ w.heap.size j rfl hb0.out) rfl ⟨rfl, (Step.refl _ w).alloc _⟩
  · have hz : L = [] := List.length_eq_zero_iff.1 (by omega)
    subst hz
    subst hj
    have q1 : ∃ a c, v = .slice a 0 c := by
      rcases h.cases with ⟨rfl, _⟩ | ⟨g, cap, rfl, _⟩
      · exact ⟨_, _, rfl⟩
      · exact ⟨_, _, rfl⟩
    obtain ⟨a1, c1, rfl⟩ := q1
    have hb0 : Hid (BJ (w.alloc (.cells #[.int .i64 zJ.t, .int .i64 zJ.r, .int .i64 zJ.d, .int .i64 zJ.l, .int .i64 zJ.x, .bool zJ.s] 27)) w.heap.size zJ) := bj_new w zJ
    go_enter Try.func16, Try.ntmps16
    go_wp2
    exact bodyPost_ret (results_hd _ _ w.heap.size zJ rfl hb0.out) rfl ⟨rfl, (Step.refl _ w).alloc _⟩

set_option maxHeartbeats 4000000 in
theorem llast_any (base : Nat) (v : Value) (L : List Jb) (w : World) (h : Ls w base v L) :
    Calls Try.prog 18 #[v] w fun e w' => e = .returned (.int .i64 (lstD L)) ∧ Kp w w' := by
  have hlen := h.len
  by_cases hp : 0 < L.length
  · have HE : Hid (lstD L = (atJ L (L.length - 1)).d) := if_pos hp
    rw [HE.out]
    clear HE
    obtain ⟨n, hn, e1, i0, i1, i2, i3, i4, i5⟩ := last_ix hlen hp
    rw [e1]
    clear e1
    obtain ⟨g1, c1, rfl, _, hg1, _, hc1⟩ := h.pos hp
    obtain ⟨a0, a1, a2, a3, a4, a5, _⟩ := hc1 n hn
    go_enter Try.func18, Try.ntmps18
    go_wp2
    go_ret
    exact ⟨rfl, Step.refl _ _⟩
  · have HE : Hid (lstD L = 0) := if_neg hp
    rw [HE.out]
    clear HE
    have hz : L = [] := List.length_eq_zero_iff.1 (by omega)
    subst hz
    have q1 : ∃ a c, v = .slice a 0 c := by
      rcases h.cases with ⟨rfl, _⟩ | ⟨g, cap, rfl, _⟩
      · exact ⟨_, _, rfl⟩
      · exact ⟨_, _, rfl⟩
    obtain ⟨a1, c1, rfl⟩ := q1
    go_enter Try.func18, Try.ntmps18
    go_wp2
    go_ret
    exact ⟨rfl, Step.refl _ _⟩

end Go.Proofs.Ytphaedkmijdphaa.RD
