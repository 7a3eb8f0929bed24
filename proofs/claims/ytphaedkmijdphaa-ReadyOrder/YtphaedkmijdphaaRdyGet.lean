/- What Get and First of a set answer. -/
import Derived.Test.YtphaedkmijdphaaRdyOps
namespace Go.Proofs.Ytphaedkmijdphaa.RD
open Go.ChangeShapes Go.WideShapes Go.ChangeAt Go.RowKit Go.Proofs.Ytphaedkmijdphaa.AR Go.Proofs.Ytphaedkmijdphaa.HP Go.Maps Go.Proofs.Ytphaedkmijdphaa.HM Go.Proofs.Ytphaedkmijdphaa.HW

theorem results_get (tmps : Array Value) (w : World) (b : Nat) (j : Jb) (hp : tmps[4]?.getD undef = .pointer (some ⟨b, 0, none⟩)) (hb : BJ w b j) :
    (results Try.f13 tmps).run Try.prog w = .ok (.tuple #[.agg #[.int .i64 j.t, .int .i64 j.r, .int .i64 j.d, .int .i64 j.l, .int .i64 j.x, .bool j.s], tmps[5]?.getD undef]) w := by
  obtain ⟨z0, z1, z2, z3, z4, z5⟩ := hb.all
  simp [results, Try.results13, go_sem, hp, z0, z1, z2, z3, z4, z5]

theorem results_first (tmps : Array Value) (w : World) (b : Nat) (j : Jb) (hp : tmps[2]?.getD undef = .pointer (some ⟨b, 0, none⟩)) (hb : BJ w b j) :
    (results Try.f15 tmps).run Try.prog w = .ok (.tuple #[.agg #[.int .i64 j.t, .int .i64 j.r, .int .i64 j.d, .int .i64 j.l, .int .i64 j.x, .bool j.s], tmps[3]?.getD undef]) w := by
  obtain ⟨z0, z1, z2, z3, z4, z5⟩ := hb.all
  simp [results, Try.results15, go_sem, hp, z0, z1, z2, z3, z4, z5]

/-- all six cells anew -/
theorem BJ.setAll {w : World} {g : Nat} {i : Jb} (h : BJ w g i) (j : Jb) : BJ ((((((w.setCell ⟨g, 0, none⟩ (.int .i64 j.t)).setCell ⟨g, 1, none⟩ (.int .i64 j.r)).setCell ⟨g, 2, none⟩ (.int .i64 j.d)).setCell ⟨g, 3, none⟩ (.int .i64 j.l)).setCell ⟨g, 4, none⟩ (.int .i64 j.x)).setCell ⟨g, 5, none⟩ (.bool j.s)) g j := by
  have s0 := heap_setCell_same w g 0 _ _ (.int .i64 j.t) h.blk
  have s1 := heap_setCell_same _ g 1 _ _ (.int .i64 j.r) s0
  have s2 := heap_setCell_same _ g 2 _ _ (.int .i64 j.d) s1
  have s3 := heap_setCell_same _ g 3 _ _ (.int .i64 j.l) s2
  have s4 := heap_setCell_same _ g 4 _ _ (.int .i64 j.x) s3
  have s5 := heap_setCell_same _ g 5 _ _ (.bool j.s) s4
  exact ⟨s5.trans rfl⟩

theorem kp_setJ {w W : World} {g : Nat} (k : Kp w W) (hg : w.heap.size ≤ g) (j : Jb) : Kp w ((((((W.setCell ⟨g, 0, none⟩ (.int .i64 j.t)).setCell ⟨g, 1, none⟩ (.int .i64 j.r)).setCell ⟨g, 2, none⟩ (.int .i64 j.d)).setCell ⟨g, 3, none⟩ (.int .i64 j.l)).setCell ⟨g, 4, none⟩ (.int .i64 j.x)).setCell ⟨g, 5, none⟩ (.bool j.s)) :=
  Step.setNew (Step.setNew (Step.setNew (Step.setNew (Step.setNew (Step.setNew k (p := ⟨g, 0, none⟩) hg _) (p := ⟨g, 1, none⟩) hg _) (p := ⟨g, 2, none⟩) hg _) (p := ⟨g, 3, none⟩) hg _) (p := ⟨g, 4, none⟩) hg _) (p := ⟨g, 5, none⟩) hg _

theorem kp_two (w : World) (a b : Obj) : Kp w ((w.alloc a).alloc b) := ((Step.refl _ w).alloc _).alloc _
theorem bj_two (w : World) (j : Jb) (b : Obj) : BJ ((w.alloc (.cells #[.int .i64 j.t, .int .i64 j.r, .int .i64 j.d, .int .i64 j.l, .int .i64 j.x, .bool j.s] 27)).alloc b) w.heap.size j := (bj_new w j).kp ((Step.refl _ _).alloc _)

set_option maxHeartbeats 2000000 in
theorem get_old (sb hb bm : Nat) (B : Nat → Prop) (D : DataW Unit) (L : List Jb) (x : Int) (w : World) (m : SMem w sb hb bm B D L) (hi : W64 x) (j : Jb) (hj : jobOf L x = j) :
    Calls Try.prog 13 #[.pointer (some ⟨sb, 0, none⟩), .int .i64 x] w fun e w' => e = .returned (.tuple #[.agg #[.int .i64 j.t, .int .i64 j.r, .int .i64 j.d, .int .i64 j.l, .int .i64 j.x, .bool j.s], .bool (decide (x ∈ tks L))]) ∧ Kp w w' := by
  have h1 := m.h1
  have z0 := m.ltT
  have hn := m.nodup
  have hj' : Hid (jobOf L x = j) := hj
  clear hj
  have hb2 : Hid (∀ b, BJ ((w.alloc (.cells #[.int .i64 j.t, .int .i64 j.r, .int .i64 j.d, .int .i64 j.l, .int .i64 j.x, .bool j.s] 27)).alloc b) w.heap.size j) := bj_two w j
  go_enter Try.func13, Try.ntmps13
  go_wp2_with (first
    | (at_lookup; refine wpList_job_ok _ rfl _ _ rfl bm _ D L rfl (by exact m.map.alloc _) m.ties hn x rfl hi j hj'.out ?_)
    | fail)
  exact bodyPost_ret (results_get _ _ w.heap.size j rfl (hb2.out _)) rfl ⟨rfl, kp_two _ _ _⟩

theorem look_zero (w : World) {x : Int} (hi : W64 x) (c : Bool) : (Instr.lookup 49 (.map none) (.int .i64 x) c).run Try.prog w = .ok (if c then .tuple #[.agg #[.int .i64 zJ.t, .int .i64 zJ.r, .int .i64 zJ.d, .int .i64 zJ.l, .int .i64 zJ.x, .bool zJ.s], .bool false] else .agg #[.int .i64 zJ.t, .int .i64 zJ.r, .int .i64 zJ.d, .int .i64 zJ.l, .int .i64 zJ.x, .bool zJ.s]) w :=
  look_nil (w := w) c law3 Try.underlying49 (zeroJ _) (keyOf_int_mk Try.underlying3 hi.wf)

set_option maxHeartbeats 2000000 in
theorem get_fresh (sb : Nat) (x : Int) (w : World) (blk : w.heap[sb]? = some (.cells #[.pointer none, .map none] 51 (0, 0))) (hi : W64 x) :
    Calls Try.prog 13 #[.pointer (some ⟨sb, 0, none⟩), .int .i64 x] w fun e w' => e = .returned (.tuple #[.agg #[.int .i64 zJ.t, .int .i64 zJ.r, .int .i64 zJ.d, .int .i64 zJ.l, .int .i64 zJ.x, .bool zJ.s], .bool false]) ∧ Kp w w' := by
  have h1 : w.cell? ⟨sb, 1, none⟩ = some (.map none) := by simp [World.cell?, blk]
  have z0 := lt_of_block blk
  have hl : ∀ w, (Instr.lookup 49 (.map none) (.int .i64 x) true).run Try.prog w = .ok (.tuple #[.agg #[.int .i64 zJ.t, .int .i64 zJ.r, .int .i64 zJ.d, .int .i64 zJ.l, .int .i64 zJ.x, .bool zJ.s], .bool false]) w := fun w => look_zero w hi true
  have hb2 : Hid (∀ b, BJ ((w.alloc (.cells #[.int .i64 zJ.t, .int .i64 zJ.r, .int .i64 zJ.d, .int .i64 zJ.l, .int .i64 zJ.x, .bool zJ.s] 27)).alloc b) w.heap.size zJ) := bj_two w zJ
  simp only [zJ] at hl
  go_enter Try.func13, Try.ntmps13
  go_wp2
  exact bodyPost_ret (results_get _ _ w.heap.size zJ rfl (hb2.out _)) rfl ⟨rfl, kp_two _ _ _⟩

/-- Get, whatever there is -/
theorem get_any (sb : Nat) (A : Nat → Prop) (L : List Jb) (x : Int) (w : World) (h : SRep w sb A L) (hi : W64 x) (j : Jb) (hj : jobOf L x = j) :
    Calls Try.prog 13 #[.pointer (some ⟨sb, 0, none⟩), .int .i64 x] w fun e w' => e = .returned (.tuple #[.agg #[.int .i64 j.t, .int .i64 j.r, .int .i64 j.d, .int .i64 j.l, .int .i64 j.x, .bool j.s], .bool (decide (x ∈ tks L))]) ∧ Kp w w' := by
  rcases h.2 with ⟨rfl, h2⟩ | ⟨hb, bm, B, D, m, am, aB⟩
  · have e : j = zJ := hj.symm.trans (jobOf_none (by simp [tks]))
    subst e
    refine (get_fresh sb x w h2 hi).mono ?_
    rintro e w' ⟨rfl, k⟩
    exact ⟨by simp [tks], k⟩
  · exact get_old sb hb bm B D L x w m hi j hj

/-- the heap's first one, whatever there is -/
theorem top_least (hb : Nat) (A : Nat → Prop) (l : List E) (x : E) (w : World) (h : Rep w hb A l) (hx : x ∈ l) (hm : ∀ y ∈ l, ltB y x = false) :
    Calls Try.prog 25 #[.pointer (some ⟨hb, 0, none⟩)] w fun e w' => e = .returned (.tuple #[.int .i64 x.1, .int .i64 x.2, .bool true]) ∧ Step (fun _ => False) w w' := by
  rcases h.2 with ⟨rfl, _⟩ | ⟨g, cap, bm, D, es, m, ag, ab, ho, hpe⟩
  · simp at hx
  · have hl : 0 < es.length := by rw [hpe.length_eq]; exact List.length_pos_of_mem hx
    have h1 := hm _ (hpe.mem_iff.1 (at_mem hl))
    obtain ⟨i, hi, e⟩ := List.getElem_of_mem (hpe.mem_iff.2 hx)
    have h2 := ord_first ho i i (Nat.le_refl _) hi
    rw [at_get hi, e] at h2
    have hq := ltB_total h2 h1
    rw [hq]
    exact top_some hb g cap bm D es w m ⟨trivial, .inr ⟨g, cap, bm, D, es, m, trivial, trivial, ho, List.Perm.refl _⟩⟩ hl

/-- the first one, or the zero job -/
def hdJ (L : List Jb) : Jb := L.headD zJ

set_option maxHeartbeats 2000000 in
theorem first_fresh (sb : Nat) (w : World) (blk : w.heap[sb]? = some (.cells #[.pointer none, .map none] 51 (0, 0))) :
    Calls Try.prog 15 #[.pointer (some ⟨sb, 0, none⟩)] w fun e w' => e = .returned (.tuple #[.agg #[.int .i64 zJ.t, .int .i64 zJ.r, .int .i64 zJ.d, .int .i64 zJ.l, .int .i64 zJ.x, .bool zJ.s], .bool false]) ∧ Kp w w' := by
  have h0 : w.cell? ⟨sb, 0, none⟩ = some (.pointer none) := by simp [World.cell?, blk]
  have h1 : w.cell? ⟨sb, 1, none⟩ = some (.map none) := by simp [World.cell?, blk]
  have z0 := lt_of_block blk
  have hl : ∀ w, (Instr.lookup 49 (.map none) (.int .i64 0) false).run Try.prog w = .ok (.agg #[.int .i64 zJ.t, .int .i64 zJ.r, .int .i64 zJ.d, .int .i64 zJ.l, .int .i64 zJ.x, .bool zJ.s]) w := fun w => look_zero w (x := 0) ⟨by omega, by omega⟩ false
  have hb2 : Hid (BJ (w.alloc (.cells #[.int .i64 zJ.t, .int .i64 zJ.r, .int .i64 zJ.d, .int .i64 zJ.l, .int .i64 zJ.x, .bool zJ.s] 27)) w.heap.size zJ) := bj_new w zJ
  simp only [zJ] at hl
  go_enter Try.func15, Try.ntmps15
  go_wp2_with (first
    | (go_at_call 25; refine (top_none _).mono ?_; rintro e w1 ⟨rfl, rfl⟩)
    | fail)
  exact bodyPost_ret (results_first _ _ w.heap.size zJ rfl hb2.out) rfl ⟨rfl, (Step.refl _ w).alloc _⟩

set_option maxHeartbeats 2000000 in
theorem first_none (sb hb bm : Nat) (B : Nat → Prop) (D : DataW Unit) (w : World) (m : SMem w sb hb bm B D []) :
    Calls Try.prog 15 #[.pointer (some ⟨sb, 0, none⟩)] w fun e w' => e = .returned (.tuple #[.agg #[.int .i64 zJ.t, .int .i64 zJ.r, .int .i64 zJ.d, .int .i64 zJ.l, .int .i64 zJ.x, .bool zJ.s], .bool false]) ∧ Kp w w' := by
  have h0 := m.h0
  have h1 := m.h1
  have z0 := m.ltT
  have hn := m.nodup
  have n0 : W64 0 := ⟨by omega, by omega⟩
  have hb2 : Hid (BJ (w.alloc (.cells #[.int .i64 zJ.t, .int .i64 zJ.r, .int .i64 zJ.d, .int .i64 zJ.l, .int .i64 zJ.x, .bool zJ.s] 27)) w.heap.size zJ) := bj_new w zJ
  have k1 : Hid (∀ o, Kp w (w.alloc o)) := fun o => (Step.refl _ w).alloc o
  go_enter Try.func15, Try.ntmps15
  go_wp2_with (first
    | (go_at_call 25; refine (top_nil hb B _ (m.rep.kept (k1.out _) (fun _ _ _ q => q))).mono ?_; rintro e w1 ⟨rfl, rfl⟩)
    | (at_lookup; refine wpList_job _ rfl _ _ rfl bm _ D [] rfl (by exact m.map.alloc _) m.ties hn 0 rfl n0 zJ rfl ?_; simp only [zJ])
    | fail)
  exact bodyPost_ret (results_first _ _ w.heap.size zJ rfl hb2.out) rfl ⟨rfl, (Step.refl _ w).alloc _⟩

set_option maxHeartbeats 2000000 in
theorem first_some (sb hb bm : Nat) (B : Nat → Prop) (D : DataW Unit) (j : Jb) (r : List Jb) (w : World) (m : SMem w sb hb bm B D (j :: r)) :
    Calls Try.prog 15 #[.pointer (some ⟨sb, 0, none⟩)] w fun e w' => e = .returned (.tuple #[.agg #[.int .i64 j.t, .int .i64 j.r, .int .i64 j.d, .int .i64 j.l, .int .i64 j.x, .bool j.s], .bool true]) ∧ Kp w w' := by
  have h0 := m.h0
  have h1 := m.h1
  have z0 := m.ltT
  have hn := m.nodup
  have hw := (m.wf j (by simp)).1
  have hj : Hid (jobOf (j :: r) j.t = j) := jobOf_mem hn (by simp)
  have k1 : Hid (∀ o, Kp w (w.alloc o)) := fun o => (Step.refl _ w).alloc o
  have HT : Hid (∀ W, Rep W hb B (prs (j :: r)) → Calls Try.prog 25 #[.pointer (some ⟨hb, 0, none⟩)] W fun e w' => e = .returned (.tuple #[.int .i64 j.t, .int .i64 j.d, .bool true]) ∧ Step (fun _ => False) W w') :=
    fun W hr => top_least hb B (prs (j :: r)) (pr j) W hr (by simp [prs]) (sj_head m.sj)
  have zc : Hid (∀ W, Step (fun _ => False) (w.alloc (.cells #[.int .i64 0, .int .i64 0, .int .i64 0, .int .i64 0, .int .i64 0, .bool false] 27)) W → BJ W w.heap.size zJ) := fun W k => (bj_new w zJ).kp k
  go_enter Try.func15, Try.ntmps15
  go_wp2_with (first
    | (go_at_call 25; refine (HT.out _ (m.rep.kept (k1.out _) (fun _ _ _ q => q))).mono ?_; rintro e w1 ⟨rfl, k2⟩; have k3 : Kp w w1 := Step.trans (k1.out _) k2; have m1 := m.kp k3; have b1 := zc.out _ k2; have q1 := m1.h1; have q20 := b1.fr 0; have q21 := b1.fr 1; have q22 := b1.fr 2; have q23 := b1.fr 3; have q24 := b1.fr 4; have q25 := b1.fr 5; obtain ⟨y0, y1, y2, y3, y4, y5⟩ := b1.all)
    | (at_lookup; refine wpList_job _ rfl _ _ rfl bm _ D (j :: r) rfl (by exact m1.map) m1.ties hn j.t rfl hw j hj.out ?_)
    | fail)
  have b2 : BJ ((((((w1.setCell ⟨w.heap.size, 0, none⟩ (.int .i64 j.t)).setCell ⟨w.heap.size, 1, none⟩ (.int .i64 j.r)).setCell ⟨w.heap.size, 2, none⟩ (.int .i64 j.d)).setCell ⟨w.heap.size, 3, none⟩ (.int .i64 j.l)).setCell ⟨w.heap.size, 4, none⟩ (.int .i64 j.x)).setCell ⟨w.heap.size, 5, none⟩ (.bool j.s)) w.heap.size j := b1.setAll j
  exact bodyPost_ret (results_first _ _ w.heap.size j rfl b2) rfl ⟨rfl, kp_setJ k3 (Nat.le_refl _) j⟩

/-- First, whatever there is -/
theorem first_any (sb : Nat) (A : Nat → Prop) (L : List Jb) (w : World) (h : SRep w sb A L) (j : Jb) (hj : hdJ L = j) :
    Calls Try.prog 15 #[.pointer (some ⟨sb, 0, none⟩)] w fun e w' => e = .returned (.tuple #[.agg #[.int .i64 j.t, .int .i64 j.r, .int .i64 j.d, .int .i64 j.l, .int .i64 j.x, .bool j.s], .bool (decide (0 < L.length))]) ∧ Kp w w' := by
  rcases h.2 with ⟨rfl, h2⟩ | ⟨hb, bm, B, D, m, am, aB⟩
  · subst hj
    exact (first_fresh sb w h2).mono fun e w' ⟨he, k⟩ => ⟨he, k⟩
  · subst hj
    cases L with
    | nil => exact (first_none sb hb bm B D w m).mono fun e w' ⟨he, k⟩ => ⟨he, k⟩
    | cons a r => exact (first_some sb hb bm B D a r w m).mono fun e w' ⟨he, k⟩ => ⟨by rw [he, decide_eq_true (show 0 < (a :: r).length by simp)]; rfl, k⟩

/-! ### a set that is none -/

theorem put_none (j : Jb) (w : World) :
    Calls Try.prog 9 #[.pointer none, .agg #[.int .i64 j.t, .int .i64 j.r, .int .i64 j.d, .int .i64 j.l, .int .i64 j.x, .bool j.s]] w fun e w' => e = .returned (.tuple #[]) ∧ Kp w w' := by
  have HA : Hid (∀ o, Kp w (w.alloc o)) := fun o => (Step.refl _ w).alloc o
  go_enter Try.func9, Try.ntmps9
  go_wp2
  exact bodyPost_ret (v := .tuple #[]) (by simp [results, Try.results9, go_sem]) rfl ⟨rfl, HA.out _⟩

theorem drop_none' (x : Int) (w : World) :
    Calls Try.prog 12 #[.pointer none, .int .i64 x] w fun e w' => e = .returned (.bool false) ∧ w = w' := by
  go_enter Try.func12, Try.ntmps12
  go_wp2
  go_ret
  exact ⟨rfl, rfl⟩

theorem get_none (x : Int) (w : World) :
    Calls Try.prog 13 #[.pointer none, .int .i64 x] w fun e w' => e = .returned (.tuple #[.agg #[.int .i64 zJ.t, .int .i64 zJ.r, .int .i64 zJ.d, .int .i64 zJ.l, .int .i64 zJ.x, .bool zJ.s], .bool false]) ∧ Kp w w' := by
  have hb2 : Hid (BJ (w.alloc (.cells #[.int .i64 zJ.t, .int .i64 zJ.r, .int .i64 zJ.d, .int .i64 zJ.l, .int .i64 zJ.x, .bool zJ.s] 27)) w.heap.size zJ) := bj_new w zJ
  go_enter Try.func13, Try.ntmps13
  go_wp2
  exact bodyPost_ret (results_get _ _ w.heap.size zJ rfl hb2.out) rfl ⟨rfl, (Step.refl _ w).alloc _⟩

theorem first_nil (w : World) :
    Calls Try.prog 15 #[.pointer none] w fun e w' => e = .returned (.tuple #[.agg #[.int .i64 zJ.t, .int .i64 zJ.r, .int .i64 zJ.d, .int .i64 zJ.l, .int .i64 zJ.x, .bool zJ.s], .bool false]) ∧ Kp w w' := by
  have hb2 : Hid (BJ (w.alloc (.cells #[.int .i64 zJ.t, .int .i64 zJ.r, .int .i64 zJ.d, .int .i64 zJ.l, .int .i64 zJ.x, .bool zJ.s] 27)) w.heap.size zJ) := bj_new w zJ
  go_enter Try.func15, Try.ntmps15
  go_wp2
  exact bodyPost_ret (results_first _ _ w.heap.size zJ rfl hb2.out) rfl ⟨rfl, (Step.refl _ w).alloc _⟩

end Go.Proofs.Ytphaedkmijdphaa.RD
