/- What List and Last of a set answer. -/
import Derived.Test.YtphaedkmijdphaaRdyGet
import Derived.Test.YtphaedkmijdphaaRdySrt
namespace Go.Proofs.Ytphaedkmijdphaa.RD
open Go.ChangeShapes Go.WideShapes Go.ChangeAt Go.RowKit Go.Proofs.Ytphaedkmijdphaa.AR Go.Proofs.Ytphaedkmijdphaa.HP Go.Maps Go.Proofs.Ytphaedkmijdphaa.HM Go.Proofs.Ytphaedkmijdphaa.HW

/-- those that have come -/
def gone (L : List Jb) (left : Lit → Bool) : List Jb := L.filter fun i => !left (ky i.t)

theorem same_ky (a b : Int) : (ky a).sameKey (ky b) = (a == b) := by
  by_cases e : a = b
  · subst e; rw [WideAt.sameKey_self (ik _)]; simp
  · rw [Maps.sameKey_ne (ky_ne e)]; simp [e]

theorem gone_step {L M : List Jb} {left : Lit → Bool} {j : Jb} (hn : (tks L).Nodup) (hj : j ∈ L) (hl : left (ky j.t) = true) (h : M.Perm (gone L left)) :
    (M ++ [j]).Perm (gone L fun z => left z && !z.sameKey (ky j.t)) := by
  obtain ⟨A, C, rfl⟩ := List.append_of_mem hj
  have hA : ∀ i ∈ A, i.t ≠ j.t := fun i hi e => by
    have hn' : (tks A ++ j.t :: tks C).Nodup := by simpa [tks] using hn
    rw [List.nodup_append] at hn'
    exact hn'.2.2 i.t (List.mem_map_of_mem hi) j.t (by simp) e
  have hC : ∀ i ∈ C, i.t ≠ j.t := fun i hi e => by
    have hn' : (tks A ++ j.t :: tks C).Nodup := by simpa [tks] using hn
    rw [List.nodup_append, List.nodup_cons] at hn'
    exact hn'.2.1.1 (by rw [← e]; exact List.mem_map_of_mem hi)
  have f : ∀ X : List Jb, (∀ i ∈ X, i.t ≠ j.t) → X.filter (fun i => !(left (ky i.t) && !(ky i.t).sameKey (ky j.t))) = X.filter fun i => !left (ky i.t) := fun X hX => by
    refine List.filter_congr fun i hi => ?_
    rw [same_ky, beq_eq_false_iff_ne.2 (hX i hi)]
    simp
  unfold gone at *
  rw [List.filter_append, List.filter_cons] at h ⊢
  rw [f A hA, f C hC]
  rw [if_neg (by simp [hl])] at h
  rw [if_pos (by simp [same_ky])]
  refine (List.perm_append_singleton j M).trans ?_
  exact (List.Perm.cons j h).trans List.perm_middle.symm

theorem gone_all {L : List Jb} {left : Lit → Bool} (h : ∀ kl, left kl = false) : gone L left = L := List.filter_eq_self.2 fun i _ => by simp [h]
theorem gone_none {L : List Jb} {D : DataW Unit} (h : TiesJ D L) : gone L (Maps.has D) = [] := by
  unfold gone
  rw [List.filter_eq_nil_iff]
  intro i hi
  simp [(h.get i hi).1]

/-- the list so far, the map gone through so far -/
def Gath (w wr : World) (bm r : Nat) (D : DataW Unit) (L : List Jb) (left : Lit → Bool) (cnt : Nat) (M : List Jb) (v : Value) : Prop :=
  wr.ranges Try.prog 3 jobElem bm r L.length D left cnt ∧ Ls wr w.heap.size v M ∧ v.ownBlock.isSome ∧ M.Perm (gone L left) ∧ Kp w wr

theorem row_iter {wr : World} {base bm r n : Nat} {D : DataW Unit} {left : Lit → Bool} {cnt : Nat} {v : Value} {M : List Jb} (h : wr.ranges Try.prog 3 jobElem bm r n D left cnt) (l : Ls wr base v M) {g : Nat} (hg : v.ownBlock = some g) : r ≠ g ∧ bm ≠ g := by
  rcases l.row.2 with ⟨rfl, _⟩ | ⟨g', cap, cur, rfl, _, hb, _⟩
  · simp [Value.ownBlock] at hg
  · simp [Value.ownBlock] at hg
    subst hg
    obtain ⟨es, clock, since, seen, c0, hbm, _, _, _, hr, _⟩ := h
    exact ⟨fun e => (by rw [e, hb] at hr; cases hr), fun e => (by rw [e, hb] at hbm; cases hbm)⟩

theorem Gath.out {w wr : World} {bm r : Nat} {D : DataW Unit} {L : List Jb} {left : Lit → Bool} {cnt : Nat} {M : List Jb} {v : Value} (h : Gath w wr bm r D L left cnt M v) :
    ∃ g cap, v = .slice (some ⟨g, 0, none⟩) M.length cap ∧ w.heap.size ≤ g ∧ Ls wr w.heap.size (.slice (some ⟨g, 0, none⟩) M.length cap) M ∧ M.Perm (gone L left) ∧ Kp w wr := by
  obtain ⟨_, l, hs, hp, k⟩ := h
  rcases l.row.2 with ⟨rfl, _⟩ | ⟨g, cap, cur, rfl, hb, _⟩
  · simp [Value.ownBlock] at hs
  · exact ⟨g, cap, rfl, hb, l, hp, k⟩

/-- one more -/
theorem Gath.more {w wr w3 w4 : World} {bm r cnt3 g4 cap4 : Nat} {D : DataW Unit} {L : List Jb} {left : Lit → Bool} {cnt : Nat} {M : List Jb} {v : Value} {j : Jb} {o1 o2 : Obj} (h : Gath w wr bm r D L left cnt M v)
    (hn : (tks L).Nodup) (hj : j ∈ L) (hl : left (ky j.t) = true) (hlen : L.length ≤ 2932031007402) (hM : M.length < L.length)
    (hrg3 : w3.ranges Try.prog 3 jobElem bm r L.length D (fun z => left z && !z.sameKey (ky j.t)) cnt3) (hs3 : Step (fun k => k = r) wr w3) (hr : w.heap.size ≤ r)
    (row4 : w4.ownsRow w.heap.size 27 6 (.slice (some ⟨g4, 0, none⟩) (M.length + 1) cap4) (M.length + 1) (flatJ (M ++ [j]))) (hg4 : ((w3.alloc o1).alloc o2).grownBy w4 v.ownBlock) :
    Gath w w4 bm r D L (fun z => left z && !z.sameKey (ky j.t)) cnt3 (M ++ [j]) (.slice (some ⟨g4, 0, none⟩) (M.length + 1) cap4) := by
  obtain ⟨hrg, l, hs, hp, k⟩ := h
  have hne := fun g (hg : v.ownBlock = some g) => row_iter hrg l hg
  have k3 : Kp w w3 := Step.trans_new k hs3 (fun i hi q => by omega)
  have k34 : Step (fun k => v.ownBlock = some k) w3 w4 := (((Step.refl _ w3).alloc o1).alloc o2).grown hg4 (fun k hk => hk)
  refine ⟨((hrg3.alloc o1).alloc o2).kept hg4 ?_ ?_, ⟨by rw [List.length_append]; exact row4, by simp; omega⟩, rfl, gone_step hn hj hl hp, Step.trans_new k3 k34 (fun i hi q => ?_)⟩
  · cases q : v.ownBlock with
    | none => simp
    | some g => have := (hne g q).2; simp; omega
  · cases q : v.ownBlock with
    | none => simp
    | some g => have := (hne g q).1; simp; omega
  · have := (l.row.lt i q).1
    omega

set_option maxHeartbeats 4000000 in
theorem list_old (sb hb bm : Nat) (B : Nat → Prop) (D : DataW Unit) (L : List Jb) (w : World) (m : SMem w sb hb bm B D L) (hlen : L.length ≤ 2932031007402) :
    Calls Try.prog 20 #[.pointer (some ⟨sb, 0, none⟩)] w fun e w' => ∃ v, e = .returned v ∧ Ls w' w.heap.size v L ∧ Kp w w' := by
  obtain ⟨i0, hi, hz0, hz1, hz2⟩ := info_parts jb_info
  have h1 := m.h1
  have z0 := m.ltT
  have z1 := m.ltB
  have HN : Hid ((tks L).Nodup) := m.nodup
  have HSJ : Hid (SJ L) := m.sj
  have HSZ : Hid (Maps.size D = L.length) := m.ties.size
  go_enter Try.func20, Try.ntmps20
  go_wp2_with (first
    | (at_len; refine wpList_len_own _ rfl _ 49 rfl 3 27 Try.underlying49 jobElem bm _ D rfl m.map ?_; rw [HSZ.out])
    | (at_make; refine wpList_make_own _ rfl _ _ 25 rfl w.heap.size 27 i0 _ 6 Try.underlying25 hi hz0 hz1 .i64 .i64 (L.length : Int) L.length rfl rfl rfl (by rw [hz2]; omega) (by unfold maxLen; omega) (Nat.le_refl _) ?_; intro w1 row1 hg1; have K1 : Kp w w1 := ⟨hg1.os, hg1.tape, hg1.output, hg1.size, fun k hk _ => hg1.block k hk (by simp)⟩; have m1 := m.kp K1; have q1 := m1.h1)
    | (at_range; refine wpList_range_own _ rfl _ 49 rfl 3 27 law3 Try.underlying49 jobElem bm _ D rfl m1.map ?_; intro w2 hrg2 hg2 hs2)
    | fail)
  go_frame
  have K2 : Kp w w2 := Kp.grown K1 hg2
  have L1 : Ls w1 w.heap.size (.slice (some ⟨w.heap.size, 0, none⟩) 0 L.length) [] := ⟨row1, by simp⟩
  have L2 := L1.kept ((Step.refl (fun _ => False) w1).grown hg2 (fun _ q => by simp at q)) (fun _ _ q => q)
  have G2 : Hid (Gath w w2 bm w1.heap.size D L (Maps.has D) (Maps.size D) [] (.slice (some ⟨w.heap.size, 0, none⟩) 0 L.length)) := ⟨hrg2, L2, rfl, by rw [gone_none m.ties], K2⟩
  clear L1 L2 hrg2 hg2 hs2 row1 hg1 q1 m1 h1
  have hr0 := K1.size
  generalize w1.heap.size = r at G2 hr0 ⊢
  clear K1 K2
  go_loopw [3] (fun v wr => ∃ (left : Lit → Bool) (cnt : Nat) (M : List Jb), Hid (Gath w wr bm r D L left cnt M v)) (fun _ wr => wr.rangeLeft bm r)
  case atStart => exact ⟨_, _, _, G2⟩
  case round =>
    obtain ⟨left, cnt, M, G⟩ := hrel
    have hrg := G.out.1
    go_wp2_with (first
      | (at_next; refine wpList_next_jobs _ rfl _ rfl bm r L.length D L m.ties left cnt rfl hrg ?_ ?_)
      | fail)
    · intro hall
      obtain ⟨g, cap, rfl, hbg, l, hp, kp⟩ := Gath.out G.out
      rw [gone_all hall] at hp
      have HP : Hid (M.Perm L) := hp
      have HNM : Hid ((tks M).Nodup) := (hp.map Jb.t).nodup_iff.2 HN.out
      clear hrg G hp
      go_wp2_with (first
        | (go_at_call 26; refine (sort_any w.heap.size g cap M _ l HNM.out).mono ?_; rintro e w4 ⟨rfl, M', sj', hp', l', s'⟩)
        | fail)
      have e : M' = L := sj_unique sj' HSJ.out (hp'.trans HP.out)
      subst e
      go_ret
      exact ⟨_, rfl, l', Step.trans_new kp s' (fun i hi q => by omega)⟩
    · intro j w3 cnt3 hj hlj hrg3 hlt3 hs3 hz3 hen
      clear hz3
      obtain ⟨g, cap, rfl, hbg, ll0, hp0, kp0⟩ := Gath.out G.out
      have hne := row_iter hrg ll0 (g := g) rfl
      have hold : wr.rangeLeft bm r = cnt := hrg.left_eq
      have ll := ll0.kept hs3 (fun k hk e => by simp [Value.ownBlock] at hk; exact hne.1 (by omega))
      have hML : M.length < L.length := by
        have h1 := gone_step HN.out hj hlj G.out.2.2.2.1
        have h2 := h1.length_eq
        have h3 : (gone L fun z => left z && !z.sameKey (ky j.t)).length ≤ L.length := List.length_filter_le _ _
        simp at h2
        omega
      have hb3 : w.heap.size ≤ w3.heap.size := Nat.le_trans G.out.2.2.2.2.size hs3.size
      have HG : Hid (Gath w wr bm r D L left cnt M (.slice (some ⟨g, 0, none⟩) M.length cap)) := G
      clear hrg G
      go_wp2_with (first
        | (at_builtin; refine wpList_append_six _ rfl _ _ 25 27 rfl Try.underlying25 jb_info w.heap.size (.slice (some ⟨g, 0, none⟩) M.length cap) M rfl (by exact (ll.row.alloc _).alloc _) (w3.heap.size + 1) j rfl (by have := alloc_at (w3.alloc (.cells #[.int .i64 j.t, .int .i64 j.r, .int .i64 j.d, .int .i64 j.l, .int .i64 j.x, .bool j.s] 27)) (.cells #[.int .i64 j.t, .int .i64 j.r, .int .i64 j.d, .int .i64 j.l, .int .i64 j.x, .bool j.s] 27); simpa using this) (by omega) (by simp; omega) ?_; intro g4 cap4 w4 row4 hg4 hloc4)
        | fail)
      have G4 := Gath.more HG.out HN.out hj hlj hlen hML hrg3 hs3 hr0 row4 hg4
      exact ⟨⟨_, _, _, G4⟩, by rw [G4.1.left_eq, hold]; exact hlt3⟩

set_option maxHeartbeats 4000000 in
theorem list_fresh (sb : Nat) (w : World) (blk : w.heap[sb]? = some (.cells #[.pointer none, .map none] 51 (0, 0))) :
    Calls Try.prog 20 #[.pointer (some ⟨sb, 0, none⟩)] w fun e w' => ∃ v, e = .returned v ∧ Ls w' w.heap.size v [] ∧ Kp w w' := by
  obtain ⟨i0, hi, hz0, hz1, hz2⟩ := info_parts jb_info
  have h1 : w.cell? ⟨sb, 1, none⟩ = some (.map none) := by simp [World.cell?, blk]
  have z0 := lt_of_block blk
  have hln : ∀ ty, (Builtin.len_ #[49] ty #[.map none]).run Try.prog w = .ok (.int .i64 0) w := fun ty => len_nil Try.underlying49 ty
  go_enter Try.func20, Try.ntmps20
  go_wp2_with (first
    | (at_make; refine wpList_make_own _ rfl _ _ 25 rfl w.heap.size 27 i0 _ 6 Try.underlying25 hi hz0 hz1 .i64 .i64 (0 : Int) 0 rfl rfl rfl (by rw [hz2]; omega) (by unfold maxLen; omega) (Nat.le_refl _) ?_; intro w1 row1 hg1; have K1 : Kp w w1 := ⟨hg1.os, hg1.tape, hg1.output, hg1.size, fun k hk _ => hg1.block k hk (by simp)⟩; have blk1 := (K1.block sb z0 (fun q => q)).trans blk; have q1 : w1.cell? ⟨sb, 1, none⟩ = some (.map none) := (by simp [World.cell?, blk1]); have hrg := run_range_nilMap (P := Try.prog) w1 49 3 27 Try.underlying49; have hnx : ∀ ty, (Instr.next (.pointer (some ⟨w1.heap.size, 0, none⟩)) false ty).run Try.prog (w1.alloc (.mapIter none 0 #[] 0)) = .ok (.tuple #[.bool false]) (w1.alloc (.mapIter none 0 #[] 0)) := fun ty => run_next_nilMap w1 ty 0 0 #[])
    | fail)
  have l1 : Ls w1 w.heap.size (.slice (some ⟨w.heap.size, 0, none⟩) ([] : List Jb).length 0) [] := ⟨row1, by simp⟩
  have HS : Hid (Calls Try.prog 26 #[.slice (some ⟨w.heap.size, 0, none⟩) 0 0, .func (.func 27) #[] #[]] (w1.alloc (.mapIter none 0 #[] 0)) fun e w' => e = .returned (.tuple #[]) ∧ Ls w' w.heap.size (.slice (some ⟨w.heap.size, 0, none⟩) 0 0) [] ∧ Kp w w') := by
    refine (sort_any w.heap.size w.heap.size 0 [] _ (l1.kp ((Step.refl _ _).alloc _)) (by simp [tks])).mono ?_
    rintro e w' ⟨rfl, M, _, hp, l, s⟩
    obtain rfl : M = [] := List.Perm.eq_nil hp
    exact ⟨rfl, l, Step.trans_new (Step.alloc K1 _) s (fun i hi q => by omega)⟩
  refine wp_loop_rounds 1 ?_
  rw [rounds_succ]
  go_wp2_with (first
    | (go_at_call 26; refine HS.out.mono ?_; rintro e w4 ⟨rfl, l4, k4⟩)
    | fail)
  go_ret
  exact ⟨_, rfl, l4, k4⟩

/-- List, whatever there is -/
theorem list_any (sb : Nat) (A : Nat → Prop) (L : List Jb) (w : World) (h : SRep w sb A L) (hl : L.length ≤ 2932031007402) :
    Calls Try.prog 20 #[.pointer (some ⟨sb, 0, none⟩)] w fun e w' => ∃ v, e = .returned v ∧ Ls w' w.heap.size v L ∧ Kp w w' := by
  rcases h.2 with ⟨rfl, h2⟩ | ⟨hb, bm, B, D, m, am, aB⟩
  · exact list_fresh sb w h2
  · exact list_old sb hb bm B D L w m hl

theorem list_none (w : World) :
    Calls Try.prog 20 #[.pointer none] w fun e w' => e = .returned (.slice none 0 0) ∧ w = w' := by
  go_enter Try.func20, Try.ntmps20
  go_wp2
  go_ret
  exact ⟨rfl, rfl⟩

/-- the last one's deadline -/
def lstD (L : List Jb) : Int := if 0 < L.length then (atJ L (L.length - 1)).d else 0

theorem last_ix {L : List Jb} (hl : L.length ≤ 2932031007402) (hp : 0 < L.length) : ∃ n, n < L.length ∧ L.length - 1 = n ∧ IntKind.i64.wrap ((L.length : Int) - 1) = (n : Int) ∧ (0 : Int) ≤ (n : Int) ∧ (n : Int) < (L.length : Int) ∧ ((n : Int)).toNat = n ∧ ((L.length : Int) == 0) = false ∧ wrap64 ((L.length : Int) - 1) = (n : Int) := by
  refine ⟨L.length - 1, by omega, rfl, ?_, by omega, by omega, by omega, by simp only [beq_eq_false_iff_ne]; omega, ?_⟩
  · rw [IntKind.wrap_i64]
    omega
  · rw [← IntWalk.i64_left, IntKind.wrap_i64]
    omega

set_option maxHeartbeats 4000000 in
theorem last_any (sb : Nat) (A : Nat → Prop) (L : List Jb) (w : World) (h : SRep w sb A L) (hl : L.length ≤ 2932031007402) :
    Calls Try.prog 17 #[.pointer (some ⟨sb, 0, none⟩)] w fun e w' => e = .returned (.int .i64 (lstD L)) ∧ Kp w w' := by
  have HL := list_any sb A L w h hl
  by_cases hp : 0 < L.length
  · have HE : Hid (lstD L = (atJ L (L.length - 1)).d) := if_pos hp
    rw [HE.out]
    clear HE
    obtain ⟨n, hn, e1, i0, i1, i2, i3, i4, i5⟩ := last_ix hl hp
    rw [e1]
    clear e1
    go_enter Try.func17, Try.ntmps17
    go_wp2_with (first
      | (go_at_call 20; refine HL.mono ?_; rintro e w1 ⟨v, rfl, l1, k1⟩; obtain ⟨g, cap, rfl, hbg, hg, _, hc⟩ := l1.pos hp; obtain ⟨d0, d1, d2, d3, d4, d5, _⟩ := hc n hn)
      | fail)
    go_ret
    exact ⟨rfl, k1⟩
  · have HE : Hid (lstD L = 0) := if_neg hp
    rw [HE.out]
    clear HE
    have hz : L.length = 0 := by omega
    obtain rfl : L = [] := List.length_eq_zero_iff.1 hz
    have HL2 : Hid (Calls Try.prog 20 #[.pointer (some ⟨sb, 0, none⟩)] w fun e w' => ∃ a c, e = .returned (.slice a 0 c) ∧ Kp w w') := HL.mono fun e w' ⟨v, he, l, k⟩ => by
      rcases l.cases with ⟨rfl, _⟩ | ⟨g, cap, rfl, _⟩
      · exact ⟨_, _, he, k⟩
      · exact ⟨_, _, he, k⟩
    go_enter Try.func17, Try.ntmps17
    go_wp2_with (first
      | (go_at_call 20; refine HL2.out.mono ?_; rintro e w1 ⟨a, c, rfl, k1⟩)
      | fail)
    go_ret
    exact ⟨rfl, k1⟩

theorem last_none (w : World) :
    Calls Try.prog 17 #[.pointer none] w fun e w' => e = .returned (.int .i64 0) ∧ w = w' := by
  go_enter Try.func17, Try.ntmps17
  go_wp2_with (first
    | (go_at_call 20; refine (list_none _).mono ?_; rintro e w1 ⟨rfl, rfl⟩)
    | fail)
  go_ret
  exact ⟨rfl, rfl⟩

end Go.Proofs.Ytphaedkmijdphaa.RD
