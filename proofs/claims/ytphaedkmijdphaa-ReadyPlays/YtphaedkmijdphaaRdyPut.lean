/- The document's PutJob: without the task's, the new one behind, and from there on to where it belongs. -/
import Derived.Test.YtphaedkmijdphaaRdyRef
namespace Go.Proofs.Ytphaedkmijdphaa.RD
open Go.ChangeShapes Go.WideShapes Go.ChangeAt Go.RowKit Go.Proofs.Ytphaedkmijdphaa.AR Go.Proofs.Ytphaedkmijdphaa.HP Go.Proofs.Ytphaedkmijdphaa.HM

/-- on its way -/
def midJ (D : List Jb) (j : Jb) (k : Nat) : List Jb := D.take k ++ j :: D.drop k

theorem midJ_len (D : List Jb) (j : Jb) (k : Nat) : (midJ D j k).length = D.length + 1 := by simp [midJ]; omega
theorem midJ_at {D : List Jb} {j : Jb} {k : Nat} (hk : k ≤ D.length) : atJ (midJ D j k) k = j := by
  have : (D.take k).length = k := by simp [hk]
  unfold midJ
  conv => lhs; rw [← this]
  simp [atJ]
theorem midJ_lt {D : List Jb} {j : Jb} {k q : Nat} (hk : k ≤ D.length) (hq : q < k) : atJ (midJ D j k) q = atJ D q := by
  unfold midJ
  rw [atJ_append_lt (by simp; omega)]
  unfold atJ
  rw [List.getD_eq_getElem?_getD, List.getD_eq_getElem?_getD, List.getElem?_take, if_pos hq]
theorem midJ_end (D : List Jb) (j : Jb) : midJ D j D.length = D ++ [j] := by simp [midJ]
theorem midJ_swp {D : List Jb} {j : Jb} {q : Nat} (hq : q < D.length) : ((midJ D j (q + 1)).set q j).set (q + 1) (atJ D q) = midJ D j q := by
  have hlq : (D.take q).length = q := by simp; omega
  have e2 : D.drop q = atJ D q :: D.drop (q + 1) := by rw [atJ_get hq]; exact List.drop_eq_getElem_cons hq
  unfold midJ
  rw [take_snocJ hq, e2, List.append_assoc, List.set_append_right _ _ (by rw [hlq]; omega), List.set_append_right _ _ (by rw [hlq]; omega), hlq]
  simp [show q + 1 - q = 1 from by omega]

theorem sj_ins {D : List Jb} {j : Jb} (h : SJ D) (hn : j.t ∉ tks D) : SJ (insJ j D) := by
  rw [sj_prs, prs_ins]
  exact ins_sorted _ _ (sj_prs.1 h) (by rw [ids_prs]; exact hn)

theorem midJ_stop {D : List Jb} {j : Jb} {k : Nat} (h : SJ D) (hn : j.t ∉ tks D) (hk : k ≤ D.length) (h1 : ∀ q, k ≤ q → q < D.length → ltJ j (atJ D q) = true) (h2 : k = 0 ∨ ltJ (atJ D (k - 1)) j = true) : midJ D j k = insJ j D := by
  refine sj_unique ?_ (sj_ins h hn) ?_
  · refine sj_ins_at (by rw [List.take_append_drop]; exact h) (fun a ha => ?_) ?_
    · obtain ⟨i, hi, rfl⟩ := List.getElem_of_mem ha
      have hi' : k + i < D.length := by simp at hi; omega
      have := h1 (k + i) (by omega) hi'
      rw [atJ_get hi'] at this
      simpa using this
    · rcases h2 with rfl | h2
      · left; simp
      · by_cases e : k = 0
        · left; subst e; simp
        · right
          refine ⟨D.take (k - 1), atJ D (k - 1), ?_, h2⟩
          have := take_snocJ (L := D) (k := k - 1) (by omega)
          rwa [show k - 1 + 1 = k from by omega] at this
  · exact List.perm_middle.trans ((List.Perm.cons j (by rw [List.take_append_drop])).trans (insJ_perm j D).symm)

/-- not behind it, of another task: ahead of it -/
theorem not_lt_other {D : List Jb} {j : Jb} {q : Nat} (hn : j.t ∉ tks D) (hq : q < D.length) (h : ltJ (atJ D q) j = false) : ltJ j (atJ D q) = true := by
  cases e : ltJ j (atJ D q) with
  | true => rfl
  | false =>
    have := ltB_total h e
    have e1 : (atJ D q).t = j.t := show (pr (atJ D q)).1 = (pr j).1 by rw [this]
    exact absurd (e1 ▸ List.mem_map_of_mem (atJ_mem hq)) hn

/-- under way -/
def Bub (w W : World) (D : List Jb) (j : Jb) (g cap k : Nat) : Prop := Ls W (w.heap.size + 1) (.slice (some ⟨g, 0, none⟩) (D.length + 1) cap) (midJ D j k) ∧ (∀ q, k ≤ q → q < D.length → ltJ j (atJ D q) = true) ∧ Kp w W ∧ w.heap.size + 1 ≤ g

theorem Bub.cells {w W : World} {D : List Jb} {j : Jb} {g cap q : Nat} (h : Bub w W D j g cap (q + 1)) (hq : q < D.length) :
    g < W.heap.size ∧ (∀ i, W.frozen? ⟨g, i, none⟩ = false) ∧ C6 W g (q * 6) (atJ D q) ∧ C6 W g ((q + 1) * 6) j := by
  obtain ⟨g', cap', e, _, hg, hfr, hc⟩ := h.1.pos (by rw [midJ_len]; omega)
  simp only [Value.slice.injEq, Option.some.injEq, Addr.mk.injEq, and_true] at e
  obtain ⟨rfl, _, rfl⟩ := e
  have c0 := hc q (by rw [midJ_len]; omega)
  have c1 := hc (q + 1) (by rw [midJ_len]; omega)
  rw [midJ_lt (by omega) (by omega)] at c0
  rw [midJ_at (by omega)] at c1
  exact ⟨hg, hfr, c0, c1⟩

/-- the two have changed places -/
theorem Bub.swap {w wr V : World} {D : List Jb} {j x : Jb} {g cap q : Nat} (h : Bub w wr D j g cap (q + 1)) (hq : q < D.length) (kV : Kp wr V) (hx : atJ D q = x) (hlt : ∀ i, q ≤ i → i < D.length → ltJ j (atJ D i) = true) :
    ∀ W1, (((((((((((((V.setCell ⟨g, q * 6, none⟩ (.int .i64 j.t)).setCell ⟨g, q * 6 + 1, none⟩ (.int .i64 j.r)).setCell ⟨g, q * 6 + 2, none⟩ (.int .i64 j.d)).setCell ⟨g, q * 6 + 3, none⟩ (.int .i64 j.l)).setCell ⟨g, q * 6 + 4, none⟩ (.int .i64 j.x)).setCell ⟨g, q * 6 + 5, none⟩ (.bool j.s)).setCell ⟨g, (q + 1) * 6, none⟩ (.int .i64 x.t)).setCell ⟨g, (q + 1) * 6 + 1, none⟩ (.int .i64 x.r)).setCell ⟨g, (q + 1) * 6 + 2, none⟩ (.int .i64 x.d)).setCell ⟨g, (q + 1) * 6 + 3, none⟩ (.int .i64 x.l)).setCell ⟨g, (q + 1) * 6 + 4, none⟩ (.int .i64 x.x)).setCell ⟨g, (q + 1) * 6 + 5, none⟩ (.bool x.s)).drew = W1 ∨ ((((((((((((V.setCell ⟨g, (q + 1) * 6, none⟩ (.int .i64 x.t)).setCell ⟨g, (q + 1) * 6 + 1, none⟩ (.int .i64 x.r)).setCell ⟨g, (q + 1) * 6 + 2, none⟩ (.int .i64 x.d)).setCell ⟨g, (q + 1) * 6 + 3, none⟩ (.int .i64 x.l)).setCell ⟨g, (q + 1) * 6 + 4, none⟩ (.int .i64 x.x)).setCell ⟨g, (q + 1) * 6 + 5, none⟩ (.bool x.s)).setCell ⟨g, q * 6, none⟩ (.int .i64 j.t)).setCell ⟨g, q * 6 + 1, none⟩ (.int .i64 j.r)).setCell ⟨g, q * 6 + 2, none⟩ (.int .i64 j.d)).setCell ⟨g, q * 6 + 3, none⟩ (.int .i64 j.l)).setCell ⟨g, q * 6 + 4, none⟩ (.int .i64 j.x)).setCell ⟨g, q * 6 + 5, none⟩ (.bool j.s)).drew = W1) → Bub w W1 D j g cap q := by
  intro W1 e
  subst hx
  have hl : (midJ D j (q + 1)).length = D.length + 1 := midJ_len _ _ _
  have k2 : Kp wr V := kV
  have l0 : Ls V (w.heap.size + 1) (.slice (some ⟨g, 0, none⟩) (midJ D j (q + 1)).length cap) (midJ D j (q + 1)) := by rw [hl]; exact h.1.kp k2
  have hs : Step (fun k => k = g) V W1 := by
    rcases e with rfl | rfl
    · exact Step.drew (((((((((((((Step.refl (fun k => k = g) _).setCell (p := ⟨g, _, none⟩) rfl _).setCell (p := ⟨g, _, none⟩) rfl _).setCell (p := ⟨g, _, none⟩) rfl _).setCell (p := ⟨g, _, none⟩) rfl _).setCell (p := ⟨g, _, none⟩) rfl _).setCell (p := ⟨g, _, none⟩) rfl _).setCell (p := ⟨g, _, none⟩) rfl _).setCell (p := ⟨g, _, none⟩) rfl _).setCell (p := ⟨g, _, none⟩) rfl _).setCell (p := ⟨g, _, none⟩) rfl _).setCell (p := ⟨g, _, none⟩) rfl _).setCell (p := ⟨g, _, none⟩) rfl _)
    · exact Step.drew (((((((((((((Step.refl (fun k => k = g) _).setCell (p := ⟨g, _, none⟩) rfl _).setCell (p := ⟨g, _, none⟩) rfl _).setCell (p := ⟨g, _, none⟩) rfl _).setCell (p := ⟨g, _, none⟩) rfl _).setCell (p := ⟨g, _, none⟩) rfl _).setCell (p := ⟨g, _, none⟩) rfl _).setCell (p := ⟨g, _, none⟩) rfl _).setCell (p := ⟨g, _, none⟩) rfl _).setCell (p := ⟨g, _, none⟩) rfl _).setCell (p := ⟨g, _, none⟩) rfl _).setCell (p := ⟨g, _, none⟩) rfl _).setCell (p := ⟨g, _, none⟩) rfl _)
  have hg := h.2.2.2
  refine ⟨?_, hlt, Step.trans_new (Step.trans h.2.2.1 k2) hs (fun i hi e => by omega), hg⟩
  rcases e with rfl | rfl
  · have l1 := l0.set (i := q) (by omega) j
    rw [show (midJ D j (q + 1)).length = ((midJ D j (q + 1)).set q j).length from by simp] at l1
    have l2 := l1.set (i := q + 1) (by simp; omega) (atJ D q)
    rw [midJ_swp hq] at l2
    rw [show ((midJ D j (q + 1)).set q j).length = D.length + 1 from by simp [hl]] at l2
    exact l2.kp (Step.drew (Step.refl _ _))
  · have l1 := l0.set (i := q + 1) (by omega) (atJ D q)
    rw [show (midJ D j (q + 1)).length = ((midJ D j (q + 1)).set (q + 1) (atJ D q)).length from by simp] at l1
    have l2 := l1.set (i := q) (by simp; omega) j
    rw [List.set_comm _ _ (by omega), midJ_swp hq] at l2
    rw [show ((midJ D j (q + 1)).set (q + 1) (atJ D q)).length = D.length + 1 from by simp [hl]] at l2
    exact l2.kp (Step.drew (Step.refl _ _))

theorem boxes (wr : World) (a b : Jb) : Kp wr (((wr.alloc (.cells #[.int .i64 a.t, .int .i64 a.r, .int .i64 a.d, .int .i64 a.l, .int .i64 a.x, .bool a.s] 27)).alloc (.cells #[.int .i64 b.t, .int .i64 b.r, .int .i64 b.d, .int .i64 b.l, .int .i64 b.x, .bool b.s] 27)).drew) ∧ BJ (((wr.alloc (.cells #[.int .i64 a.t, .int .i64 a.r, .int .i64 a.d, .int .i64 a.l, .int .i64 a.x, .bool a.s] 27)).alloc (.cells #[.int .i64 b.t, .int .i64 b.r, .int .i64 b.d, .int .i64 b.l, .int .i64 b.x, .bool b.s] 27)).drew) wr.heap.size a ∧ BJ (((wr.alloc (.cells #[.int .i64 a.t, .int .i64 a.r, .int .i64 a.d, .int .i64 a.l, .int .i64 a.x, .bool a.s] 27)).alloc (.cells #[.int .i64 b.t, .int .i64 b.r, .int .i64 b.d, .int .i64 b.l, .int .i64 b.x, .bool b.s] 27)).drew) (wr.heap.size + 1) b := by
  refine ⟨Step.drew (Step.alloc (Step.alloc (Step.refl _ _) _) _), ((bj_new wr a).kp (Step.alloc (Step.refl _ _) _)).kp (Step.drew (Step.refl _ _)), ?_⟩
  have := bj_new (wr.alloc (.cells #[.int .i64 a.t, .int .i64 a.r, .int .i64 a.d, .int .i64 a.l, .int .i64 a.x, .bool a.s] 27)) b
  have e : (wr.alloc (.cells #[.int .i64 a.t, .int .i64 a.r, .int .i64 a.d, .int .i64 a.l, .int .i64 a.x, .bool a.s] 27)).heap.size = wr.heap.size + 1 := by simp
  rw [e] at this
  exact this.kp (Step.drew (Step.refl _ _))

/-- behind the append -/
theorem got_of {w w3 w4 : World} {D : List Jb} {j : Jb} {v' : Value} {g4 cap4 : Nat} (l3 : Ls w3 (w.heap.size + 1) v' D) (k3 : Kp w w3) (b3 : BJ w3 w.heap.size j) (hl : D.length + 1 ≤ 2932031007402)
    (row4 : w4.ownsRow (w.heap.size + 1) 27 6 (.slice (some ⟨g4, 0, none⟩) (D.length + 1) cap4) (D.length + 1) (flatJ (D ++ [j]))) (hs : Step (fun k => v'.ownBlock = some k) w3 w4) :
    Bub w w4 D j g4 cap4 D.length ∧ BJ w4 w.heap.size j := by
  refine ⟨⟨⟨?_, ?_⟩, fun q h1 h2 => by omega, Step.trans_new k3 hs (fun i hi q => ?_), (row4.lt g4 rfl).1⟩, b3.kept hs (fun q => ?_)⟩
  · rw [midJ_end, List.length_append]; exact row4
  · rw [midJ_len]; omega
  · have := (l3.row.lt i q).1; omega
  · have := (l3.row.lt _ q).1; omega

set_option maxHeartbeats 4000000 in
theorem rput_any (base : Nat) (v : Value) (L : List Jb) (j : Jb) (w : World) (h : Ls w base v L) (hsj : SJ L) (hl : L.length + 1 ≤ 2932031007402) :
    Calls Try.prog 10 #[v, .agg #[.int .i64 j.t, .int .i64 j.r, .int .i64 j.d, .int .i64 j.l, .int .i64 j.x, .bool j.s]] w fun e w' => ∃ v', e = .returned v' ∧ Ls w' w.heap.size v' (putL L j) ∧ Kp w w' := by
  obtain ⟨D, hD⟩ : ∃ D, Hid (dropJ L j.t = D) := ⟨_, rfl⟩
  have HSJ : Hid (SJ D) := by show SJ D; rw [← hD.out]; exact sj_drop hsj
  have HN : Hid (j.t ∉ tks D) := by show j.t ∉ tks D; rw [← hD.out]; exact tks_drop
  have hdl : D.length + 1 ≤ 2932031007402 := by have := dropJ_len L j.t; rw [hD.out] at this; omega
  have HP : Hid (putL L j = insJ j D) := by show putL L j = _; unfold putL; rw [hD.out]
  obtain ⟨W0, HW⟩ : ∃ W0, Hid (W0 = w.alloc (.cells #[.int .i64 j.t, .int .i64 j.r, .int .i64 j.d, .int .i64 j.l, .int .i64 j.x, .bool j.s] 27)) := ⟨_, rfl⟩
  obtain ⟨bj, k0⟩ := box_new HW.out
  have hz0 : Hid (W0.heap.size = w.heap.size + 1) := by show W0.heap.size = _; rw [HW.out]; simp
  have HR : Hid (∀ W, Kp W0 W → Calls Try.prog 11 #[v, .int .i64 j.t] W fun e w' => ∃ v', e = .returned v' ∧ Ls w' (w.heap.size + 1) v' D ∧ Kp W w') := by
    intro W k
    refine (rdrop_any base v L j.t W ((h.kp k0).kp k)).mono ?_
    rintro e w' ⟨v', he, l, k'⟩
    rw [hD.out] at l
    exact ⟨v', he, l.low (by have := k.size; have := hz0.out; omega), k'⟩
  have s0 : Kp W0 W0.drew := Step.drew (Step.refl _ _)
  have HB : Hid (∀ W, Kp W0 W → BJ W w.heap.size j ∧ Kp w W) := fun W k => ⟨bj.kp k, Step.trans k0 k⟩
  clear h hsj hD
  go_enter Try.func10, Try.ntmps10
  go_wp2_with fail
  rw [← HW.out]
  obtain ⟨p0, p1, p2, p3, p4, p5⟩ := bj.all
  have n0 := World.new_ne W0 ⟨w.heap.size, 0, none⟩ p0
  go_region_held3 (fun w' => w'.cell? ⟨w.heap.size, 0, none⟩ = some (.int .i64 j.t) ∧ w'.cell? ⟨w.heap.size, 1, none⟩ = some (.int .i64 j.r) ∧ w'.cell? ⟨w.heap.size, 2, none⟩ = some (.int .i64 j.d) ∧ w'.cell? ⟨w.heap.size, 3, none⟩ = some (.int .i64 j.l) ∧ w'.cell? ⟨w.heap.size, 4, none⟩ = some (.int .i64 j.x) ∧ w'.cell? ⟨w.heap.size, 5, none⟩ = some (.bool j.s)) (go_keep) (first
    | (go_at_call 11; refine (HR.out _ (by first | exact s0 | exact Step.drew (Step.alloc (Step.refl _ _) _))).mono ?_; rintro e w3 ⟨v', rfl, l3, k3⟩; (first | (have K3 : Kp W0.drew w3 := k3; have H3 := HB.out _ (Step.trans s0 K3)) | (have K3 : Kp (W0.alloc (.cells #[.int .i64 j.t, .int .i64 j.r, .int .i64 j.d, .int .i64 j.l, .int .i64 j.x, .bool j.s] 27)) w3 := ⟨k3.os, k3.tape, k3.output, k3.size, k3.block⟩; have b6 : w3.heap[W0.heap.size]? = some (.cells #[.int .i64 j.t, .int .i64 j.r, .int .i64 j.d, .int .i64 j.l, .int .i64 j.x, .bool j.s] 27 (0, 0)) := ((K3.block _ (by simp) (fun q => q)).trans (alloc_at W0 _)); have H3 := HB.out _ (Step.trans (Step.alloc (Step.refl _ W0) _) K3))); obtain ⟨o0, o1, o2, o3, o4, o5⟩ := H3.1.all; have n3 := World.new_ne w3 ⟨w.heap.size, 0, none⟩ o0)
    | (refine step_append_six _ rfl _ _ 25 27 rfl Try.underlying25 jb_info (w.heap.size + 1) v' D rfl (by exact l3.row) W0.heap.size j rfl (by exact b6) hdl (by have := H3.2.size; have := H3.1.lt; omega) ?_; intro g4 cap4 w4 row4 hg4 hloc4; have M4 := got_of l3 H3.2 H3.1 hdl row4 ((Step.refl _ w3).grown ⟨hg4.os, hg4.tape, hg4.output, hg4.size, hg4.block⟩ (fun k hk => hk)); obtain ⟨r0, r1, r2, r3, r4, r5⟩ := M4.2.all)
    | (refine step_append_six _ rfl _ _ 25 27 rfl Try.underlying25 jb_info (w.heap.size + 1) v' D rfl (by exact l3.row.alloc _) w3.heap.size j rfl (by exact alloc_at w3 _) hdl (by have := H3.1.lt; simp; omega) ?_; intro g4 cap4 w4 row4 hg4 hloc4; have M4 := got_of l3 H3.2 H3.1 hdl row4 (((Step.refl _ w3).alloc _).grown ⟨hg4.os, hg4.tape, hg4.output, hg4.size, hg4.block⟩ (fun k hk => hk)); obtain ⟨r0, r1, r2, r3, r4, r5⟩ := M4.2.all)
    | fail)
  all_goals
    have G0 : Hid (Bub w w4 D j g4 cap4 D.length) := M4.1
    have hw1 : IntKind.i64.wrap ((D.length : Int) + 1 - 1) = D.length := by rw [IntKind.wrap_i64]; omega
    have hw2 : wrap64 ((D.length : Int) + 1 - 1) = D.length := by rw [← IntWalk.i64_left, IntKind.wrap_i64]; omega
    clear r0 r1 r2 r3 r4 r5 M4 hg4 hloc4 row4 l3 k3 H3 o0 o1 o2 o3 o4 o5 n3 p0 p1 p2 p3 p4 p5 n0 HB HR s0 bj
    go_wp2
    go_loopw [6] (fun i wr => ∃ k : Nat, k ≤ D.length ∧ i = .int .i64 k ∧ Hid (Bub w wr D j g4 cap4 k)) (fun i _ => (intOf i).toNat)
    case atStart => exact ⟨D.length, Nat.le_refl _, rfl, G0⟩
    case round =>
      obtain ⟨k, hk, rfl, G⟩ := hrel
      by_cases hz : k = 0
      · subst hz
        have HE : Hid (midJ D j 0 = insJ j D) := midJ_stop HSJ.out HN.out (Nat.zero_le _) G.out.2.1 (.inl rfl)
        go_wp2
        go_ret
        refine ⟨_, rfl, ?_, G.out.2.2.1⟩
        have l := G.out.1
        rw [HE.out, ← HP.out] at l
        exact l.low (by omega)
      · obtain ⟨q, rfl⟩ : ∃ q, k = q + 1 := ⟨k - 1, by omega⟩
        have hq : q < D.length := by omega
        obtain ⟨hg, hfr, ca, cb⟩ := G.out.cells hq
        have hst : Hid (ltJ (atJ D q) j = true → midJ D j (q + 1) = insJ j D) := fun e => midJ_stop HSJ.out HN.out hk G.out.2.1 (.inr e)
        have hgo : Hid (ltJ (atJ D q) j = false → ∀ i, q ≤ i → i < D.length → ltJ j (atJ D i) = true) := fun e i h1 h2 => by
          by_cases e2 : i = q
          · subst e2; exact not_lt_other HN.out h2 e
          · exact G.out.2.1 i (by omega) h2
        obtain ⟨x, hx⟩ : ∃ x, Hid (atJ D q = x) := ⟨_, rfl⟩
        rw [hx.out] at ca
        have HL : Hid (ltJ (atJ D q) j = decide (x.d < j.d ∨ (x.d = j.d ∧ x.t < j.t))) := by show ltJ (atJ D q) j = _; rw [hx.out]; rfl
        have HC : Hid (∀ W', Kp wr W' → C6 W' g4 (q * 6) x ∧ C6 W' g4 ((q + 1) * 6) j) := fun W' k => ⟨ca.kept k (fun q => q), cb.kept k (fun q => q)⟩
        obtain ⟨a0, a1, a2, a3, a4, a5, _⟩ := ca
        obtain ⟨b0, b1, b2, b3, b4, b5, _⟩ := cb
        have i1 : (q : Int) + 1 < (D.length : Int) + 1 := by omega
        have i2 : (q : Int) < (D.length : Int) + 1 := by omega
        have t1 : ((q : Int) + 1).toNat = q + 1 := by omega
        have t2 : ((q : Int)).toNat = q := by omega
        have p1 : (0 : Int) ≤ (q : Int) + 1 := by omega
        have p2 : (0 : Int) ≤ (q : Int) := by omega
        have g0 : (0 : Int) < (q : Int) + 1 := by omega
        have v1 : IntKind.i64.wrap ((q : Int) + 1 - 1) = q := by rw [IntKind.wrap_i64]; omega
        go_wp2_with fail
        go_region
        all_goals
          first
          | (obtain ⟨V, hV, kV, bx, bb⟩ : ∃ V, Hid (V = ((wr.alloc (.cells #[.int .i64 x.t, .int .i64 x.r, .int .i64 x.d, .int .i64 x.l, .int .i64 x.x, .bool x.s] 27)).alloc (.cells #[.int .i64 j.t, .int .i64 j.r, .int .i64 j.d, .int .i64 j.l, .int .i64 j.x, .bool j.s] 27)).drew) ∧ Kp wr V ∧ BJ V wr.heap.size x ∧ BJ V (wr.heap.size + 1) j := ⟨_, rfl, boxes wr x j⟩
             rw [← hV.out])
          | (obtain ⟨V, hV, kV, bb, bx⟩ : ∃ V, Hid (V = ((wr.alloc (.cells #[.int .i64 j.t, .int .i64 j.r, .int .i64 j.d, .int .i64 j.l, .int .i64 j.x, .bool j.s] 27)).alloc (.cells #[.int .i64 x.t, .int .i64 x.r, .int .i64 x.d, .int .i64 x.l, .int .i64 x.x, .bool x.s] 27)).drew) ∧ Kp wr V ∧ BJ V wr.heap.size j ∧ BJ V (wr.heap.size + 1) x := ⟨_, rfl, boxes wr j x⟩
             rw [← hV.out])
          clear hV a0 a1 a2 a3 a4 a5 b0 b1 b2 b3 b4 b5
          obtain ⟨c0, c1, c2, c3, c4, c5⟩ := bx.all
          obtain ⟨d0, d1, d2, d3, d4, d5⟩ := bb.all
          obtain ⟨ca, cb⟩ := HC.out _ kV
          obtain ⟨a0, a1, a2, a3, a4, a5, _⟩ := ca
          obtain ⟨b0, b1, b2, b3, b4, b5, _⟩ := cb
          have hfv : ∀ i, V.frozen? ⟨g4, i, none⟩ = false := fun i => (Step.frz kV (p := ⟨g4, i, none⟩) hg (fun q => q)).trans (hfr i)
          have f0 := hfv (q * 6)
          have f1 := hfv (q * 6 + 1)
          have f2 := hfv (q * 6 + 2)
          have f3 := hfv (q * 6 + 3)
          have f4 := hfv (q * 6 + 4)
          have f5 := hfv (q * 6 + 5)
          have f6 := hfv ((q + 1) * 6)
          have f7 := hfv ((q + 1) * 6 + 1)
          have f8 := hfv ((q + 1) * 6 + 2)
          have f9 := hfv ((q + 1) * 6 + 3)
          have f10 := hfv ((q + 1) * 6 + 4)
          have f11 := hfv ((q + 1) * 6 + 5)
          clear hfv hfr
          have n1 : g4 ≠ wr.heap.size := by omega
          have n2 : g4 ≠ wr.heap.size + 1 := by omega
          by_cases e1 : x.d < j.d
          · have HM : Hid (midJ D j (q + 1) = insJ j D) := hst.out (by rw [HL.out]; exact decide_eq_true (.inl e1))
            go_wp2
            go_ret
            refine ⟨_, rfl, ?_, Step.trans G.out.2.2.1 kV⟩
            have l := G.out.1.kp kV
            rw [HM.out, ← HP.out] at l
            exact l.low (by omega)
          · by_cases e2 : x.d = j.d
            · by_cases e3 : x.t < j.t
              · have HM : Hid (midJ D j (q + 1) = insJ j D) := hst.out (by rw [HL.out]; exact decide_eq_true (.inr ⟨e2, e3⟩))
                have e2' : (x.d == j.d) = true := by simp [e2]
                have E2 : Hid (x.d = j.d) := e2
                clear e2
                go_wp2
                go_ret
                refine ⟨_, rfl, ?_, Step.trans G.out.2.2.1 kV⟩
                have l := G.out.1.kp kV
                rw [HM.out, ← HP.out] at l
                exact l.low (by omega)
              · have HM : Hid (∀ W1, (((((((((((((V.setCell ⟨g4, q * 6, none⟩ (.int .i64 j.t)).setCell ⟨g4, q * 6 + 1, none⟩ (.int .i64 j.r)).setCell ⟨g4, q * 6 + 2, none⟩ (.int .i64 j.d)).setCell ⟨g4, q * 6 + 3, none⟩ (.int .i64 j.l)).setCell ⟨g4, q * 6 + 4, none⟩ (.int .i64 j.x)).setCell ⟨g4, q * 6 + 5, none⟩ (.bool j.s)).setCell ⟨g4, (q + 1) * 6, none⟩ (.int .i64 x.t)).setCell ⟨g4, (q + 1) * 6 + 1, none⟩ (.int .i64 x.r)).setCell ⟨g4, (q + 1) * 6 + 2, none⟩ (.int .i64 x.d)).setCell ⟨g4, (q + 1) * 6 + 3, none⟩ (.int .i64 x.l)).setCell ⟨g4, (q + 1) * 6 + 4, none⟩ (.int .i64 x.x)).setCell ⟨g4, (q + 1) * 6 + 5, none⟩ (.bool x.s)).drew = W1 ∨ ((((((((((((V.setCell ⟨g4, (q + 1) * 6, none⟩ (.int .i64 x.t)).setCell ⟨g4, (q + 1) * 6 + 1, none⟩ (.int .i64 x.r)).setCell ⟨g4, (q + 1) * 6 + 2, none⟩ (.int .i64 x.d)).setCell ⟨g4, (q + 1) * 6 + 3, none⟩ (.int .i64 x.l)).setCell ⟨g4, (q + 1) * 6 + 4, none⟩ (.int .i64 x.x)).setCell ⟨g4, (q + 1) * 6 + 5, none⟩ (.bool x.s)).setCell ⟨g4, q * 6, none⟩ (.int .i64 j.t)).setCell ⟨g4, q * 6 + 1, none⟩ (.int .i64 j.r)).setCell ⟨g4, q * 6 + 2, none⟩ (.int .i64 j.d)).setCell ⟨g4, q * 6 + 3, none⟩ (.int .i64 j.l)).setCell ⟨g4, q * 6 + 4, none⟩ (.int .i64 j.x)).setCell ⟨g4, q * 6 + 5, none⟩ (.bool j.s)).drew = W1) → Bub w W1 D j g4 cap4 q) := G.out.swap hq kV hx.out (hgo.out (by rw [HL.out]; exact decide_eq_false (fun h => h.elim e1 (fun h => e3 h.2))))
                have e2' : (x.d == j.d) = true := by simp [e2]
                have E2 : Hid (x.d = j.d) := e2
                clear e2
                go_wp2_with fail
                go_region
                all_goals
                  go_wp2
                  go_roundw
                  case rel => exact ⟨q, by omega, by go_num, HM.out _ (by first | exact .inl rfl | exact .inr rfl)⟩
                  case measure => simp [intOf]
            · have HM : Hid (∀ W1, (((((((((((((V.setCell ⟨g4, q * 6, none⟩ (.int .i64 j.t)).setCell ⟨g4, q * 6 + 1, none⟩ (.int .i64 j.r)).setCell ⟨g4, q * 6 + 2, none⟩ (.int .i64 j.d)).setCell ⟨g4, q * 6 + 3, none⟩ (.int .i64 j.l)).setCell ⟨g4, q * 6 + 4, none⟩ (.int .i64 j.x)).setCell ⟨g4, q * 6 + 5, none⟩ (.bool j.s)).setCell ⟨g4, (q + 1) * 6, none⟩ (.int .i64 x.t)).setCell ⟨g4, (q + 1) * 6 + 1, none⟩ (.int .i64 x.r)).setCell ⟨g4, (q + 1) * 6 + 2, none⟩ (.int .i64 x.d)).setCell ⟨g4, (q + 1) * 6 + 3, none⟩ (.int .i64 x.l)).setCell ⟨g4, (q + 1) * 6 + 4, none⟩ (.int .i64 x.x)).setCell ⟨g4, (q + 1) * 6 + 5, none⟩ (.bool x.s)).drew = W1 ∨ ((((((((((((V.setCell ⟨g4, (q + 1) * 6, none⟩ (.int .i64 x.t)).setCell ⟨g4, (q + 1) * 6 + 1, none⟩ (.int .i64 x.r)).setCell ⟨g4, (q + 1) * 6 + 2, none⟩ (.int .i64 x.d)).setCell ⟨g4, (q + 1) * 6 + 3, none⟩ (.int .i64 x.l)).setCell ⟨g4, (q + 1) * 6 + 4, none⟩ (.int .i64 x.x)).setCell ⟨g4, (q + 1) * 6 + 5, none⟩ (.bool x.s)).setCell ⟨g4, q * 6, none⟩ (.int .i64 j.t)).setCell ⟨g4, q * 6 + 1, none⟩ (.int .i64 j.r)).setCell ⟨g4, q * 6 + 2, none⟩ (.int .i64 j.d)).setCell ⟨g4, q * 6 + 3, none⟩ (.int .i64 j.l)).setCell ⟨g4, q * 6 + 4, none⟩ (.int .i64 j.x)).setCell ⟨g4, q * 6 + 5, none⟩ (.bool j.s)).drew = W1) → Bub w W1 D j g4 cap4 q) := G.out.swap hq kV hx.out (hgo.out (by rw [HL.out]; exact decide_eq_false (fun h => h.elim e1 (fun h => e2 h.1))))
              have e2' : (x.d == j.d) = false := by simp [e2]
              go_wp2_with fail
              go_region
              all_goals
                go_wp2
                go_roundw
                case rel => exact ⟨q, by omega, by go_num, HM.out _ (by first | exact .inl rfl | exact .inr rfl)⟩
                case measure => simp [intOf]

end Go.Proofs.Ytphaedkmijdphaa.RD
