/- What the calls of the semaphores do that turn what is held: Take, Give, Spend, Free; and their Ceiling. -/
import Derived.Test.YtlcbgkicooeklaaLckOps
namespace Go.Proofs.Ytlcbgkicooeklaa.LK
open Go.ChangeShapes Go.WideShapes Go.ChangeAt Go.RowKit Go.Proofs.Ytlcbgkicooeklaa.AR

/-- an error of a lock, or none -/
def codeI (b : Bool) : Int := bif b then 0 else 10

/-- the new row is stored into the block -/
theorem went_more {A : Nat → Prop} {w W w2 : World} {lb g cap : Nat} {v : Value} {L : List Hd} {y : Hd} {o : Obj} (h : LRep w lb A L) (hv : Lk W lb v L) (hA : ∀ k, v.ownBlock = some k → A k) (k : Kp w W) (hl : L.length + 1 ≤ 5864062014805)
    (row2 : w2.ownsRow 0 53 3 (.slice (some ⟨g, 0, none⟩) (L.length + 1) cap) (L.length + 1) (flatH (L ++ [y]))) (hg : (W.alloc o).grownBy w2 v.ownBlock) (hloc : v.ownBlock = some g ∨ g = (W.alloc o).heap.size) :
    LWent w lb A (L ++ [y]) (w2.setCell ⟨lb, 0, none⟩ (.slice (some ⟨g, 0, none⟩) (L.length + 1) cap)) := by
  have s2 : Step A w w2 := ((Kp.any k).alloc o).grown hg (fun k hk => hA k hk)
  have hne := hv.ne
  have b2 : w2.heap[lb]? = some (.cells #[v] 57 (0, 0)) := by
    rw [hg.block lb (Nat.lt_of_lt_of_le hv.at' (by simp)) (fun e => hne e.symm), Below.heap_alloc _ _ _ hv.at']
    exact hv.blk
  have hlen : (L ++ [y]).length = L.length + 1 := by simp
  have s3 : Step (fun k => k = lb) w2 (w2.setCell ⟨lb, 0, none⟩ (.slice (some ⟨g, 0, none⟩) (L.length + 1) cap)) := (Step.refl (fun k => k = lb) w2).setCell (p := ⟨lb, 0, none⟩) rfl _
  have gne : g ≠ lb := by
    rcases hloc with e | e
    · intro q; subst q; exact hne e
    · have := hv.at'; simp only [World.size_alloc] at e; omega
  have hg2 : g < w2.heap.size := (row2.lt g rfl).2
  refine lwent_of h (v' := .slice (some ⟨g, 0, none⟩) (L.length + 1) cap) ⟨?_, ⟨?_, by rw [hlen]; exact hl⟩⟩ (s2.trans (s3.mono (fun k _ q => by subst q; exact h.own))) ?_
  · rw [heap_setCell_same w2 lb 0 _ _ _ b2]; rfl
  · rw [hlen]; exact row_kept s3 row2 (fun k hk q => by simp only [Value.ownBlock, Option.some.injEq] at hk; omega)
  · intro k' hk
    simp only [Value.ownBlock, Option.some.injEq] at hk
    subst hk
    rcases hloc with e | e
    · exact .inl (hA _ e)
    · right
      have := k.size
      simp only [World.size_alloc] at e
      exact ⟨by omega, by simpa [World.setCell] using hg2⟩

/-- behind the append: the block and the box are as they were -/
theorem more_kept {W w2 : World} {lb yb : Nat} {v u : Value} {L : List Hd} {o : Obj} {e : TypeId} (h : Lk W lb v L) (hy : W.heap[yb]? = some (.cells #[u] e (0, 0))) (hv : v.ownBlock ≠ some yb) (hg : (W.alloc o).grownBy w2 v.ownBlock) :
    w2.cell? ⟨lb, 0, none⟩ = some v ∧ w2.frozen? ⟨lb, 0, none⟩ = false ∧ w2.cell? ⟨yb, 0, none⟩ = some u := by
  have hne := h.ne
  have b2 : w2.heap[lb]? = some (.cells #[v] 57 (0, 0)) := by
    rw [hg.block lb (Nat.lt_of_lt_of_le h.at' (by simp)) (fun e => hne e.symm), Below.heap_alloc _ _ _ h.at']
    exact h.blk
  have b3 : w2.heap[yb]? = some (.cells #[u] e (0, 0)) := by
    rw [hg.block yb (Nat.lt_of_lt_of_le (lt_blk hy) (by simp)) (fun e => hv e.symm), Below.heap_alloc _ _ _ (lt_blk hy)]
    exact hy
  exact ⟨by simp [World.cell?, b2], by simp [World.frozen?, b2], by simp [World.cell?, b3]⟩

set_option maxHeartbeats 4000000 in
theorem take_any (lb : Nat) (A : Nat → Prop) (L : List Hd) (t s c : Int) (w : World) (h : LRep w lb A L) (hl : L.length + 1 ≤ 5864062014805) :
    Calls Try.prog 11 #[.pointer (some ⟨lb, 0, none⟩), .int .i64 t, .int .i64 s, .int .i64 c] w fun e w' => e = .returned (.int .i64 (codeI (!heldB L s))) ∧ LWent w lb A (takeL L ⟨t, s, c⟩) w' := by
  have HR : Hid (LRep w lb A L) := h
  obtain ⟨v, hv, hA⟩ := h.mem
  obtain ⟨ao, cap, rfl, hl'⟩ := hv.ls.lies
  have hmf : ∀ (fn : Fn) (first cap : Array Value) (w : World), (Instr.makeFunc fn first cap).run Try.prog w = .ok (.func fn first cap) w := fun _ _ _ _ => rfl
  have hlen := h.len
  have HC : Hid (∀ W, Kp w W → w.heap.size < W.heap.size → W.cell? ⟨w.heap.size, 0, none⟩ = some (.int .i64 s) → Calls Try.prog 25 #[.slice ao L.length cap, .func (.func 26) #[] #[.pointer (some ⟨w.heap.size, 0, none⟩)]] W
      fun e w' => e = .returned (.bool (heldB L s)) ∧ Kp W w') := fun W k hs hc => contains_any (fun _ => False) _ _ _ _ _ _ L W (hl'.kp k) hlen (enters_of Try.func26 (by kernel_rfl) rfl) (take_lit _ s _ W hs (fun q => q) hc)
  have h0 := hv.c
  have hlt := hv.at'
  have HT : Hid (takeL L ⟨t, s, c⟩ = bif heldB L s then L else L ++ [⟨t, s, c⟩]) := rfl
  have HVB : Hid (∀ k, (Value.slice ao L.length cap).ownBlock = some k → k < w.heap.size) := fun k hk => (hv.ls.own k hk).2
  obtain ⟨T, hT⟩ : ∃ T, takeL L ⟨t, s, c⟩ = T := ⟨_, rfl⟩
  rw [hT] at HT ⊢
  clear hl' hT h
  cases hb : heldB L s with
  | true =>
    rw [hb] at HC HT
    have HQ : Hid (codeI (!true) = 10) := rfl
    have HW : Hid (∀ W, Kp w W → LWent w lb A T W) := fun W k => by rw [HT.out]; exact LWent.same HR.out k
    clear hb HT hv
    generalize L.length = n at *
    go_enter Try.func11, Try.ntmps11
    go_wp2_with fail
    refine (HC.out _ ((Step.refl _ _).alloc _) (by simp) (by simp)).mono ?_
    rintro e w1 ⟨rfl, k1⟩
    go_wp2
    go_ret
    exact ⟨rfl, HW.out _ (((Step.refl _ _).alloc _).trans k1)⟩
  | false =>
    rw [hb] at HC HT
    have HV : Hid (Lk w lb (.slice ao L.length cap) L) := hv
    have HBX : Hid ((w.alloc (.cells #[.int .i64 s] 3)).heap[w.heap.size]? = some (.cells #[.int .i64 s] 3 (0, 0))) := alloc_at w _
    clear hb
    go_enter Try.func11, Try.ntmps11
    go_wp2_with fail
    refine (HC.out _ ((Step.refl _ _).alloc _) (by simp) (by simp)).mono ?_
    rintro e w1 ⟨rfl, k1⟩
    have hb1 : w1.heap[w.heap.size]? = some (.cells #[.int .i64 s] 3 (0, 0)) := (k1.block _ (by simp) (fun q => q)).trans HBX.out
    have K1 : Hid (Kp w w1) := ((Step.refl _ _).alloc _).trans k1
    have hv1 := HV.out.kp K1.out
    have c1 := hv1.c
    have d1 : w1.cell? ⟨w.heap.size, 0, none⟩ = some (.int .i64 s) := by simp [World.cell?, hb1]
    have hlt1 := hv1.at'
    have hbl1 : w.heap.size < w1.heap.size := lt_blk hb1
    have HNE : Hid ((Value.slice ao L.length cap).ownBlock ≠ some w.heap.size) := fun e => absurd (HVB.out _ e) (Nat.lt_irrefl _)
    clear k1 h0 hlt
    go_wp2_with fail
    have n0 := World.new_ne w1 ⟨lb, 0, none⟩ c1
    have n1 := World.new_ne w1 ⟨w.heap.size, 0, none⟩ d1
    have c2 : (w1.alloc (.cells #[.int .i64 t, .int .i64 s, .int .i64 c] 53)).cell? ⟨lb, 0, none⟩ = some (.slice ao L.length cap) := (hv1.kp ((Step.refl _ _).alloc _)).c
    go_region_law (refine step_append_three _ rfl _ _ 46 53 rfl Try.underlying46 hd_info 0 (.slice ao L.length cap) L rfl (by exact hv1.ls.row.alloc _) w1.heap.size ⟨t, s, c⟩ rfl (by exact alloc_at w1 _) hl (Nat.zero_le _) ?_; intro g' cap' w2 row2 hg2 hloc; obtain ⟨q0, q1, q2⟩ := more_kept (o := .cells #[.int .i64 t, .int .i64 s, .int .i64 c] 53) hv1 hb1 HNE.out ⟨hg2.os, hg2.tape, hg2.output, hg2.size, hg2.block⟩)
    all_goals
      have HW := went_more (o := .cells #[.int .i64 t, .int .i64 s, .int .i64 c] 53) HR.out hv1 hA K1.out hl row2 ⟨hg2.os, hg2.tape, hg2.output, hg2.size, hg2.block⟩ hloc
      go_wp2
      go_ret
      exact ⟨rfl, by rw [HT.out]; exact HW⟩

/-! ### Spend -/

/-- the first k have a cycle less -/
def spU (L : List Hd) (t : Int) (k : Nat) : List Hd := (L.take k).map (sp1 t) ++ L.drop k

theorem spU_len {L : List Hd} {t : Int} {k : Nat} : (spU L t k).length = L.length := by unfold spU; simp; omega
theorem spU_zero {L : List Hd} {t : Int} : spU L t 0 = L := by simp [spU]
theorem spU_all {L : List Hd} {t : Int} {k : Nat} (h : L.length ≤ k) : spU L t k = spendL L t := by unfold spU spendL; rw [List.take_of_length_le h, List.drop_eq_nil_of_le h, List.append_nil]
theorem spU_at {L : List Hd} {t : Int} {k : Nat} (h : k < L.length) : atH (spU L t k) k = atH L k := by
  have hl : ((L.take k).map (sp1 t)).length = k := by simp; omega
  unfold spU
  rw [drop_consH h]
  conv => lhs; rw [← hl]
  rw [show k = ((L.take k).map (sp1 t)).length from hl.symm] at *
  simp only [hl]
  unfold atH
  rw [List.getD_eq_getElem?_getD, List.getElem?_append_right (by omega)]
  simp
theorem spU_succ {L : List Hd} {t : Int} {k : Nat} (h : k < L.length) : spU L t (k + 1) = (spU L t k).set k (sp1 t (atH L k)) := by
  have hl : ((L.take k).map (sp1 t)).length = k := by simp; omega
  unfold spU
  rw [take_snocH h, drop_consH h, List.map_append, List.set_append_right _ _ (by omega), hl, Nat.sub_self]
  simp
theorem spU_miss {L : List Hd} {t : Int} {k : Nat} (h : k < L.length) (hm : (atH L k).t ≠ t) : spU L t (k + 1) = spU L t k := by
  rw [spU_succ h]
  have e : sp1 t (atH L k) = atH (spU L t k) k := by rw [spU_at h]; simp [sp1, hm]
  rw [e]
  have hk : k < (spU L t k).length := by rw [spU_len]; exact h
  rw [atH_get hk, List.set_getElem_self]

/-- under way -/
structure Sp (w wr : World) (lb g cap : Nat) (L : List Hd) (t : Int) (k : Nat) : Prop where
  lk : Lk wr lb (.slice (some ⟨g, 0, none⟩) (spU L t k).length cap) (spU L t k)
  st : Step (fun q => q = g) w wr

set_option maxHeartbeats 4000000 in
theorem spend_any (lb : Nat) (A : Nat → Prop) (L : List Hd) (t : Int) (w : World) (h : LRep w lb A L) :
    Calls Try.prog 15 #[.pointer (some ⟨lb, 0, none⟩), .int .i64 t] w fun e w' => e = .returned (.tuple #[]) ∧ LWent w lb A (spendL L t) w' := by
  have HR : Hid (LRep w lb A L) := h
  obtain ⟨v, hv, hA⟩ := h.mem
  have h0 := hv.c
  have hlen := h.len
  have HS : Hid (∀ k, L.length ≤ k → spU L t k = spendL L t) := fun k hk => spU_all hk
  generalize spendL L t = S at HS ⊢
  by_cases hp : 0 < L.length
  · obtain ⟨g, cap, rfl, _, hg, hnc, hcm, _⟩ := hv.ls.pos hp
    have HV : Hid (Lk w lb (.slice (some ⟨g, 0, none⟩) L.length cap) L) := hv
    have HN : Hid (∀ k, (spU L t k).length = L.length) := fun k => spU_len
    obtain ⟨n, hn⟩ : ∃ n, L.length = n := ⟨_, rfl⟩
    have HL : Hid (L.length = n) := hn
    have HG : Hid (A g) := hA g rfl
    have HSp0 : Hid (Sp w w lb g cap L t 0) := ⟨by rw [spU_zero]; exact hv, Step.refl _ _⟩
    rw [hn] at h0 hlen
    clear hv hA hp hn h hnc
    go_enter Try.func15, Try.ntmps15
    go_wp2
    go_loopw [12] (fun i wr => ∃ k : Nat, k ≤ n ∧ i = .int .i64 k ∧ Hid (Sp w wr lb g cap L t k)) (fun i _ => n - (intOf i).toNat)
    case atStart => exact ⟨0, Nat.zero_le _, rfl, HSp0⟩
    case round =>
      obtain ⟨k, hk, rfl, G⟩ := hrel
      by_cases hlt : k < n
      · have hlt' : (k : Int) < (n : Int) := by omega
        have hkl : k < L.length := by rw [HL.out]; exact hlt
        have c0 := G.out.lk.c
        rw [HN.out, HL.out] at c0
        obtain ⟨g', cap', e, _, hgw, _, _, hfr, hcs⟩ := G.out.lk.ls.pos (by rw [HN.out]; omega)
        simp only [Value.slice.injEq, Option.some.injEq, Addr.mk.injEq, and_true, true_and] at e
        obtain ⟨rfl, rfl⟩ := e
        obtain ⟨d0, d1, d2, _⟩ := hcs k (by rw [HN.out]; exact hkl)
        rw [spU_at hkl] at d0 d1 d2
        have f2 := hfr (k * 3 + 2)
        clear hcs hfr
        by_cases he : (atH L k).t = t
        · have he' : ((atH L k).t == t) = true := by simpa using he
          have G2 : Hid (∀ y, y = wrap64 ((atH L k).l - 1) → Sp w (wr.setCell ⟨g, k * 3 + 2, none⟩ (.int .i64 y)) lb g cap L t (k + 1)) := by
            rintro y rfl
            have hset := G.out.lk.ls.setLeft (i := k) (by rw [HN.out]; exact hkl) (wrap64 ((atH L k).l - 1))
            rw [spU_at hkl] at hset
            have e1 : spU L t (k + 1) = (spU L t k).set k { atH L k with l := wrap64 ((atH L k).l - 1) } := by
              rw [spU_succ hkl]; simp [sp1, he]
            have hne := G.out.lk.ne
            refine ⟨⟨?_, ?_⟩, G.out.st.setCell (p := ⟨g, k * 3 + 2, none⟩) rfl _⟩
            · rw [HN.out, ← HN.out k]
              rw [Below.heap_setCell _ _ _ _ (by intro q; exact hne (by simp only [Value.ownBlock]; rw [q]))]
              exact G.out.lk.blk
            · rw [e1, List.length_set]
              exact hset
          clear he
          generalize atH L k = x at *
          go_wp2
          go_roundw
          case rel => exact ⟨k + 1, by omega, by go_num, G2.out _ (by rfl)⟩
          case measure => simp [intOf]; omega
        · have he' : ((atH L k).t == t) = false := by simpa using he
          have G2 : Hid (Sp w wr lb g cap L t (k + 1)) := by
            have e1 := spU_miss hkl he
            refine ⟨?_, G.out.st⟩
            rw [e1]
            exact G.out.lk
          clear he
          generalize atH L k = x at *
          go_wp2
          go_roundw
          case rel => exact ⟨k + 1, by omega, by go_num, G2⟩
          case measure => simp [intOf]; omega
      · have hlt' : ¬ (k : Int) < (n : Int) := by omega
        have HW : Hid (LWent w lb A S wr) := by
          have e1 : spU L t k = S := HS.out k (by rw [HL.out]; omega)
          have hlk := G.out.lk
          rw [e1] at hlk
          refine lwent_of HR.out hlk (G.out.st.mono (fun q _ e => by subst e; exact HG.out)) (fun q hq => ?_)
          simp only [Value.ownBlock, Option.some.injEq] at hq
          subst hq
          exact .inl HG.out
        go_wp2
        go_end0
        exact ⟨rfl, HW.out⟩
  · have hz : L.length = 0 := by omega
    obtain rfl : L = [] := List.length_eq_zero_iff.1 hz
    have HE : Hid (S = []) := (HS.out 0 (Nat.le_refl _)).symm
    obtain ⟨ao, cap, rfl⟩ := hv.ls.form
    have HW : Hid (LWent w lb A S w) := by show LWent _ _ _ _ _; rw [HE.out]; exact LWent.same HR.out (Step.refl _ _)
    go_enter Try.func15, Try.ntmps15
    go_wp2
    refine wp_loop_rounds 1 ?_
    rw [rounds_succ]
    go_wp2
    go_end0
    exact ⟨rfl, HW.out⟩

/-! ### Give, Free -/

/-- a call has cut the row where it lies; its slice is stored -/
theorem went_cut {A : Nat → Prop} {w W : World} {lb g n cap : Nat} {v : Value} {L M : List Hd} (h : LRep w lb A L) (hb : W.heap[lb]? = some (.cells #[v] 57 (0, 0))) (hg : A g) (hne : g ≠ lb) (hl : Ls W 53 0 (.slice (some ⟨g, 0, none⟩) n cap) M) (s : Step A w W) :
    LWent w lb A M (W.setCell ⟨lb, 0, none⟩ (.slice (some ⟨g, 0, none⟩) n cap)) := by
  have s3 : Step (fun k => k = lb) W (W.setCell ⟨lb, 0, none⟩ (.slice (some ⟨g, 0, none⟩) n cap)) := (Step.refl (fun k => k = lb) W).setCell (p := ⟨lb, 0, none⟩) rfl _
  refine lwent_of h (v' := .slice (some ⟨g, 0, none⟩) n cap) ⟨?_, hl.kept s3 (fun k hk q => by simp only [Value.ownBlock, Option.some.injEq] at hk; omega)⟩ (s.trans (s3.mono (fun k _ q => by subst q; exact h.own))) (fun k hk => ?_)
  · rw [heap_setCell_same W lb 0 _ _ _ hb]; rfl
  · simp only [Value.ownBlock, Option.some.injEq] at hk
    subst hk
    exact .inl hg

theorem giveB_none {L : List Hd} {t s : Int} (h : lastI L t L.length = -1) : giveB L t s = false ∧ giveL L t s = L := by
  have e : giveB L t s = false := by unfold giveB; rw [h]; simp
  exact ⟨e, by unfold giveL; rw [e]; rfl⟩
theorem giveB_other {L : List Hd} {t s : Int} {k : Nat} (h : lastI L t L.length = (k : Int)) (hs : (atH L k).s ≠ s) : giveB L t s = false ∧ giveL L t s = L := by
  have e : giveB L t s = false := by unfold giveB; rw [h]; simp [hs]
  exact ⟨e, by unfold giveL; rw [e]; rfl⟩
theorem giveB_it {L : List Hd} {t s : Int} {k : Nat} (h : lastI L t L.length = (k : Int)) (hs : (atH L k).s = s) : giveB L t s = true ∧ giveL L t s = cutH L k := by
  have e : giveB L t s = true := by unfold giveB; rw [h]; simp [hs]
  exact ⟨e, by unfold giveL; rw [e, h]; rfl⟩

set_option maxHeartbeats 4000000 in
theorem give_any (lb : Nat) (A : Nat → Prop) (L : List Hd) (t s : Int) (w : World) (h : LRep w lb A L) :
    Calls Try.prog 14 #[.pointer (some ⟨lb, 0, none⟩), .int .i64 t, .int .i64 s] w fun e w' => e = .returned (.int .i64 (codeI (giveB L t s))) ∧ LWent w lb A (giveL L t s) w' := by
  have HR : Hid (LRep w lb A L) := h
  obtain ⟨v, hv, hA⟩ := h.mem
  obtain ⟨ao, cap, rfl, hl'⟩ := hv.ls.lies
  have hmf : ∀ (fn : Fn) (first cap : Array Value) (w : World), (Instr.makeFunc fn first cap).run Try.prog w = .ok (.func fn first cap) w := fun _ _ _ _ => rfl
  have hlen := h.len
  have HC : Hid (∀ W, Kp w W → w.heap.size < W.heap.size → W.cell? ⟨w.heap.size, 0, none⟩ = some (.int .i64 t) → Calls Try.prog 27 #[.slice ao L.length cap, .func (.func 28) #[] #[.pointer (some ⟨w.heap.size, 0, none⟩)]] W
      fun e w' => e = .returned (.int .i64 (lastI L t L.length)) ∧ Kp W w') := fun W k hs hc => lastPlace_any (fun _ => False) _ _ t _ _ _ L W (hl'.kp k) hlen (enters_of Try.func28 (by kernel_rfl) rfl) (give_lit _ t _ W hs (fun q => q) hc)
  have h0 := hv.c
  have hlt := hv.at'
  have HV : Hid (Lk w lb (.slice ao L.length cap) L) := hv
  have HOW : Hid (∀ k, (Value.slice ao L.length cap).ownBlock = some k → A k) := hA
  have q10 : codeI false = 10 := rfl
  have q0 : codeI true = 0 := rfl
  rcases lastI_cases (L := L) (t := t) L.length with ⟨hr, _⟩ | ⟨k, hr, hk, _, _⟩
  · obtain ⟨e1, e2⟩ := giveB_none (s := s) hr
    rw [hr] at HC
    rw [e1, e2, q10]
    have HW : Hid (∀ W, Kp w W → LWent w lb A L W) := fun W k => LWent.same HR.out k
    clear hl' h hv hA hr e1 e2
    generalize L.length = n at *
    go_enter Try.func14, Try.ntmps14
    go_wp2_with fail
    refine (HC.out _ ((Step.refl _ _).alloc _) (by simp) (by simp)).mono ?_
    rintro e w1 ⟨rfl, k1⟩
    go_wp2
    go_ret
    exact ⟨rfl, HW.out _ (((Step.refl _ _).alloc _).trans k1)⟩
  · rw [hr] at HC
    obtain ⟨g, cap', e, _, hg, hnc, hcm, _, hcs⟩ := hv.ls.pos (by omega)
    simp only [Value.slice.injEq, true_and] at e
    obtain ⟨rfl, rfl⟩ := e
    have hck := hcs k hk
    have HK : Hid (∀ W, Kp w W → C3 W g (k * 3) (atH L k)) := fun W q => hck.kp q
    have kn : decide ((k : Int) < 0) = false := decide_eq_false (by omega)
    have k0 : (0 : Int) ≤ (k : Int) := by omega
    have k1 : (k : Int) < (L.length : Int) := by omega
    have HA0 : Hid (A g) := HOW.out g rfl
    have HNE : Hid (g ≠ lb) := fun q => HV.out.ne (by simp only [Value.ownBlock]; rw [q])
    clear hcs hck hl' hA h hv
    by_cases hs : (atH L k).s = s
    · obtain ⟨e1, e2⟩ := giveB_it hr hs
      rw [e1, e2, q0]
      have hs' : ((atH L k).s != s) = false := by simpa using hs
      have HD : Hid (∀ W, Kp w W → Calls Try.prog 29 #[.slice (some ⟨g, 0, none⟩) L.length cap, .int .i64 (k : Int), .int .i64 ((k : Int) + 1)] W
          fun e w' => e = .returned (.slice (some ⟨g, 0, none⟩) (L.length - 1) cap) ∧ Ls w' 53 0 (.slice (some ⟨g, 0, none⟩) (L.length - 1) cap) (cutH L k) ∧ Step (fun k => k = g) W w') := fun W q => delete_any g cap k 0 L W (HV.out.kp q).ls hk hnc hcm
      generalize cutH L k = M at *
      generalize atH L k = x at *
      clear hs hr e1 e2
      go_enter Try.func14, Try.ntmps14
      go_wp2_with fail
      refine (HC.out _ ((Step.refl _ _).alloc _) (by simp) (by simp)).mono ?_
      rintro e w1 ⟨rfl, k1'⟩
      have K1 : Hid (Kp w w1) := ((Step.refl _ _).alloc _).trans k1'
      obtain ⟨d0, d1, d2, _⟩ := HK.out _ K1.out
      have hv1 := HV.out.kp K1.out
      have c1 := hv1.c
      have hlt1 := hv1.at'
      clear k1' h0 hlt
      go_wp2_with fail
      refine (HD.out _ K1.out).mono ?_
      rintro e w2 ⟨rfl, l2, s2⟩
      have b2 : w2.heap[lb]? = some (.cells #[.slice (some ⟨g, 0, none⟩) L.length cap] 57 (0, 0)) := (s2.block lb hlt1 (fun q => HNE.out q.symm)).trans hv1.blk
      have f2 : w2.frozen? ⟨lb, 0, none⟩ = false := by simp [World.frozen?, b2]
      have c2 : w2.cell? ⟨lb, 0, none⟩ = some (.slice (some ⟨g, 0, none⟩) L.length cap) := by simp [World.cell?, b2]
      have HW := went_cut HR.out b2 HA0.out HNE.out l2 (K1.out.any.trans (s2.mono (fun q _ e => by subst e; exact HA0.out)))
      clear c1 d0 d1 d2 s2 l2
      go_wp2
      go_ret
      exact ⟨rfl, HW⟩
    · obtain ⟨e1, e2⟩ := giveB_other hr hs
      rw [e1, e2, q10]
      have hs' : ((atH L k).s != s) = true := by simpa using hs
      have HW : Hid (∀ W, Kp w W → LWent w lb A L W) := fun W k => LWent.same HR.out k
      generalize atH L k = x at *
      clear hs hr e1 e2
      go_enter Try.func14, Try.ntmps14
      go_wp2_with fail
      refine (HC.out _ ((Step.refl _ _).alloc _) (by simp) (by simp)).mono ?_
      rintro e w1 ⟨rfl, k1'⟩
      have K1 : Hid (Kp w w1) := ((Step.refl _ _).alloc _).trans k1'
      obtain ⟨d0, d1, d2, _⟩ := HK.out _ K1.out
      have hv1 := HV.out.kp K1.out
      have c1 := hv1.c
      clear k1' h0 hlt
      go_wp2
      go_ret
      exact ⟨rfl, HW.out _ K1.out⟩

theorem deleteFunc_nil (nf : Nat) (cv : Value) (f : Hd → Bool) (w : World) (hnf : ∀ (args : Array Value) (w : World), (callFunc nf args).run Try.prog w = .ok (.enter nf args) w) (hf : LitH (fun _ => False) w nf cv f) :
    Calls Try.prog 31 #[.slice none 0 0, .func (.func nf) #[] #[cv]] w fun e w' => e = .returned (.slice none 0 0) ∧ Kp w w' := by
  have HI := index_any (fun _ => False) nf cv f none 0 0 [] w ⟨rfl, .inl rfl⟩ (by omega) hnf hf
  clear hf
  go_enter Try.func31, Try.ntmps31
  go_wp2_with fail
  refine HI.mono ?_
  rintro e w1 ⟨⟨x, rfl, hx⟩, k1⟩
  obtain rfl : x = -1 := by
    rcases hx with ⟨e, _⟩ | ⟨k, _, hk, _⟩
    · exact e
    · omega
  clear hx
  go_wp2
  go_ret
  exact ⟨rfl, k1⟩

set_option maxHeartbeats 4000000 in
theorem free_any (lb : Nat) (A : Nat → Prop) (L : List Hd) (t : Int) (w : World) (h : LRep w lb A L) :
    Calls Try.prog 19 #[.pointer (some ⟨lb, 0, none⟩), .int .i64 t] w fun e w' => e = .returned (.tuple #[]) ∧ LWent w lb A (freeL L t) w' := by
  have HR : Hid (LRep w lb A L) := h
  obtain ⟨v, hv, hA⟩ := h.mem
  have hmf : ∀ (fn : Fn) (first cap : Array Value) (w : World), (Instr.makeFunc fn first cap).run Try.prog w = .ok (.func fn first cap) w := fun _ _ _ _ => rfl
  have h0 := hv.c
  have hlt := hv.at'
  have HV : Hid (Lk w lb v L) := hv
  rcases hv.ls.cases with ⟨rfl, rfl⟩ | ⟨g, cap, rfl, _, hg, hnc, hcm, _, _⟩
  · have HC : Hid (∀ W, Kp w W → w.heap.size < W.heap.size → W.cell? ⟨w.heap.size, 0, none⟩ = some (.int .i64 t) → Calls Try.prog 31 #[.slice none 0 0, .func (.func 32) #[] #[.pointer (some ⟨w.heap.size, 0, none⟩)]] W
        fun e w' => e = .returned (.slice none 0 0) ∧ Kp W w') := fun W k hs hc => deleteFunc_nil _ _ _ W (enters_of Try.func32 (by kernel_rfl) rfl) (free_lit _ t _ W hs (fun q => q) hc)
    have HF : Hid (∀ W, LWent w lb A [] W → LWent w lb A (freeL [] t) W) := fun W q => q
    generalize freeL [] t = S at *
    clear hv h hA
    go_enter Try.func19, Try.ntmps19
    go_wp2_with fail
    refine (HC.out _ ((Step.refl _ _).alloc _) (by simp) (by simp)).mono ?_
    rintro e w1 ⟨rfl, k1⟩
    have K1 : Hid (Kp w w1) := ((Step.refl _ _).alloc _).trans k1
    have hv1 := HV.out.kp K1.out
    have c1 := hv1.c
    have f1 := hv1.fr
    have hlt1 := hv1.at'
    have HW : LWent w lb A S (w1.setCell ⟨lb, 0, none⟩ (.slice none 0 0)) := by
      refine HF.out _ (lwent_of HR.out (v' := .slice none 0 0) ⟨?_, ls_nil _ _ _⟩ (K1.out.any.setCell (p := ⟨lb, 0, none⟩) HR.out.own _) (fun k hk => by simp [Value.ownBlock] at hk))
      rw [heap_setCell_same w1 lb 0 _ _ _ hv1.blk]; rfl
    clear k1 h0 hlt
    go_wp2
    go_end0
    exact ⟨rfl, HW⟩
  · have HA0 : Hid (A g) := hA g rfl
    have HNE : Hid (g ≠ lb) := fun q => HV.out.ne (by simp only [Value.ownBlock]; rw [q])
    have HC : Hid (∀ W, Kp w W → w.heap.size < W.heap.size → W.cell? ⟨w.heap.size, 0, none⟩ = some (.int .i64 t) → Calls Try.prog 31 #[.slice (some ⟨g, 0, none⟩) L.length cap, .func (.func 32) #[] #[.pointer (some ⟨w.heap.size, 0, none⟩)]] W
        fun e w' => e = .returned (.slice (some ⟨g, 0, none⟩) (freeL L t).length cap) ∧ Ls w' 53 0 (.slice (some ⟨g, 0, none⟩) (freeL L t).length cap) (freeL L t) ∧ Step (fun k => k = g) W w') := fun W k hs hc => deleteFunc_any _ _ _ g cap 0 L W (HV.out.kp k).ls hnc hcm (enters_of Try.func32 (by kernel_rfl) rfl) (free_lit _ t _ W hs (fun q => by omega) hc)
    generalize freeL L t = S at *
    generalize S.length = m at *
    clear hv h hA hnc hcm
    go_enter Try.func19, Try.ntmps19
    go_wp2_with fail
    refine (HC.out _ ((Step.refl _ _).alloc _) (by simp) (by simp)).mono ?_
    rintro e w2 ⟨rfl, l2, s2⟩
    have K1 : Hid (Kp w (w.alloc (.cells #[.int .i64 t] 3))) := (Step.refl _ _).alloc _
    have hv1 := HV.out.kp K1.out
    have b2 : w2.heap[lb]? = some (.cells #[.slice (some ⟨g, 0, none⟩) L.length cap] 57 (0, 0)) := (s2.block lb hv1.at' (fun q => HNE.out q.symm)).trans hv1.blk
    have f2 : w2.frozen? ⟨lb, 0, none⟩ = false := by simp [World.frozen?, b2]
    have c2 : w2.cell? ⟨lb, 0, none⟩ = some (.slice (some ⟨g, 0, none⟩) L.length cap) := by simp [World.cell?, b2]
    have HW := went_cut HR.out b2 HA0.out HNE.out l2 (K1.out.any.trans (s2.mono (fun q _ e => by subst e; exact HA0.out)))
    clear h0 hlt s2 l2
    go_wp2
    go_end0
    exact ⟨rfl, HW⟩

end Go.Proofs.Ytlcbgkicooeklaa.LK
