/- What the calls of the semaphores do, in terms of what is held. -/
import Derived.Test.YtlcbgkicooeklaaLckCut
import Derived.Test.YtlcbgkicooeklaaTskCel
namespace Go.Proofs.Ytlcbgkicooeklaa.LK
open Go.ChangeShapes Go.WideShapes Go.ChangeAt Go.RowKit Go.Proofs.Ytlcbgkicooeklaa.AR

/-- semaphores at lb, with what is held and its row v -/
structure Lk (w : World) (lb : Nat) (v : Value) (L : List Hd) : Prop where
  blk : w.heap[lb]? = some (.cells #[v] 57 (0, 0))
  ls : Ls w 53 0 v L

theorem Lk.at' {w : World} {lb : Nat} {v : Value} {L : List Hd} (h : Lk w lb v L) : lb < w.heap.size := lt_blk h.blk
theorem Lk.c {w : World} {lb : Nat} {v : Value} {L : List Hd} (h : Lk w lb v L) : w.cell? ⟨lb, 0, none⟩ = some v := by simp [World.cell?, h.blk]
theorem Lk.fr {w : World} {lb : Nat} {v : Value} {L : List Hd} (h : Lk w lb v L) : w.frozen? ⟨lb, 0, none⟩ = false := by simp [World.frozen?, h.blk]

/-- the row is not the block -/
theorem Lk.ne {w : World} {lb : Nat} {v : Value} {L : List Hd} (h : Lk w lb v L) : v.ownBlock ≠ some lb := by
  have hb := h.blk
  rcases h.ls.row.2 with ⟨rfl, _⟩ | ⟨g, cap, cur, rfl, _, hg, _⟩
  · intro e; simp [Value.ownBlock] at e
  · intro e
    simp only [Value.ownBlock, Option.some.injEq] at e
    subst e
    rw [hg] at hb
    simp at hb

theorem Lk.kept {A : Nat → Prop} {w w' : World} {lb : Nat} {v : Value} {L : List Hd} (h : Lk w lb v L) (s : Step A w w') (h1 : ¬ A lb) (h2 : ∀ k, v.ownBlock = some k → ¬ A k) : Lk w' lb v L :=
  ⟨(s.block lb h.at' h1).trans h.blk, h.ls.kept s h2⟩
theorem Lk.kp {w w' : World} {lb : Nat} {v : Value} {L : List Hd} (h : Lk w lb v L) (s : Kp w w') : Lk w' lb v L := h.kept s (fun q => q) (fun _ _ q => q)

/-- semaphores at lb; A: the blocks that are their own -/
structure LRep (w : World) (lb : Nat) (A : Nat → Prop) (L : List Hd) : Prop where
  own : A lb
  lt : ∀ k, A k → k < w.heap.size
  mem : ∃ v, Lk w lb v L ∧ ∀ k, v.ownBlock = some k → A k

/-- what is held is now L': nothing but their own blocks has turned -/
def LWent (w : World) (lb : Nat) (A : Nat → Prop) (L' : List Hd) (w' : World) : Prop := ∃ B, LRep w' lb B L' ∧ Step A w w' ∧ ∀ k, k < w.heap.size → B k → A k

theorem LRep.kept {A B : Nat → Prop} {w w' : World} {lb : Nat} {L : List Hd} (h : LRep w lb A L) (s : Step B w w') (hd : ∀ k, A k → ¬ B k) : LRep w' lb A L := by
  obtain ⟨v, hv, ho⟩ := h.mem
  exact ⟨h.own, fun k hk => Nat.lt_of_lt_of_le (h.lt k hk) s.size, v, hv.kept s (hd _ h.own) (fun k hk => hd k (ho k hk)), ho⟩
theorem LRep.kp {A : Nat → Prop} {w w' : World} {lb : Nat} {L : List Hd} (h : LRep w lb A L) (s : Kp w w') : LRep w' lb A L := h.kept s (fun _ _ q => q)
theorem LRep.len {A : Nat → Prop} {w : World} {lb : Nat} {L : List Hd} (h : LRep w lb A L) : L.length ≤ 5864062014805 := by
  obtain ⟨v, hv, _⟩ := h.mem
  exact hv.ls.len
theorem LWent.same {A : Nat → Prop} {w w' : World} {lb : Nat} {L : List Hd} (h : LRep w lb A L) (s : Kp w w') : LWent w lb A L w' := ⟨A, h.kp s, s.any, fun _ _ q => q⟩

/-- what a call leaves where the row stays, or is new -/
theorem lwent_of {A : Nat → Prop} {w w' : World} {lb : Nat} {v' : Value} {L L' : List Hd} (h : LRep w lb A L) (h' : Lk w' lb v' L') (s : Step A w w') (ho : ∀ k, v'.ownBlock = some k → A k ∨ (w.heap.size ≤ k ∧ k < w'.heap.size)) : LWent w lb A L' w' := by
  refine ⟨fun k => A k ∨ v'.ownBlock = some k, ⟨.inl h.own, fun k hk => ?_, v', h', fun k hk => .inr hk⟩, s, fun k hk q => ?_⟩
  · rcases hk with hk | hk
    · exact Nat.lt_of_lt_of_le (h.lt k hk) s.size
    · rcases ho k hk with q | q
      · exact Nat.lt_of_lt_of_le (h.lt k q) s.size
      · exact q.2
  · rcases q with q | q
    · exact q
    · rcases ho k q with q | q
      · exact q
      · omega

theorem new_any (w : World) :
    Calls Try.prog 8 #[] w fun e w' => e = .returned (.pointer (some ⟨w.heap.size, 0, none⟩)) ∧ LRep w' w.heap.size (fun k => k = w.heap.size) [] ∧ Kp w w' := by
  have hr : ∀ w', w' = w.alloc (.cells #[.slice none 0 0] 57) → LRep w' w.heap.size (fun k => k = w.heap.size) [] ∧ Kp w w' := by
    intro w' e
    subst e
    exact ⟨⟨rfl, fun k hk => by subst hk; simp, .slice none 0 0, ⟨alloc_at w _, ls_nil _ _ _⟩, fun k hk => by simp [Value.ownBlock] at hk⟩, (Step.refl _ w).alloc _⟩
  go_enter Try.func8, Try.ntmps8
  go_wp2
  go_ret
  exact ⟨rfl, hr _ rfl⟩

/-! ### nil -/

theorem take_none (t s c : Int) (w : World) :
    Calls Try.prog 11 #[.pointer none, .int .i64 t, .int .i64 s, .int .i64 c] w fun e w' => e = .returned (.int .i64 1) ∧ Kp w w' := by
  have HA : Hid (∀ o, Kp w (w.alloc o)) := fun o => (Step.refl _ w).alloc o
  go_enter Try.func11, Try.ntmps11
  go_wp2
  go_ret
  exact ⟨rfl, HA.out _⟩

theorem give_none (t s : Int) (w : World) :
    Calls Try.prog 14 #[.pointer none, .int .i64 t, .int .i64 s] w fun e w' => e = .returned (.int .i64 1) ∧ Kp w w' := by
  have HA : Hid (∀ o, Kp w (w.alloc o)) := fun o => (Step.refl _ w).alloc o
  go_enter Try.func14, Try.ntmps14
  go_wp2
  go_ret
  exact ⟨rfl, HA.out _⟩

theorem spend_none (t : Int) (w : World) :
    Calls Try.prog 15 #[.pointer none, .int .i64 t] w fun e w' => e = .returned (.tuple #[]) ∧ Kp w w' := by
  go_enter Try.func15, Try.ntmps15
  go_wp2
  exact bodyPost_ret (v := .tuple #[]) (by simp [results, Try.results15, go_sem]) rfl ⟨rfl, Step.refl _ _⟩

theorem over_none (t : Int) (w : World) :
    Calls Try.prog 17 #[.pointer none, .int .i64 t] w fun e w' => e = .returned (.bool false) ∧ Kp w w' := by
  have HA : Hid (∀ o, Kp w (w.alloc o)) := fun o => (Step.refl _ w).alloc o
  go_enter Try.func17, Try.ntmps17
  go_wp2
  go_ret
  exact ⟨rfl, HA.out _⟩

theorem free_none (t : Int) (w : World) :
    Calls Try.prog 19 #[.pointer none, .int .i64 t] w fun e w' => e = .returned (.tuple #[]) ∧ Kp w w' := by
  have HA : Hid (∀ o, Kp w (w.alloc o)) := fun o => (Step.refl _ w).alloc o
  go_enter Try.func19, Try.ntmps19
  go_wp2
  exact bodyPost_ret (v := .tuple #[]) (by simp [results, Try.results19, go_sem]) rfl ⟨rfl, HA.out _⟩

theorem list_none (w : World) :
    Calls Try.prog 24 #[.pointer none] w fun e w' => e = .returned (.slice none 0 0) ∧ w = w' := by
  go_enter Try.func24, Try.ntmps24
  go_wp2
  go_ret
  exact ⟨rfl, rfl⟩

theorem lceil_none (a : Value) (w : World) :
    Calls Try.prog 21 #[.pointer none, a] w fun e w' => e = .returned (.int .i64 1099511627776) ∧ w = w' := by
  go_enter Try.func21, Try.ntmps21
  go_wp2
  go_ret
  exact ⟨rfl, rfl⟩

/-! ### Over, List -/

theorem over_any (lb : Nat) (A : Nat → Prop) (L : List Hd) (t : Int) (w : World) (h : LRep w lb A L) :
    Calls Try.prog 17 #[.pointer (some ⟨lb, 0, none⟩), .int .i64 t] w fun e w' => e = .returned (.bool (overB L t)) ∧ Kp w w' := by
  obtain ⟨v, hv, _⟩ := h.mem
  obtain ⟨ao, cap, rfl, hl⟩ := hv.ls.lies
  have hmf : ∀ (fn : Fn) (first cap : Array Value) (w : World), (Instr.makeFunc fn first cap).run Try.prog w = .ok (.func fn first cap) w := fun _ _ _ _ => rfl
  have hlen := h.len
  have HC : Hid (∀ W, Kp w W → w.heap.size < W.heap.size → W.cell? ⟨w.heap.size, 0, none⟩ = some (.int .i64 t) → Calls Try.prog 25 #[.slice ao L.length cap, .func (.func 30) #[] #[.pointer (some ⟨w.heap.size, 0, none⟩)]] W
      fun e w' => e = .returned (.bool (overB L t)) ∧ Kp W w') := fun W k hs hc => contains_any (fun _ => False) _ _ _ _ _ _ L W (hl.kp k) hlen (enters_of Try.func30 (by kernel_rfl) rfl) (over_lit _ t _ W hs (fun q => q) hc)
  have h0 := hv.c
  have hlt := hv.at'
  generalize L.length = n at *
  clear hl hv h hlen
  go_enter Try.func17, Try.ntmps17
  go_wp2_with fail
  refine (HC.out _ ((Step.refl _ _).alloc _) (by simp) (by simp)).mono ?_
  rintro e w1 ⟨rfl, k1⟩
  go_wp2
  go_ret
  exact ⟨rfl, ((Step.refl _ _).alloc _).trans k1⟩

set_option maxHeartbeats 4000000 in
theorem list_any (lb : Nat) (A : Nat → Prop) (L : List Hd) (w : World) (h : LRep w lb A L) :
    Calls Try.prog 24 #[.pointer (some ⟨lb, 0, none⟩)] w fun e w' => e = .returned (.slice (some ⟨w.heap.size, 0, none⟩) L.length L.length) ∧ Ls w' 53 w.heap.size (.slice (some ⟨w.heap.size, 0, none⟩) L.length L.length) L ∧ Kp w w' := by
  obtain ⟨v, hv, _⟩ := h.mem
  have h0 := hv.c
  have hlen := hv.ls.len
  have hlt := hv.at'
  clear h
  obtain ⟨i0, hi, hz0, hz1, hz2⟩ := info_parts hd_info
  have hs3 : (Try.prog.info? 53).map (·.size) = some 3 := by rw [hi]; simp [hz1]
  rcases hv.ls.cases with ⟨rfl, rfl⟩ | ⟨g, cap, rfl, hbg, hg, _⟩
  · go_enter Try.func24, Try.ntmps24
    go_wp2_with (first
      | (refine wpList_make_full _ rfl _ _ 46 rfl w.heap.size 53 i0 _ 3 Try.underlying46 hi hz0 hz1 .i64 .i64 0 0 0 rfl rfl rfl rfl (by simp) (by unfold maxLen; omega) (Nat.le_refl _) ?_; intro w1 row1 hg1; have K1 : Kp w w1 := ⟨hg1.os, hg1.tape, hg1.output, hg1.size, fun k hk _ => hg1.block k hk (by simp)⟩; have T1 := hv.kp K1; have q0 := T1.c)
      | (refine wpList_copy_three _ rfl _ _ 46 53 rfl Try.underlying46 hs3 w.heap.size 0 w.heap.size 0 (.slice none 0 0) [] _ rfl rfl rfl row1 T1.ls.row (by simp [Value.ownBlock]) ?_; intro w2 row2 s2)
      | fail)
    go_ret
    exact ⟨rfl, ⟨row2, hlen⟩, Step.trans_new K1 s2 (fun i hi q => by omega)⟩
  · have hne : Hid ((Value.slice (some ⟨g, 0, none⟩) L.length cap).ownBlock ≠ some w.heap.size) := by
      intro e
      simp only [Value.ownBlock, Option.some.injEq] at e
      omega
    go_enter Try.func24, Try.ntmps24
    go_wp2_with (first
      | (refine wpList_make_full _ rfl _ _ 46 rfl w.heap.size 53 i0 _ 3 Try.underlying46 hi hz0 hz1 .i64 .i64 (L.length : Int) (L.length : Int) L.length rfl rfl rfl rfl (by rw [hz2]; omega) (by unfold maxLen; omega) (Nat.le_refl _) ?_; intro w1 row1 hg1; have K1 : Kp w w1 := ⟨hg1.os, hg1.tape, hg1.output, hg1.size, fun k hk _ => hg1.block k hk (by simp)⟩; have T1 := hv.kp K1; have q0 := T1.c)
      | (refine wpList_copy_three _ rfl _ _ 46 53 rfl Try.underlying46 hs3 w.heap.size 0 w.heap.size L.length (.slice (some ⟨g, 0, none⟩) L.length cap) L _ rfl rfl rfl row1 T1.ls.row hne.out ?_; intro w2 row2 s2)
      | fail)
    go_ret
    exact ⟨rfl, ⟨row2, hlen⟩, Step.trans_new K1 s2 (fun i hi q => by omega)⟩

end Go.Proofs.Ytlcbgkicooeklaa.LK
