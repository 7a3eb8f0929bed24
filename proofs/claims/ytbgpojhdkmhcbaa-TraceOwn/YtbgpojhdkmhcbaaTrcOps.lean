/- What a trace's calls do, in terms of the intervals that it has. -/
import Derived.Test.YtbgpojhdkmhcbaaTrcJoin
namespace Go.Proofs.Ytbgpojhdkmhcbaa.TC
open Go.ChangeShapes Go.WideShapes Go.ChangeAt Go.RowKit Go.Proofs.Ytbgpojhdkmhcbaa.AR

/-- a trace at tb that has the intervals L; its row v lies from base on -/
structure Tr (w : World) (tb base : Nat) (v : Value) (L : List I6) : Prop where
  blk : w.heap[tb]? = some (.cells #[v] 39 (0, 0))
  ls : Ls w base v L

theorem Tr.lt {w : World} {tb base : Nat} {v : Value} {L : List I6} (h : Tr w tb base v L) : tb < w.heap.size := lt_blk h.blk
theorem Tr.c {w : World} {tb base : Nat} {v : Value} {L : List I6} (h : Tr w tb base v L) : w.cell? ⟨tb, 0, none⟩ = some v := by simp [World.cell?, h.blk]
theorem Tr.fr {w : World} {tb base : Nat} {v : Value} {L : List I6} (h : Tr w tb base v L) : w.frozen? ⟨tb, 0, none⟩ = false := by simp [World.frozen?, h.blk]

/-- its row is not its block -/
theorem row_ne {w : World} {base tb : Nat} {v u : Value} {L : List I6} (h : Ls w base v L) (hb : w.heap[tb]? = some (.cells #[u] 39 (0, 0))) : v.ownBlock ≠ some tb := by
  rcases h.row.2 with ⟨rfl, _⟩ | ⟨g, cap, cur, rfl, _, hg, _⟩
  · intro e; simp [Value.ownBlock] at e
  · intro e
    simp only [Value.ownBlock, Option.some.injEq] at e
    subst e
    rw [hg] at hb
    simp at hb

theorem Tr.kept {A : Nat → Prop} {w w' : World} {tb base : Nat} {v : Value} {L : List I6} (h : Tr w tb base v L) (s : Step A w w') (h1 : ¬ A tb) (h2 : ∀ k, v.ownBlock = some k → ¬ A k) : Tr w' tb base v L :=
  ⟨(s.block tb h.lt h1).trans h.blk, h.ls.kept s h2⟩
theorem Tr.kp {w w' : World} {tb base : Nat} {v : Value} {L : List I6} (h : Tr w tb base v L) (s : Kp w w') : Tr w' tb base v L := h.kept s (fun q => q) (fun _ _ q => q)

theorem new_any (w : World) :
    Calls Try.prog 8 #[] w fun e w' => e = .returned (.pointer (some ⟨w.heap.size, 0, none⟩)) ∧ Tr w' w.heap.size w.heap.size (.slice none 0 0) [] ∧ Kp w w' := by
  have hr : ∀ w', w' = w.alloc (.cells #[.slice none 0 0] 39) → Tr w' w.heap.size w.heap.size (.slice none 0 0) [] ∧ Kp w w' := by
    intro w' e
    subst e
    exact ⟨⟨alloc_at w _, ls_nil _ _⟩, (Step.refl _ w).alloc _⟩
  go_enter Try.func8, Try.ntmps8
  go_wp2
  go_ret
  exact ⟨rfl, hr _ rfl⟩

theorem addnil_any (y : I6) (w : World) :
    Calls Try.prog 11 #[.pointer none, y.v] w fun e w' => e = .returned (.tuple #[]) ∧ Kp w w' := by
  have HA : Hid (∀ o, Kp w (w.alloc o)) := fun o => (Step.refl _ w).alloc o
  unfold I6.v
  go_enter Try.func11, Try.ntmps11
  go_wp2
  exact bodyPost_ret (v := .tuple #[]) (by simp [results, Try.results11, go_sem]) rfl ⟨rfl, HA.out _⟩

theorem listnil_any (w : World) :
    Calls Try.prog 15 #[.pointer none] w fun e w' => e = .returned (.slice none 0 0) ∧ w = w' := by
  go_enter Try.func15, Try.ntmps15
  go_wp2
  go_ret
  exact ⟨rfl, rfl⟩

theorem endnil_any (w : World) :
    Calls Try.prog 13 #[.pointer none] w fun e w' => e = .returned (.int .i64 0) ∧ w = w' := by
  go_enter Try.func13, Try.ntmps13
  go_wp2
  go_ret
  exact ⟨rfl, rfl⟩

/-- what End answers -/
def endOf (L : List I6) : Int := if 0 < L.length then en (at6 L (L.length - 1)) else 0

theorem last_ix {L : List I6} (hl : L.length ≤ 2932031007402) (hp : 0 < L.length) : ∃ n, n < L.length ∧ L.length - 1 = n ∧ IntKind.i64.wrap ((L.length : Int) - 1) = (n : Int) ∧ (0 : Int) ≤ (n : Int) ∧ (n : Int) < (L.length : Int) ∧ ((n : Int)).toNat = n ∧ ((L.length : Int) == 0) = false := by
  refine ⟨L.length - 1, by omega, rfl, ?_, by omega, by omega, by omega, by simp only [beq_eq_false_iff_ne]; omega⟩
  rw [IntKind.wrap_i64]
  omega

set_option maxHeartbeats 4000000 in
theorem trend_any (tb base : Nat) (v : Value) (L : List I6) (w : World) (h : Tr w tb base v L) :
    Calls Try.prog 13 #[.pointer (some ⟨tb, 0, none⟩)] w fun e w' => e = .returned (.int .i64 (endOf L)) ∧ Kp w w' := by
  have h0 := h.c
  have hlen := h.ls.len
  by_cases hp : 0 < L.length
  · have HE : Hid (endOf L = en (at6 L (L.length - 1))) := if_pos hp
    rw [HE.out]
    clear HE
    obtain ⟨g, cap, rfl, hb, hg, _, hc⟩ := h.ls.pos hp
    obtain ⟨n, hn, e1, i0, i1, i2, i3, i4⟩ := last_ix hlen hp
    have c := hc n hn
    rw [e1]
    clear hc e1 h hp
    obtain ⟨d0, d1, d2, d3, d4, d5, _⟩ := c
    generalize at6 L n = x at *
    have HN : Hid (∀ W, Calls Try.prog 17 #[.agg #[.int .i64 x.k, .int .i64 x.f, .int .i64 x.l, .int .i64 x.a, .int .i64 x.t, .int .i64 x.c]] W fun e w' => e = .returned (.int .i64 (en x)) ∧ Kp W w') := fun W => end_any x W
    go_enter Try.func13, Try.ntmps13
    go_wp2_with fail
    go_still_tail 12, (by kernel_rfl)
    go_wp2_with (first
      | (go_at_call 17; refine (HN.out _).mono ?_; rintro e w3 ⟨rfl, k3⟩)
      | fail)
    go_ret
    exact ⟨rfl, ⟨k3.os, k3.tape, k3.output, k3.size, k3.block⟩⟩
  · have HE : Hid (endOf L = 0) := if_neg hp
    rw [HE.out]
    clear HE
    have hz : L.length = 0 := by omega
    obtain rfl : L = [] := List.length_eq_zero_iff.1 hz
    rcases h.ls.cases with ⟨rfl, _⟩ | ⟨g, cap, rfl, _⟩
    all_goals
      go_enter Try.func13, Try.ntmps13
      go_wp2
      go_ret
      exact ⟨rfl, Step.refl _ _⟩

set_option maxHeartbeats 4000000 in
theorem list_any (tb base : Nat) (v : Value) (L : List I6) (w : World) (h : Tr w tb base v L) :
    Calls Try.prog 15 #[.pointer (some ⟨tb, 0, none⟩)] w fun e w' => e = .returned (.slice (some ⟨w.heap.size, 0, none⟩) L.length L.length) ∧ Ls w' w.heap.size (.slice (some ⟨w.heap.size, 0, none⟩) L.length L.length) L ∧ Kp w w' := by
  have h0 := h.c
  have hlen := h.ls.len
  have hlt := h.lt
  obtain ⟨i0, hi, hz0, hz1, hz2⟩ := info_parts iv_info
  have hs6 : (Try.prog.info? 27).map (·.size) = some 6 := by rw [hi]; simp [hz1]
  rcases h.ls.cases with ⟨rfl, rfl⟩ | ⟨g, cap, rfl, hbg, hg, _⟩
  · go_enter Try.func15, Try.ntmps15
    go_wp2_with (first
      | (refine wpList_make_full _ rfl _ _ 22 rfl w.heap.size 27 i0 _ 6 Try.underlying22 hi hz0 hz1 .i64 .i64 0 0 0 rfl rfl rfl rfl (by simp) (by unfold maxLen; omega) (Nat.le_refl _) ?_; intro w1 row1 hg1; have K1 : Kp w w1 := ⟨hg1.os, hg1.tape, hg1.output, hg1.size, fun k hk _ => hg1.block k hk (by simp)⟩; have T1 := h.kp K1; have q0 := T1.c)
      | (refine wpList_copy_six _ rfl _ _ 22 27 rfl Try.underlying22 hs6 w.heap.size base w.heap.size 0 (.slice none 0 0) [] _ rfl rfl rfl row1 T1.ls.row (by simp [Value.ownBlock]) ?_; intro w2 row2 s2)
      | fail)
    go_ret
    exact ⟨rfl, ⟨row2, hlen⟩, Step.trans_new K1 s2 (fun i hi q => by omega)⟩
  · have hne : Hid ((Value.slice (some ⟨g, 0, none⟩) L.length cap).ownBlock ≠ some w.heap.size) := by
      intro e
      simp only [Value.ownBlock, Option.some.injEq] at e
      omega
    go_enter Try.func15, Try.ntmps15
    go_wp2_with (first
      | (refine wpList_make_full _ rfl _ _ 22 rfl w.heap.size 27 i0 _ 6 Try.underlying22 hi hz0 hz1 .i64 .i64 (L.length : Int) (L.length : Int) L.length rfl rfl rfl rfl (by rw [hz2]; omega) (by unfold maxLen; omega) (Nat.le_refl _) ?_; intro w1 row1 hg1; have K1 : Kp w w1 := ⟨hg1.os, hg1.tape, hg1.output, hg1.size, fun k hk _ => hg1.block k hk (by simp)⟩; have T1 := h.kp K1; have q0 := T1.c)
      | (refine wpList_copy_six _ rfl _ _ 22 27 rfl Try.underlying22 hs6 w.heap.size base w.heap.size L.length (.slice (some ⟨g, 0, none⟩) L.length cap) L _ rfl rfl rfl row1 T1.ls.row hne.out ?_; intro w2 row2 s2)
      | fail)
    go_ret
    exact ⟨rfl, ⟨row2, hlen⟩, Step.trans_new K1 s2 (fun i hi q => by omega)⟩

end Go.Proofs.Ytbgpojhdkmhcbaa.TC
