/- What rising and sinking do: the same entries, all in order. -/
import Derived.Test.YthhhakglchcfgaaSwap
namespace Go.Proofs.Ythhhakglchcfgaa.HW
open Go.ChangeShapes Go.WideShapes Go.ChangeAt Go.RowKit Go.Proofs.Ythhhakglchcfgaa.HP Go.Maps Go.Proofs.Ythhhakglchcfgaa.HM

theorem noGoto_normal {Q : Exit → Act → World → Prop} {a : Act} {w : World} : Exit.noGoto Q .normal a w = Q .normal a w := rfl

theorem wrapI {x : Int} (h : W64 x) : IntKind.i64.wrap x = x := by
  obtain ⟨h1, h2⟩ := h
  rw [IntKind.wrap_i64]
  omega

/-- the heap has the same entries, all in order but that what stands at q may be behind its children -/
def Rose (w : World) (hb g cap bm : Nat) (es : List E) (q : Nat) (w' : World) : Prop :=
  ∃ (D' : DataW Unit) (es' : List E), q < es'.length ∧ Mem w' hb g cap bm D' es' ∧ HP.Sink es' q ∧ es'.Perm es ∧ Step (fun k => k = g ∨ k = bm) w w'

/-- the heap has the same entries, all in order -/
def Sunk (w : World) (hb g cap bm : Nat) (es : List E) (w' : World) : Prop :=
  ∃ (D' : DataW Unit) (es' : List E), Mem w' hb g cap bm D' es' ∧ Ord es' ∧ es'.Perm es ∧ Step (fun k => k = g ∨ k = bm) w w'

set_option maxHeartbeats 4000000 in
set_option maxRecDepth 100000 in
theorem rise_any (hb g cap bm p : Nat) (D : DataW Unit) (es : List E) (w : World) (m : Mem w hb g cap bm D es) (hp : p < es.length) (hpre : Pre es p) :
    Calls Try.prog 24 #[.pointer (some ⟨hb, 0, none⟩), .int .i64 p] w fun e w' => ∃ q : Nat, e = .returned (.int .i64 q) ∧ Rose w hb g cap bm es q w' := by
  go_enter Try.func24, Try.ntmps24
  go_wp2
  go_loopw [1] (fun s wr => ∃ (k : Nat) (D' : DataW Unit) (es' : List E), s = .int .i64 k ∧ k < es'.length ∧ Mem wr hb g cap bm D' es' ∧ Pre es' k ∧ es'.Perm es ∧ Step (fun k => k = g ∨ k = bm) w wr) (fun s _ => (intOf s).toNat)
  case atStart => exact ⟨p, D, es, rfl, hp, m, hpre, List.Perm.refl _, Step.refl _ _⟩
  case round =>
    obtain ⟨k, D', es', rfl, hk, m', hpre', hperm, hst⟩ := hrel
    by_cases k0 : k = 0
    · have HS : Hid (HP.Sink es' k) := pre_stop hpre' (Or.inl k0)
      have hk0 : ¬ (0 : Int) < (k : Int) := by omega
      clear k0
      go_wp2
      go_ret
      exact ⟨k, rfl, D', es', hk, m', HS.out, hperm, hst⟩
    · have hk0 : 0 < k := by omega
      have hlen := m'.len
      obtain ⟨q, hq⟩ : ∃ q : Nat, ((k : Int) - 1) / 2 = (q : Int) := ⟨(k - 1) / 2, by omega⟩
      have HQ : Hid (q = (k - 1) / 2) := by show q = _; omega
      have hqk : q < k := by omega
      have hql : q < es'.length := by omega
      have iA : (k : Int) < (es'.length : Int) := by omega
      have iB : (q : Int) < (es'.length : Int) := by omega
      have h0 := m'.h0
      have ca0 := m'.c0 hk
      have ca1 := m'.c1 hk
      have cb0 := m'.c0 hql
      have cb1 := m'.c1 hql
      cases hlt : ltB (at' es' k) (at' es' q)
      · have HS : Hid (HP.Sink es' k) := pre_stop hpre' (Or.inr (by rw [← HQ.out]; exact hlt))
        go_wp2_with fail
        go_still_tail 14, (by kernel_rfl)
        go_wp2_with (go_at_call 26; refine (before_any _ _ _ _ _).mono ?_; rintro e w2 ⟨rfl, hs2⟩)
        go_ret
        exact ⟨k, rfl, D', es', hk, m'.kept (A := fun _ => False) ⟨hs2.os, hs2.tape, hs2.output, hs2.size, hs2.block⟩ id id id, HS.out, hperm, hst.trans ⟨hs2.os, hs2.tape, hs2.output, hs2.size, fun k hk hA => hs2.block k hk id⟩⟩
      · have HS : Hid (Pre (swp es' k q) q) := by
          have := pre_rise hk hk0 hpre' (by rw [← HQ.out]; exact hlt)
          rw [← HQ.out] at this; exact this
        go_wp2_with fail
        go_still_tail 14, (by kernel_rfl)
        go_wp2_with (first | (go_at_call 26; refine (before_any _ _ _ _ _).mono ?_; rintro e w2 ⟨rfl, hs2⟩) | fail)
        have m2 : Mem w2 hb g cap bm D' es' := m'.kept (A := fun _ => False) ⟨hs2.os, hs2.tape, hs2.output, hs2.size, hs2.block⟩ id id id
        refine (swap_i hb g cap bm k q k q D' es' _ rfl rfl m2 hk hql).mono ?_
        rintro e w3 ⟨rfl, ⟨D3, m3⟩, hs3⟩
        go_wp2
        go_roundw
        case rel => exact ⟨q, D3, _, rfl, by rw [swp_len]; exact hql, m3, HS.out, (swp_perm hk hql).trans hperm, (hst.trans ⟨hs2.os, hs2.tape, hs2.output, hs2.size, fun k hk hA => hs2.block k hk id⟩).trans hs3⟩
        case measure => simp [intOf]; omega

set_option maxHeartbeats 4000000 in
set_option maxRecDepth 100000 in
theorem sink_any (hb g cap bm p : Nat) (D : DataW Unit) (es : List E) (w : World) (m : Mem w hb g cap bm D es) (hp : p < es.length) (hpre : HP.Sink es p) :
    Calls Try.prog 23 #[.pointer (some ⟨hb, 0, none⟩), .int .i64 p] w fun e w' => e = .returned (.tuple #[]) ∧ Sunk w hb g cap bm es w' := by
  go_enter Try.func23, Try.ntmps23
  go_wp2
  go_step3
  go_wp2
  go_step3
  go_wp2
  go_loopw [1] (fun s wr => ∃ (k : Nat) (D' : DataW Unit) (es' : List E), s = .int .i64 k ∧ k < es'.length ∧ Mem wr hb g cap bm D' es' ∧ HP.Sink es' k ∧ es'.Perm es ∧ Step (fun k => k = g ∨ k = bm) w wr) (fun s _ => es.length - (intOf s).toNat)
  case atStart => exact ⟨p, D, es, rfl, hp, m, hpre, List.Perm.refl _, Step.refl _ _⟩
  case round =>
    obtain ⟨k, D', es', rfl, hk, m', hpre', hperm, hst⟩ := hrel
    have HLE : Hid (es'.length = es.length) := hperm.length_eq
    have hlen := m'.len
    have h0 := m'.h0
    have ca0 := m'.c0 hk
    have ca1 := m'.c1 hk
    have iA : (k : Int) < (es'.length : Int) := by omega
    have wC : IntKind.i64.wrap (2 * (k : Int) + 1 + 1) = 2 * (k : Int) + 2 := wrapI ⟨by omega, by omega⟩
    by_cases c1 : 2 * k + 1 < es'.length
    · have cb0 := m'.c0 c1
      have cb1 := m'.c1 c1
      have iB : 2 * (k : Int) + 1 < (es'.length : Int) := by omega
      have p1 : (0 : Int) ≤ 2 * (k : Int) + 1 := by omega
      have p2 : (0 : Int) ≤ 2 * (k : Int) + 2 := by omega
      have tB : (2 * (k : Int) + 1).toNat = 2 * k + 1 := by omega
      by_cases c2 : 2 * k + 2 < es'.length
      · have cc0 := m'.c0 c2
        have cc1 := m'.c1 c2
        have iC : 2 * (k : Int) + 2 < (es'.length : Int) := by omega
        have tC : (2 * (k : Int) + 2).toNat = 2 * k + 2 := by omega
        cases h2 : ltB (at' es' (2 * k + 2)) (at' es' (2 * k + 1))
        · -- the left child is the first one
          cases hlt : ltB (at' es' (2 * k + 1)) (at' es' k)
          · have HS : Hid (Ord es') := sink_stop hpre' (fun c c0 cl cp => by
              obtain rfl | rfl : c = 2 * k + 1 ∨ c = 2 * k + 2 := by omega
              · exact hlt
              · exact ge_trans h2 hlt)
            go_wp2_with fail
            go_still_tail 24, (by kernel_rfl)
            go_wp2_with (go_at_call 26; refine (before_any _ _ _ _ _).mono ?_; rintro e w2 ⟨rfl, hs2⟩)
            have m2 : Mem w2 hb g cap bm D' es' := m'.kept (A := fun _ => False) hs2.none id id id
            have hst2 : Step (fun k => k = g ∨ k = bm) w w2 := hst.trans hs2.none
            have h0 := m2.h0
            have ca0 := m2.c0 hk
            have ca1 := m2.c1 hk
            have cb0 := m2.c0 (i := 2 * k + 1) (by omega)
            have cb1 := m2.c1 (i := 2 * k + 1) (by omega)
            go_still_tail 14, (by kernel_rfl)
            go_wp2_with (go_at_call 26; refine (before_any _ _ _ _ _).mono ?_; rintro e w3 ⟨rfl, hs3⟩)
            rw [noGoto_normal]
            go_end0
            exact ⟨rfl, D', es', m2.kept (A := fun _ => False) hs3.none id id id, HS.out, hperm, hst2.trans hs3.none⟩
          · have HS : Hid (HP.Sink (swp es' k (2 * k + 1)) (2 * k + 1)) := sink_step hk (by omega) (by omega) (by omega) hpre' hlt (fun s s0 sl sp sn => by
              obtain rfl : s = 2 * k + 2 := by omega
              exact h2)
            go_wp2_with fail
            go_still_tail 24, (by kernel_rfl)
            go_wp2_with (go_at_call 26; refine (before_any _ _ _ _ _).mono ?_; rintro e w2 ⟨rfl, hs2⟩)
            have m2 : Mem w2 hb g cap bm D' es' := m'.kept (A := fun _ => False) hs2.none id id id
            have hst2 : Step (fun k => k = g ∨ k = bm) w w2 := hst.trans hs2.none
            have h0 := m2.h0
            have ca0 := m2.c0 hk
            have ca1 := m2.c1 hk
            have cb0 := m2.c0 (i := 2 * k + 1) (by omega)
            have cb1 := m2.c1 (i := 2 * k + 1) (by omega)
            go_still_tail 14, (by kernel_rfl)
            go_wp2_with (go_at_call 26; refine (before_any _ _ _ _ _).mono ?_; rintro e w3 ⟨rfl, hs3⟩)
            have m3 : Mem w3 hb g cap bm D' es' := m2.kept (A := fun _ => False) hs3.none id id id
            refine (swap_i hb g cap bm k (2 * (k : Int) + 1) k (2 * k + 1) D' es' _ rfl (by omega) m3 hk (by omega)).mono ?_
            rintro e w4 ⟨rfl, ⟨D4, m4⟩, hs4⟩
            go_wp2
            go_roundw
            case rel => exact ⟨2 * k + 1, D4, _, by go_num, by rw [swp_len]; omega, m4, HS.out, (swp_perm hk (by omega)).trans hperm, (hst2.trans hs3.none).trans hs4⟩
            case measure => have := HLE.out; simp [intOf]; omega
        · -- the right child is the first one
          cases hlt : ltB (at' es' (2 * k + 2)) (at' es' k)
          · have HS : Hid (Ord es') := sink_stop hpre' (fun c c0 cl cp => by
              obtain rfl | rfl : c = 2 * k + 1 ∨ c = 2 * k + 2 := by omega
              · exact ge_trans (ltB_asymm h2) hlt
              · exact hlt)
            go_wp2_with fail
            go_still_tail 24, (by kernel_rfl)
            go_wp2_with (go_at_call 26; refine (before_any _ _ _ _ _).mono ?_; rintro e w2 ⟨rfl, hs2⟩)
            have m2 : Mem w2 hb g cap bm D' es' := m'.kept (A := fun _ => False) hs2.none id id id
            have hst2 : Step (fun k => k = g ∨ k = bm) w w2 := hst.trans hs2.none
            have h0 := m2.h0
            have ca0 := m2.c0 hk
            have ca1 := m2.c1 hk
            have cb0 := m2.c0 (i := 2 * k + 2) (by omega)
            have cb1 := m2.c1 (i := 2 * k + 2) (by omega)
            go_still_tail 14, (by kernel_rfl)
            go_wp2_with (go_at_call 26; refine (before_any _ _ _ _ _).mono ?_; rintro e w3 ⟨rfl, hs3⟩)
            rw [noGoto_normal]
            go_end0
            exact ⟨rfl, D', es', m2.kept (A := fun _ => False) hs3.none id id id, HS.out, hperm, hst2.trans hs3.none⟩
          · have HS : Hid (HP.Sink (swp es' k (2 * k + 2)) (2 * k + 2)) := sink_step hk (by omega) (by omega) (by omega) hpre' hlt (fun s s0 sl sp sn => by
              obtain rfl : s = 2 * k + 1 := by omega
              exact ltB_asymm h2)
            go_wp2_with fail
            go_still_tail 24, (by kernel_rfl)
            go_wp2_with (go_at_call 26; refine (before_any _ _ _ _ _).mono ?_; rintro e w2 ⟨rfl, hs2⟩)
            have m2 : Mem w2 hb g cap bm D' es' := m'.kept (A := fun _ => False) hs2.none id id id
            have hst2 : Step (fun k => k = g ∨ k = bm) w w2 := hst.trans hs2.none
            have h0 := m2.h0
            have ca0 := m2.c0 hk
            have ca1 := m2.c1 hk
            have cb0 := m2.c0 (i := 2 * k + 2) (by omega)
            have cb1 := m2.c1 (i := 2 * k + 2) (by omega)
            go_still_tail 14, (by kernel_rfl)
            go_wp2_with (go_at_call 26; refine (before_any _ _ _ _ _).mono ?_; rintro e w3 ⟨rfl, hs3⟩)
            have m3 : Mem w3 hb g cap bm D' es' := m2.kept (A := fun _ => False) hs3.none id id id
            refine (swap_i hb g cap bm k (2 * (k : Int) + 2) k (2 * k + 2) D' es' _ rfl (by omega) m3 hk (by omega)).mono ?_
            rintro e w4 ⟨rfl, ⟨D4, m4⟩, hs4⟩
            go_wp2
            go_roundw
            case rel => exact ⟨2 * k + 2, D4, _, by go_num, by rw [swp_len]; omega, m4, HS.out, (swp_perm hk (by omega)).trans hperm, (hst2.trans hs3.none).trans hs4⟩
            case measure => have := HLE.out; simp [intOf]; omega
      · have iC : decide (2 * (k : Int) + 2 < (es'.length : Int)) = false := decide_eq_false (by omega)
        cases hlt : ltB (at' es' (2 * k + 1)) (at' es' k)
        · have HS : Hid (Ord es') := sink_stop hpre' (fun c c0 cl cp => by
            obtain rfl | rfl : c = 2 * k + 1 ∨ c = 2 * k + 2 := by omega
            · exact hlt
            · exact absurd cl c2)
          go_wp2_with fail
          go_quiet (fail)
          go_wp2_with fail
          generalize hwq : World.drewN wr _ = w2
          have m2 : Mem w2 hb g cap bm D' es' := by rw [← hwq]; exact m'.kept (A := fun _ => False) ⟨rfl, rfl, rfl, Nat.le_refl _, fun _ _ _ => rfl⟩ id id id
          have hst2 : Step (fun k => k = g ∨ k = bm) w w2 := by rw [← hwq]; exact hst.trans ⟨rfl, rfl, rfl, Nat.le_refl _, fun _ _ _ => rfl⟩
          clear hwq
          have h0 := m2.h0
          have ca0 := m2.c0 hk
          have ca1 := m2.c1 hk
          have cb0 := m2.c0 (i := 2 * k + 1) (by omega)
          have cb1 := m2.c1 (i := 2 * k + 1) (by omega)
          go_still_tail 14, (by kernel_rfl)
          go_wp2_with (go_at_call 26; refine (before_any _ _ _ _ _).mono ?_; rintro e w3 ⟨rfl, hs3⟩)
          rw [noGoto_normal]
          go_end0
          exact ⟨rfl, D', es', m2.kept (A := fun _ => False) hs3.none id id id, HS.out, hperm, hst2.trans hs3.none⟩
        · have HS : Hid (HP.Sink (swp es' k (2 * k + 1)) (2 * k + 1)) := sink_step hk (by omega) (by omega) (by omega) hpre' hlt (fun s s0 sl sp sn => by
            obtain rfl : s = 2 * k + 2 := by omega
            exact absurd sl c2)
          go_wp2_with fail
          go_quiet (fail)
          go_wp2_with fail
          generalize hwq : World.drewN wr _ = w2
          have m2 : Mem w2 hb g cap bm D' es' := by rw [← hwq]; exact m'.kept (A := fun _ => False) ⟨rfl, rfl, rfl, Nat.le_refl _, fun _ _ _ => rfl⟩ id id id
          have hst2 : Step (fun k => k = g ∨ k = bm) w w2 := by rw [← hwq]; exact hst.trans ⟨rfl, rfl, rfl, Nat.le_refl _, fun _ _ _ => rfl⟩
          clear hwq
          have h0 := m2.h0
          have ca0 := m2.c0 hk
          have ca1 := m2.c1 hk
          have cb0 := m2.c0 (i := 2 * k + 1) (by omega)
          have cb1 := m2.c1 (i := 2 * k + 1) (by omega)
          go_still_tail 14, (by kernel_rfl)
          go_wp2_with (go_at_call 26; refine (before_any _ _ _ _ _).mono ?_; rintro e w3 ⟨rfl, hs3⟩)
          have m3 : Mem w3 hb g cap bm D' es' := m2.kept (A := fun _ => False) hs3.none id id id
          refine (swap_i hb g cap bm k (2 * (k : Int) + 1) k (2 * k + 1) D' es' _ rfl (by omega) m3 hk (by omega)).mono ?_
          rintro e w4 ⟨rfl, ⟨D4, m4⟩, hs4⟩
          go_wp2
          go_roundw
          case rel => exact ⟨2 * k + 1, D4, _, by go_num, by rw [swp_len]; omega, m4, HS.out, (swp_perm hk (by omega)).trans hperm, (hst2.trans hs3.none).trans hs4⟩
          case measure => have := HLE.out; simp [intOf]; omega
    · have HS : Hid (Ord es') := sink_stop hpre' (fun c c0 cl cp => by omega)
      have iB : ¬ 2 * (k : Int) + 1 < (es'.length : Int) := by omega
      go_wp2
      go_end0
      exact ⟨rfl, D', es', m', HS.out, hperm, hst⟩

set_option maxHeartbeats 1000000 in
theorem settle_any (hb g cap bm p : Nat) (D : DataW Unit) (es : List E) (w : World) (m : Mem w hb g cap bm D es) (hp : p < es.length) (hpre : Pre es p) :
    Calls Try.prog 21 #[.pointer (some ⟨hb, 0, none⟩), .int .i64 p] w fun e w' => e = .returned (.tuple #[]) ∧ Sunk w hb g cap bm es w' := by
  go_enter Try.func21, Try.ntmps21
  go_wp2_with fail
  refine (rise_any hb g cap bm p D es _ m hp hpre).mono ?_
  rintro e w1 ⟨q, rfl, D1, es1, hq, m1, hs1, hp1, st1⟩
  go_wp2_with fail
  refine (sink_any hb g cap bm q D1 es1 _ m1 hq hs1).mono ?_
  rintro e w2 ⟨rfl, D2, es2, m2, ho2, hp2, st2⟩
  go_wp2
  go_end0
  exact ⟨rfl, D2, es2, m2, ho2, hp2.trans hp1, st1.trans st2⟩

end Go.Proofs.Ythhhakglchcfgaa.HW
