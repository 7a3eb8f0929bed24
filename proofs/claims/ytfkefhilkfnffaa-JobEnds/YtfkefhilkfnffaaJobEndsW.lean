/- A job ends behind just as many cycles as it takes, or as its task may have. -/
import Derived.Test.YtfkefhilkfnffaaJobAns
namespace Go.Proofs.Ytfkefhilkfnffaa.JB
open Go.ChangeShapes Go.WideShapes Go.ChangeAt Go.RowKit Go.Proofs.Ytfkefhilkfnffaa.AR Go.Proofs.Ytfkefhilkfnffaa.TB Go.Proofs.Ytfkefhilkfnffaa.TK

theorem run_min2 (ts : Array TypeId) (t : TypeId) (a b : Int) (w : World) : (Builtin.min_ ts t #[.int .i64 a, .int .i64 b]).run Try.prog w = .ok (.int .i64 (if b < a then b else a)) w := by
  simp [Builtin.min_, Builtin.min2]

theorem eu16_in {x : Int} (h : (Lit.int .u16 x).wf = true) : 0 ≤ x ∧ x ≤ 65535 := by
  simp [Lit.wf, IntKind.min, IntKind.max, IntKind.signed, IntKind.bits] at h
  omega

/-- one number in a block of its own -/
theorem one_num (w : World) (a : Int) : ∃ V, Hid (V = w.alloc (.cells #[.int .i64 a] 3)) ∧ Kp w V ∧ ∀ i, i < 1 → V.cell? ⟨w.heap.size, 0 + i, none⟩ = some (.int .i64 ([a].getD i 0)) :=
  ⟨_, rfl, (Kp.refl _).alloc _, nums_at (zs := [a]) (heap_alloc_at w (.cells #[.int .i64 a] 3))⟩

/-- the job that is asked -/
abbrev eJ (n l y : Int) : Jb := ⟨n, 0, 5, l, y, false⟩

theorem e_new (n c x : Int) (W : World) : Calls Try.prog 10 #[.int .i64 n, .agg #[.int .i64 5, .int .i64 c, .slice none 0 0, .slice none 0 0], .int .i64 0, .int .i64 x] W fun e w' => e = .returned (.agg #[.int .i64 n, .int .i64 0, .int .i64 5, .int .i64 c, .int .i64 x, .bool false]) ∧ Kp W w' := by
  have h := new_any n ⟨5, c, none, 0, 0, [], none, 0, 0, []⟩ 0 x W
  rw [nwJ_in (by dsimp only; omega)] at h
  exact h

theorem e_step (n l y : Int) (W : World) (hl : 1 ≤ l ∧ l ≤ 70000) (hy : 1 ≤ y ∧ y ≤ 70000) : Calls Try.prog 11 #[.agg #[.int .i64 n, .int .i64 0, .int .i64 5, .int .i64 l, .int .i64 y, .bool false]] W fun e w' => e = .returned (.tuple #[.agg #[.int .i64 n, .int .i64 0, .int .i64 5, .int .i64 (l - 1), .int .i64 (y - 1), .bool false], .int .i64 (if y ≤ 1 then 2 else if l ≤ 1 then 3 else 0)]) ∧ Kp W w' := by
  have h := step_any (eJ n l y) W
  have e : enI ⟨n, 0, 5, l - 1, y - 1, false⟩ = if y ≤ 1 then 2 else if l ≤ 1 then 3 else 0 := by
    unfold enI
    by_cases a : y ≤ 1
    · rw [if_pos a, if_pos (by show y - 1 ≤ 0; omega)]
    · rw [if_neg a, if_neg (by show ¬ y - 1 ≤ 0; omega)]
      by_cases b : l ≤ 1
      · rw [if_pos b, if_pos (by show l - 1 ≤ 0; omega)]
      · rw [if_neg b, if_neg (by show ¬ l - 1 ≤ 0; omega)]
  rw [stJ_in (by show _ ≤ l - 1 ∧ l - 1 ≤ _; omega) (by show _ ≤ y - 1 ∧ y - 1 ≤ _; omega), e] at h
  exact h

set_option maxHeartbeats 8000000 in
theorem jobEnds_walk (most real n : Int) (w : World) (hm : (Lit.int .u16 most).wf = true) (hr : (Lit.int .u16 real).wf = true) (_ : (Lit.int .i64 n).wf = true) :
    Calls Try.prog 5 #[.int .u16 most, .int .u16 real, .int .i64 n] w fun e w' => e = .returned (.bool true) ∧ Below w.heap.size w w' := by
  have HE : Hid (∀ w', Kp w w' → Below w.heap.size w w') := fun w' q => q
  obtain ⟨m0, m1⟩ := eu16_in hm
  obtain ⟨r0, r1⟩ := eu16_in hr
  obtain ⟨V, HV, KV, hc⟩ := one_num w n
  have HN : Hid (Calls Try.prog 8 #[.slice (some ⟨w.heap.size, 0, none⟩) 1 1] V fun e w' => e = .returned (.bool (nrB [n] 1)) ∧ V = w') := near_any _ _ _ _ _ V hc (by omega)
  have HK : Hid (Kp w V) := KV
  generalize nrB [n] 1 = gd at *
  clear hm hr hc KV
  cases gd with
  | false =>
    go_enter Try.func5, Try.ntmps5
    go_wp2_with fail
    rw [← HV.out]
    refine HN.out.mono ?_
    rintro e w1 ⟨rfl, rfl⟩
    go_wp2_with fail
    refine (janswers_any _).mono ?_
    rintro e w2 ⟨rfl, k2⟩
    go_wp2
    go_ret
    exact ⟨rfl, HE.out _ (HK.out.trans k2)⟩
  | true =>
    go_enter Try.func5, Try.ntmps5
    go_wp2_with fail
    rw [← HV.out]
    clear HV
    refine HN.out.mono ?_
    rintro e w1 ⟨rfl, rfl⟩
    clear HN
    go_wp2_with fail
    have c0 : 1 ≤ most % 4096 + 1 := by omega
    have c1 : most % 4096 + 1 ≤ 4096 := by omega
    have x0 : 1 ≤ real + 1 := by omega
    have x1 : real + 1 ≤ 65536 := by omega
    generalize most % 4096 + 1 = c at *
    generalize real + 1 = x at *
    clear m0 m1 r0 r1
    refine (e_new n c x V).mono ?_
    rintro e w1 ⟨rfl, k1⟩
    obtain ⟨U, HU⟩ : ∃ U, Hid (U = w1.alloc (.cells #[.int .i64 n, .int .i64 0, .int .i64 5, .int .i64 c, .int .i64 x, .bool false] 28)) := ⟨_, rfl⟩
    have JU : Hid (BJ U w1.heap.size (eJ n c x)) := by show BJ _ _ _; rw [HU.out]; exact bj_new w1 (eJ n c x)
    have KU : Hid (Kp w U) := by show Kp _ _; rw [HU.out]; exact (HK.out.trans k1).alloc _
    have hg : Hid (w.heap.size ≤ w1.heap.size) := (HK.out.trans k1).size
    obtain ⟨mi, hmi⟩ : ∃ mi : Int, (if x < c then x else c) = mi := ⟨_, rfl⟩
    have MN : ∀ ts t w, (Builtin.min_ ts t #[.int .i64 c, .int .i64 x]).run Try.prog w = .ok (.int .i64 mi) w := fun ts t w => by rw [← hmi]; exact run_min2 ts t c x w
    have hmc : mi ≤ c ∧ mi ≤ x ∧ 1 ≤ mi ∧ (x < c → mi = x) ∧ (¬ x < c → mi = c) := by
      by_cases q : x < c
      · rw [if_pos q] at hmi; omega
      · rw [if_neg q] at hmi; omega
    obtain ⟨mc, mx, m1, mlt, mge⟩ := hmc
    clear hmi HK k1
    go_wp2_with fail
    rw [← HU.out]
    clear HU
    generalize w1.heap.size = g at *
    go_loopw [10] (fun i wr => ∃ k l y : Int, i = .int .i64 k ∧ 1 ≤ k ∧ k ≤ mi ∧ Hid (l = c - k + 1) ∧ Hid (y = x - k + 1) ∧ BJ wr g (eJ n l y) ∧ Kp w wr) (fun i _ => mi.toNat - (intOf i).toNat)
    case atStart => exact ⟨1, c, x, rfl, by omega, m1, by show _ = _; omega, by show _ = _; omega, JU.out, KU.out⟩
    case round =>
      obtain ⟨k, l, y, rfl, k0, k1, hl, hy, BJr, Kr⟩ := hrel
      have HB : Hid (BJ wr g (eJ n l y)) := BJr
      have HKr : Hid (Kp w wr) := Kr
      obtain ⟨i0, i1, i2, i3, i4, i5⟩ := BJr.all
      by_cases hlt : k < mi
      · have hs := fun W => e_step n l y W (by rw [hl.out]; omega) (by rw [hy.out]; omega)
        rw [if_neg (by rw [hy.out]; omega), if_neg (by rw [hl.out]; omega)] at hs
        have HS : Hid _ := hs
        clear hs BJr Kr
        go_wp2_with fail
        refine (HS.out _).mono ?_
        rintro e w2 ⟨rfl, k2⟩
        clear HS i0 i1 i2 i3 i4 i5
        have B2 := HB.out.kp k2
        have K2 : Hid (Kp w w2) := HKr.out.trans k2
        obtain ⟨i0, i1, i2, i3, i4, i5⟩ := B2.all
        have f0 := B2.fr 0
        have f1 := B2.fr 1
        have f2 := B2.fr 2
        have f3 := B2.fr 3
        have f4 := B2.fr 4
        have f5 := B2.fr 5
        have lt2 := B2.lt
        go_wp2
        go_roundw
        case rel => exact ⟨k + 1, l - 1, y - 1, rfl, by omega, by omega, by show _ = _; rw [hl.out]; omega, by show _ = _; rw [hy.out]; omega, (B2.setAll (eJ n (l - 1) (y - 1))).kp ((Kp.refl _).alloc _), (kp_setJ K2.out hg.out (eJ n (l - 1) (y - 1))).alloc _⟩
        case measure => simp [intOf]; omega
      · have hk : k = mi := by omega
        have hs := fun W => e_step n l y W (by rw [hl.out]; omega) (by rw [hy.out]; omega)
        by_cases q : x ≤ c
        · have q2 : ¬ c < x := by omega
          rw [if_pos (by rw [hy.out]; omega)] at hs
          have HS : Hid _ := hs
          clear hs BJr Kr
          go_wp2_with fail
          refine (HS.out _).mono ?_
          rintro e w2 ⟨rfl, k2⟩
          have K2 : Hid (Kp w w2) := HKr.out.trans k2
          go_wp2_with fail
          refine (janswers_any _).mono ?_
          rintro e w3 ⟨rfl, k3⟩
          go_wp2
          go_ret
          exact ⟨by simp; omega, HE.out _ ((K2.out.alloc _).trans k3)⟩
        · have q2 : c < x := by omega
          rw [if_neg (by rw [hy.out]; omega), if_pos (by rw [hl.out]; omega)] at hs
          have HS : Hid _ := hs
          clear hs BJr Kr
          go_wp2_with fail
          refine (HS.out _).mono ?_
          rintro e w2 ⟨rfl, k2⟩
          have K2 : Hid (Kp w w2) := HKr.out.trans k2
          go_wp2_with fail
          refine (janswers_any _).mono ?_
          rintro e w3 ⟨rfl, k3⟩
          go_wp2
          go_ret
          exact ⟨by simp; omega, HE.out _ ((K2.out.alloc _).trans k3)⟩

end Go.Proofs.Ytfkefhilkfnffaa.JB
