/- The walk of DevOrder. -/
import Derived.Test.YtnjakfkafecmlabDevAns
import Derived.Deep.LoopGhost
namespace Go.Proofs.Ytnjakfkafecmlab.DV
open Go.ChangeShapes Go.WideShapes Go.ChangeAt Go.RowKit Go.Proofs.Ytnjakfkafecmlab.AR Go.Proofs.Ytnjakfkafecmlab.TB

/-- which of the three a moment is in -/
def rk (down m k : Int) : Int := if k < down then 1 else if k < down + m then 2 else 3
theorem rk_1 {down m k : Int} (h : k < down) : rk down m k = 1 := if_pos h
theorem rk_2 {down m k : Int} (h : ¬ k < down) (q : k < down + m) : rk down m k = 2 := (if_neg h).trans (if_pos q)
theorem rk_3 {down m k : Int} (h : ¬ k < down) (q : ¬ k < down + m) : rk down m k = 3 := (if_neg h).trans (if_neg q)
theorem rk_le (down m k : Int) : rk down m k ≤ rk down m (k + 1) := by unfold rk; split <;> split <;> (try split) <;> (try split) <;> omega
theorem rk_pos (down m k : Int) : 0 ≤ rk down m k := by unfold rk; split <;> (try split) <;> omega

/-- a block with five numbers, the first and the last 0 -/
structure B5 (w : World) (g : Nat) (a b c : Int) : Prop where
  blk : w.heap[g]? = some (.cells #[.int .i64 0, .int .i64 a, .int .i64 b, .int .i64 c, .int .i64 0] 29 (0, 0))
theorem B5.lt {w : World} {g : Nat} {a b c : Int} (h : B5 w g a b c) : g < w.heap.size := (Array.getElem?_eq_some_iff.1 h.blk).1
theorem B5.c1 {w : World} {g : Nat} {a b c : Int} (h : B5 w g a b c) : w.cell? ⟨g, 1, none⟩ = some (.int .i64 a) := by simp [World.cell?, h.blk]
theorem B5.c2 {w : World} {g : Nat} {a b c : Int} (h : B5 w g a b c) : w.cell? ⟨g, 2, none⟩ = some (.int .i64 b) := by simp [World.cell?, h.blk]
theorem B5.c3 {w : World} {g : Nat} {a b c : Int} (h : B5 w g a b c) : w.cell? ⟨g, 3, none⟩ = some (.int .i64 c) := by simp [World.cell?, h.blk]
theorem B5.fr {w : World} {g : Nat} {a b c : Int} (h : B5 w g a b c) (j : Nat) : w.frozen? ⟨g, j, none⟩ = false := by simp [World.frozen?, h.blk]
theorem B5.kp {w w' : World} {g : Nat} {a b c : Int} (h : B5 w g a b c) (k : Kp w w') : B5 w' g a b c := ⟨(k.block g h.lt).trans h.blk⟩
theorem B5.set1 {w : World} {g : Nat} {a b c : Int} (h : B5 w g a b c) (x : Int) : B5 (w.setCell ⟨g, 1, none⟩ (.int .i64 x)) g x b c := ⟨(heap_setCell_same w g 1 _ _ (.int .i64 x) h.blk).trans rfl⟩
theorem B5.set2 {w : World} {g : Nat} {a b c : Int} (h : B5 w g a b c) (x : Int) : B5 (w.setCell ⟨g, 2, none⟩ (.int .i64 x)) g a x c := ⟨(heap_setCell_same w g 2 _ _ (.int .i64 x) h.blk).trans rfl⟩
theorem B5.set3 {w : World} {g : Nat} {a b c : Int} (h : B5 w g a b c) (x : Int) : B5 (w.setCell ⟨g, 3, none⟩ (.int .i64 x)) g a b x := ⟨(heap_setCell_same w g 3 _ _ (.int .i64 x) h.blk).trans rfl⟩
theorem B7.other {w : World} {g : Nat} {on off down up downE upE even : Int} (h : B7 w g on off down up downE upE even) {p : Addr} (hp : g ≠ p.block) (v : Value) : B7 (w.setCell p v) g on off down up downE upE even := ⟨(heap_setCell_other w p g v hp).trans h.blk⟩

theorem u16_bound {x : Int} (h : (Lit.int .u16 x).wf = true) : 0 ≤ x ∧ x ≤ 65535 := by
  simp [Lit.wf, IntKind.min, IntKind.max, IntKind.signed, IntKind.bits] at h
  omega

/-- what lies there in the loop -/
structure Od (w wr : World) (gx gn : Nat) (on off down up downE upE even f u a b c : Int) : Prop where
  kp : Kp w wr
  d : B7 wr w.heap.size on off down up downE upE even
  x : B2 wr gx 28 f u
  n : B5 wr gn a b c
theorem Od.still {w wr w' : World} {gx gn : Nat} {on off down up downE upE even f u a b c : Int} (h : Od w wr gx gn on off down up downE upE even f u a b c) (k : Kp wr w') : Od w w' gx gn on off down up downE upE even f u a b c := ⟨h.kp.trans k, h.d.kp k, h.x.kp k, h.n.kp k⟩
theorem Od.add1 {w wr : World} {gx gn : Nat} {on off down up downE upE even f u a b c : Int} (h : Od w wr gx gn on off down up downE upE even f u a b c) (hx : gx ≠ gn) (hd : w.heap.size < gn) (y : Int) : Od w (wr.setCell ⟨gn, 1, none⟩ (.int .i64 y)) gx gn on off down up downE upE even f u y b c :=
  ⟨h.kp.setCell (p := ⟨gn, 1, none⟩) (Nat.le_of_lt hd) _, h.d.other (p := ⟨gn, 1, none⟩) (Nat.ne_of_lt hd) _, h.x.other (p := ⟨gn, 1, none⟩) hx _, h.n.set1 y⟩
theorem Od.add2 {w wr : World} {gx gn : Nat} {on off down up downE upE even f u a b c : Int} (h : Od w wr gx gn on off down up downE upE even f u a b c) (hx : gx ≠ gn) (hd : w.heap.size < gn) (y : Int) : Od w (wr.setCell ⟨gn, 2, none⟩ (.int .i64 y)) gx gn on off down up downE upE even f u a y c :=
  ⟨h.kp.setCell (p := ⟨gn, 2, none⟩) (Nat.le_of_lt hd) _, h.d.other (p := ⟨gn, 2, none⟩) (Nat.ne_of_lt hd) _, h.x.other (p := ⟨gn, 2, none⟩) hx _, h.n.set2 y⟩
theorem Od.add3 {w wr : World} {gx gn : Nat} {on off down up downE upE even f u a b c : Int} (h : Od w wr gx gn on off down up downE upE even f u a b c) (hx : gx ≠ gn) (hd : w.heap.size < gn) (y : Int) : Od w (wr.setCell ⟨gn, 3, none⟩ (.int .i64 y)) gx gn on off down up downE upE even f u a b y :=
  ⟨h.kp.setCell (p := ⟨gn, 3, none⟩) (Nat.le_of_lt hd) _, h.d.other (p := ⟨gn, 3, none⟩) (Nat.ne_of_lt hd) _, h.x.other (p := ⟨gn, 3, none⟩) hx _, h.n.set3 y⟩

set_option maxHeartbeats 8000000 in
theorem devOrder_walk (on off down up downE upE even start more : Int) (w : World) (hs : (Lit.int .u16 start).wf = true) (hmo : (Lit.int .u16 more).wf = true) :
    Calls Try.prog 3 #[.agg #[.int .i64 on, .int .i64 off, .int .i64 down, .int .i64 up, .int .i64 downE, .int .i64 upE, .int .i64 even], .int .u16 start, .int .u16 more] w
      fun e w' => e = .returned (.bool true) ∧ Below w.heap.size w w' := by
  have HE : Hid (∀ w', Kp w w' → Below w.heap.size w w') := fun w' q => q
  obtain ⟨W0, HW⟩ : ∃ W0, Hid (W0 = w.alloc (.cells #[.int .i64 on, .int .i64 off, .int .i64 down, .int .i64 up, .int .i64 downE, .int .i64 upE, .int .i64 even] 23)) := ⟨_, rfl⟩
  have k0 : Kp w W0 := by rw [HW.out]; exact (Kp.refl w).alloc _
  have D0 : B7 W0 w.heap.size on off down up downE upE even := by rw [HW.out]; exact b7_new (Kp.refl _)
  have HD : Hid (∀ W, Calls Try.prog 4 #[.agg #[.int .i64 on, .int .i64 off, .int .i64 down, .int .i64 up, .int .i64 downE, .int .i64 upE, .int .i64 even]] W fun e w' => e = .returned (.bool (awayB on off down up downE upE even)) ∧ Kp W w') := fun W => refdevice_any _ _ _ _ _ _ _ W
  have HB : Hid (∀ W, Calls Try.prog 5 #[] W fun e w' => e = .returned (.bool true) ∧ Kp W w') := answers_any
  obtain ⟨s1, s2⟩ := u16_bound hs
  obtain ⟨m1, m2⟩ := u16_bound hmo
  clear hs hmo
  obtain ⟨a, ha⟩ : ∃ a, awayB on off down up downE upE even = a := ⟨_, rfl⟩
  rw [ha] at HD
  cases a
  · clear ha
    go_enter Try.func3, Try.ntmps3
    try dsimp only [List.append]
    go_wp2_with (first
      | (go_at_call 4; rw [← HW.out]; refine (HD.out _).mono ?_; rintro e w1 ⟨rfl, k1⟩; have K1 : Kp w w1 := k0.trans k1)
      | (go_at_call 5; refine (HB.out _).mono ?_; rintro e w2 ⟨rfl, k2⟩; have K2 := K1.trans k2)
      | fail)
    go_ret
    exact ⟨rfl, HE.out _ K2⟩
  · obtain ⟨h1, h2, ⟨h3, h3'⟩, ⟨h4, h4'⟩, h5, h6, hE, h8⟩ := awayB_t.1 ha
    clear ha h8 h1 h2 h5 h6 hE
    go_enter Try.func3, Try.ntmps3
    try dsimp only [List.append]
    go_wp2_with (first
      | (go_at_call 4; rw [← HW.out]; refine (HD.out _).mono ?_; rintro e w1 ⟨rfl, k1⟩; have K1 : Kp w w1 := k0.trans k1; have D1 := D0.kp k1; obtain ⟨d0, d1, d2, d3, d4, d5, d6⟩ := D1.all; have lt1 := D1.lt)
      | fail)
    obtain ⟨W2, HW2⟩ : ∃ W2, Hid (W2 = (w1.alloc (.cells #[.int .i64 (start + 1), .int .i64 (start + 1 + down + up + more % 300)] 28)).alloc (.cells #[.int .i64 0, .int .i64 0, .int .i64 0, .int .i64 0, .int .i64 0] 29)) := ⟨_, rfl⟩
    rw [← HW2.out]
    have O2 : Od w W2 w1.heap.size (w1.heap.size + 1) on off down up downE upE even (start + 1) (start + 1 + down + up + more % 300) 0 0 0 := by
      rw [HW2.out]
      have kk := ((Kp.refl w1).alloc (.cells #[.int .i64 (start + 1), .int .i64 (start + 1 + down + up + more % 300)] 28)).alloc (.cells #[.int .i64 0, .int .i64 0, .int .i64 0, .int .i64 0, .int .i64 0] 29)
      refine ⟨K1.trans kk, D1.kp kk, b2_new ((Kp.refl _).alloc _), ⟨?_⟩⟩
      have q := heap_alloc_at (w1.alloc (.cells #[.int .i64 (start + 1), .int .i64 (start + 1 + down + up + more % 300)] 28)) (.cells #[.int .i64 0, .int .i64 0, .int .i64 0, .int .i64 0, .int .i64 0] 29)
      rw [World.size_alloc] at q
      exact q
    have hgx : w.heap.size < w1.heap.size := lt1
    clear d0 d1 d2 d3 d4 d5 d6 lt1 D1 K1 k1 HW2 HW k0 D0 HD
    have hM : 0 ≤ more % 300 ∧ more % 300 < 300 := by omega
    generalize hmm : more % 300 = M at *
    generalize hF : start + 1 = F at *
    generalize hU : F + down + up + M = U at *
    have F1 : 1 ≤ F ∧ F ≤ 65536 := by omega
    have U1 : 1 ≤ U ∧ U ≤ 70000 := by omega
    have HS : Hid (∀ t W, Calls Try.prog 6 #[.agg #[.int .i64 on, .int .i64 off, .int .i64 down, .int .i64 up, .int .i64 downE, .int .i64 upE, .int .i64 even], .agg #[.int .i64 F, .int .i64 U], .int .i64 t] W fun e w' => e = .returned (.int .i64 (stI down up F U t)) ∧ Kp W w') := fun t W => state_any on off down up downE upE even F U t W ⟨h3, h3'⟩ ⟨h4, h4'⟩ (by unfold Mo; omega) (by unfold Mo; omega)
    generalize w1.heap.size = gx at *
    go_loopw [9, 10] (fun last i wr => ∃ (k : Nat) (L : Int), (k : Int) ≤ down + up + M ∧ i = .int .i64 (F + k) ∧ last = .int .i64 L ∧ L ≤ rk down M k ∧ Od w wr gx (gx + 1) on off down up downE upE even F U (min k down) (max 0 (min (k - down) M)) (max 0 (k - down - M))) (fun _ i _ => (U - intOf i).toNat)
    case atStart =>
      refine ⟨0, 0, by omega, by simp, rfl, rk_pos _ _ _, ?_⟩
      have e1 : min ((0 : Nat) : Int) down = 0 := by omega
      have e2 : max 0 (min (((0 : Nat) : Int) - down) M) = 0 := by omega
      have e3 : max 0 (((0 : Nat) : Int) - down - M) = 0 := by omega
      rw [e1, e2, e3]
      exact O2
    case round =>
      obtain ⟨k, L, hk, rfl, rfl, hL, O⟩ := hrel
      clear O2
      obtain ⟨d0, d1, d2, d3, d4, d5, d6⟩ := O.d.all
      obtain ⟨x0, x1⟩ := O.x.all
      by_cases hlt : (k : Int) < down + up + M
      · have hlt' : F + (k : Int) < U := by omega
        generalize hp : min (k : Int) down = p at O
        generalize hq : max 0 (min ((k : Int) - down) M) = q at O
        generalize hr : max 0 ((k : Int) - down - M) = r at O
        have nv : ¬ ((F = 0 ∧ U = 0) ∨ F + (k : Int) < F ∨ U ≤ F + (k : Int)) := by omega
        by_cases a1 : (k : Int) < down
        · have est : stI down up F U (F + k) = 3 := (if_neg nv).trans (if_pos (by omega))
          have erk : rk down M k = 1 := rk_1 a1
          have erk' : 1 ≤ rk down M ((k + 1 : Nat) : Int) := by have := rk_le down M k; rw [erk] at this; exact_mod_cast this
          have i1 : min ((k + 1 : Nat) : Int) down = p + 1 := by omega
          have i2 : max 0 (min (((k + 1 : Nat) : Int) - down) M) = q := by omega
          have i3 : max 0 (((k + 1 : Nat) : Int) - down - M) = r := by omega
          have HI : Hid (min ((k + 1 : Nat) : Int) down = p + 1 ∧ max 0 (min (((k + 1 : Nat) : Int) - down) M) = q ∧ max 0 (((k + 1 : Nat) : Int) - down - M) = r ∧ 1 ≤ rk down M ((k + 1 : Nat) : Int)) := ⟨i1, i2, i3, erk'⟩
          have HS2 : Hid (∀ W, Calls Try.prog 6 #[.agg #[.int .i64 on, .int .i64 off, .int .i64 down, .int .i64 up, .int .i64 downE, .int .i64 upE, .int .i64 even], .agg #[.int .i64 F, .int .i64 U], .int .i64 (F + k)] W fun e w' => e = .returned (.int .i64 3) ∧ Kp W w') := fun W => by have := HS.out (F + k) W; rw [est] at this; exact this
          rw [erk] at hL
          have hL' : ¬ (1 : Int) < L := by omega
          have bp : 0 ≤ p ∧ p ≤ 1000 ∧ 0 ≤ q ∧ q ≤ 1000 ∧ 0 ≤ r ∧ r ≤ 1000 := by omega
          clear est erk erk' i1 i2 i3 hp hq hr hL HS
          obtain ⟨bp1, bp2, bq1, bq2, br1, br2⟩ := bp
          go_wp2_with (first
            | (go_at_call 6; refine (HS2.out _).mono ?_; rintro e w4 ⟨rfl, k4⟩; have O4 := O.still k4; have c1 := O4.n.c1; have g1 := O4.n.fr 1)
            | fail)
          go_roundw
          case rel =>
            obtain ⟨i1, i2, i3, i4⟩ := HI.out
            refine ⟨k + 1, 1, by omega, by go_num, rfl, i4, ?_⟩
            rw [i1, i2, i3]
            exact O4.add1 (by omega) (by omega) _
          case measure => simp [intOf]; omega
        · by_cases a2 : (k : Int) < down + M
          · have est : stI down up F U (F + k) = 2 := (if_neg nv).trans ((if_neg (by omega)).trans (if_pos (by omega)))
            have erk : rk down M k = 2 := rk_2 a1 a2
            have erk' : 2 ≤ rk down M ((k + 1 : Nat) : Int) := by have := rk_le down M k; rw [erk] at this; exact_mod_cast this
            have i1 : min ((k + 1 : Nat) : Int) down = p := by omega
            have i2 : max 0 (min (((k + 1 : Nat) : Int) - down) M) = q + 1 := by omega
            have i3 : max 0 (((k + 1 : Nat) : Int) - down - M) = r := by omega
            have HI : Hid (min ((k + 1 : Nat) : Int) down = p ∧ max 0 (min (((k + 1 : Nat) : Int) - down) M) = q + 1 ∧ max 0 (((k + 1 : Nat) : Int) - down - M) = r ∧ 2 ≤ rk down M ((k + 1 : Nat) : Int)) := ⟨i1, i2, i3, erk'⟩
            have HS2 : Hid (∀ W, Calls Try.prog 6 #[.agg #[.int .i64 on, .int .i64 off, .int .i64 down, .int .i64 up, .int .i64 downE, .int .i64 upE, .int .i64 even], .agg #[.int .i64 F, .int .i64 U], .int .i64 (F + k)] W fun e w' => e = .returned (.int .i64 2) ∧ Kp W w') := fun W => by have := HS.out (F + k) W; rw [est] at this; exact this
            rw [erk] at hL
            have hL' : ¬ (2 : Int) < L := by omega
            have bp : 0 ≤ p ∧ p ≤ 1000 ∧ 0 ≤ q ∧ q ≤ 1000 ∧ 0 ≤ r ∧ r ≤ 1000 := by omega
            clear est erk erk' i1 i2 i3 hp hq hr hL HS
            obtain ⟨bp1, bp2, bq1, bq2, br1, br2⟩ := bp
            go_wp2_with (first
              | (go_at_call 6; refine (HS2.out _).mono ?_; rintro e w4 ⟨rfl, k4⟩; have O4 := O.still k4; have c2 := O4.n.c2; have g2 := O4.n.fr 2)
              | fail)
            go_roundw
            case rel =>
              obtain ⟨i1, i2, i3, i4⟩ := HI.out
              refine ⟨k + 1, 2, by omega, by go_num, rfl, i4, ?_⟩
              rw [i1, i2, i3]
              exact O4.add2 (by omega) (by omega) _
            case measure => simp [intOf]; omega
          · have est : stI down up F U (F + k) = 4 := (if_neg nv).trans ((if_neg (by omega)).trans (if_neg (by omega)))
            have erk : rk down M k = 3 := rk_3 a1 a2
            have erk' : 3 ≤ rk down M ((k + 1 : Nat) : Int) := by have := rk_le down M k; rw [erk] at this; exact_mod_cast this
            have i1 : min ((k + 1 : Nat) : Int) down = p := by omega
            have i2 : max 0 (min (((k + 1 : Nat) : Int) - down) M) = q := by omega
            have i3 : max 0 (((k + 1 : Nat) : Int) - down - M) = r + 1 := by omega
            have HI : Hid (min ((k + 1 : Nat) : Int) down = p ∧ max 0 (min (((k + 1 : Nat) : Int) - down) M) = q ∧ max 0 (((k + 1 : Nat) : Int) - down - M) = r + 1 ∧ 3 ≤ rk down M ((k + 1 : Nat) : Int)) := ⟨i1, i2, i3, erk'⟩
            have HS2 : Hid (∀ W, Calls Try.prog 6 #[.agg #[.int .i64 on, .int .i64 off, .int .i64 down, .int .i64 up, .int .i64 downE, .int .i64 upE, .int .i64 even], .agg #[.int .i64 F, .int .i64 U], .int .i64 (F + k)] W fun e w' => e = .returned (.int .i64 4) ∧ Kp W w') := fun W => by have := HS.out (F + k) W; rw [est] at this; exact this
            rw [erk] at hL
            have hL' : ¬ (3 : Int) < L := by omega
            have bp : 0 ≤ p ∧ p ≤ 1000 ∧ 0 ≤ q ∧ q ≤ 1000 ∧ 0 ≤ r ∧ r ≤ 1000 := by omega
            clear est erk erk' i1 i2 i3 hp hq hr hL HS
            obtain ⟨bp1, bp2, bq1, bq2, br1, br2⟩ := bp
            go_wp2_with (first
              | (go_at_call 6; refine (HS2.out _).mono ?_; rintro e w4 ⟨rfl, k4⟩; have O4 := O.still k4; have c3 := O4.n.c3; have g3 := O4.n.fr 3)
              | fail)
            go_roundw
            case rel =>
              obtain ⟨i1, i2, i3, i4⟩ := HI.out
              refine ⟨k + 1, 3, by omega, by go_num, rfl, i4, ?_⟩
              rw [i1, i2, i3]
              exact O4.add3 (by omega) (by omega) _
            case measure => simp [intOf]; omega
      · have hlt' : ¬ F + (k : Int) < U := by omega
        have e1 : min (k : Int) down = down := by omega
        have e2 : max 0 (min ((k : Int) - down) M) = M := by omega
        have e3 : max 0 ((k : Int) - down - M) = up := by omega
        rw [e1, e2, e3] at O
        clear e1 e2 e3
        have HS1 : Hid (∀ W, Calls Try.prog 6 #[.agg #[.int .i64 on, .int .i64 off, .int .i64 down, .int .i64 up, .int .i64 downE, .int .i64 upE, .int .i64 even], .agg #[.int .i64 F, .int .i64 U], .int .i64 (F - 1)] W fun e w' => e = .returned (.int .i64 1) ∧ Kp W w') := fun W => by have := HS.out (F - 1) W; rw [show stI down up F U (F - 1) = 1 from if_pos (.inr (.inl (by omega)))] at this; exact this
        have HS2 : Hid (∀ W, Calls Try.prog 6 #[.agg #[.int .i64 on, .int .i64 off, .int .i64 down, .int .i64 up, .int .i64 downE, .int .i64 upE, .int .i64 even], .agg #[.int .i64 F, .int .i64 U], .int .i64 U] W fun e w' => e = .returned (.int .i64 1) ∧ Kp W w') := fun W => by have := HS.out U W; rw [show stI down up F U U = 1 from if_pos (.inr (.inr (Int.le_refl _)))] at this; exact this
        clear HS hL hU hk hlt
        go_wp2_with (first
          | (go_at_call 5; refine (HB.out _).mono ?_; rintro e w4 ⟨rfl, k4⟩; have O4 := O.still k4; clear k4 d0 d1 d2 d3 d4 d5 d6 x0 x1; obtain ⟨d0, d1, d2, d3, d4, d5, d6⟩ := O4.d.all; obtain ⟨x0, x1⟩ := O4.x.all; have c1 := O4.n.c1; have c2 := O4.n.c2; have c3 := O4.n.c3)
          | (go_at_call 6; refine (HS1.out _).mono ?_; rintro e w5 ⟨rfl, k5⟩; have O5 := O4.still k5; clear HS1 k5 d0 d1 d2 d3 d4 d5 d6 x0 x1; obtain ⟨d0, d1, d2, d3, d4, d5, d6⟩ := O5.d.all; obtain ⟨x0, x1⟩ := O5.x.all)
          | (go_at_call 6; refine (HS2.out _).mono ?_; rintro e w6 ⟨rfl, k6⟩)
          | fail)
        go_ret
        exact ⟨rfl, HE.out _ (O5.kp.trans k6)⟩

end Go.Proofs.Ytnjakfkafecmlab.DV
