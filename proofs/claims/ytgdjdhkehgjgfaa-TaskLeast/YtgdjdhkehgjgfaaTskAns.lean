/- What the statements ask of every program: that it answers at all. -/
import Derived.Test.YtgdjdhkehgjgfaaTskCel
import Derived.Test.YtgdjdhkehgjgfaaTskChk2
import Derived.Test.YtgdjdhkehgjgfaaTskOwn
namespace Go.Proofs.Ytgdjdhkehgjgfaa.TK
open Go.ChangeShapes Go.WideShapes Go.ChangeAt Go.RowKit Go.Proofs.Ytgdjdhkehgjgfaa.AR Go.Proofs.Ytgdjdhkehgjgfaa.TB

/-- the machine and the two tasks that are asked -/
abbrev aM (h : Nat) : Mc := ⟨some ⟨h, 0, none⟩, 1, 1, [[1, 0]], none, 0, 0, [], none, 0, 0, [], 0, 0, 0, 0, 1, 50⟩
abbrev aT (h : Nat) : Tk := ⟨20, 3, some ⟨h + 1 + 1, 0, none⟩, 1, 1, [2], none, 0, 0, []⟩
abbrev aU (h : Nat) : Tk := ⟨30, 1, some ⟨h + 1 + 1 + 1 + 1, 0, none⟩, 1, 1, [1], some ⟨h + 1 + 1 + 1 + 1 + 1, 0, none⟩, 1, 1, [0]⟩

structure Ans (h : Nat) (W : World) : Prop where
  p : B9 W (h + 1) (aM h)
  t : TB4 W (h + 1 + 1 + 1) (aT h)
  u : TB4 W (h + 1 + 1 + 1 + 1 + 1 + 1) (aU h)
  tt : TAt W (aT h)
  uu : TAt W (aU h)
theorem Ans.kp {h : Nat} {W W' : World} (a : Ans h W) (k : Kp W W') : Ans h W' := ⟨a.p.kp k, a.t.kp k, a.u.kp k, a.tt.kept k, a.uu.kept k⟩

theorem one_nat {w : World} {g : Nat} {x : Int} (h : w.heap[g]? = some (.cells #[.int .i64 x] 3 (0, 0))) (hx : I64 x) : NAt w (some ⟨g, 0, none⟩) 1 [x] := by
  refine ⟨⟨rfl, ?_, .inr ⟨g, 0, rfl, lt_blk h, fun i hi => ?_⟩⟩, by omega⟩
  · intro z hz
    simp at hz
    subst hz
    exact hx
  · obtain rfl : i = 0 := by omega
    simp [World.cell?, h]

theorem no_nat (w : World) (ao : Option Addr) : NAt w ao 0 [] := ⟨⟨rfl, fun z hz => by simp at hz, .inl rfl⟩, by omega⟩

theorem at_size {w : World} {o : Obj} {g : Nat} (e : w.heap.size = g) : (w.alloc o).heap[g]? = some o := e ▸ heap_alloc_at w o

theorem ans_new {w W0 : World} (e : W0 = ((((((w.alloc (.cells #[.int .i64 1, .int .i64 0] 44)).alloc (.cells #[.slice (some ⟨w.heap.size, 0, none⟩) 1 1, .slice none 0 0, .slice none 0 0, .int .i64 0, .int .i64 0, .int .i64 0, .int .i64 0, .int .i64 1, .int .i64 50] 26)).alloc (.cells #[.int .i64 2] 3)).alloc
      (.cells #[.int .i64 20, .int .i64 3, .slice (some ⟨w.heap.size + 1 + 1, 0, none⟩) 1 1, .slice none 0 0] 29)).alloc (.cells #[.int .i64 1] 3)).alloc (.cells #[.int .i64 0] 3)).alloc
      (.cells #[.int .i64 30, .int .i64 1, .slice (some ⟨w.heap.size + 1 + 1 + 1 + 1, 0, none⟩) 1 1, .slice (some ⟨w.heap.size + 1 + 1 + 1 + 1 + 1, 0, none⟩) 1 1] 29)) : Ans w.heap.size W0 := by
  have b1 : W0.heap[w.heap.size + 1]? = some (.cells #[.slice (some ⟨w.heap.size, 0, none⟩) 1 1, .slice none 0 0, .slice none 0 0, .int .i64 0, .int .i64 0, .int .i64 0, .int .i64 0, .int .i64 1, .int .i64 50] 26 (0, 0)) := by subst e; exact kp_block (at_size (by simp)) ((((((Kp.refl _).alloc _).alloc _).alloc _).alloc _).alloc _)
  have b2 : W0.heap[w.heap.size + 1 + 1]? = some (.cells #[.int .i64 2] 3 (0, 0)) := by subst e; exact kp_block (at_size (by simp)) (((((Kp.refl _).alloc _).alloc _).alloc _).alloc _)
  have b3 : W0.heap[w.heap.size + 1 + 1 + 1]? = some (.cells #[.int .i64 20, .int .i64 3, .slice (some ⟨w.heap.size + 1 + 1, 0, none⟩) 1 1, .slice none 0 0] 29 (0, 0)) := by subst e; exact kp_block (at_size (by simp)) ((((Kp.refl _).alloc _).alloc _).alloc _)
  have b4 : W0.heap[w.heap.size + 1 + 1 + 1 + 1]? = some (.cells #[.int .i64 1] 3 (0, 0)) := by subst e; exact kp_block (at_size (by simp)) (((Kp.refl _).alloc _).alloc _)
  have b5 : W0.heap[w.heap.size + 1 + 1 + 1 + 1 + 1]? = some (.cells #[.int .i64 0] 3 (0, 0)) := by subst e; exact kp_block (at_size (by simp)) ((Kp.refl _).alloc _)
  have b6 : W0.heap[w.heap.size + 1 + 1 + 1 + 1 + 1 + 1]? = some (.cells #[.int .i64 30, .int .i64 1, .slice (some ⟨w.heap.size + 1 + 1 + 1 + 1, 0, none⟩) 1 1, .slice (some ⟨w.heap.size + 1 + 1 + 1 + 1 + 1, 0, none⟩) 1 1] 29 (0, 0)) := by subst e; exact kp_block (at_size (by simp)) (Kp.refl _)
  exact ⟨⟨b1⟩, ⟨b3⟩, ⟨b6⟩, ⟨one_nat b2 (by unfold I64; omega), no_nat _ _⟩, ⟨one_nat b4 (by unfold I64; omega), one_nat b5 (by unfold I64; omega)⟩⟩

theorem ans_ck1 (h : Nat) : ckI (aM h) (aT h) = 0 := by
  unfold ckI
  rw [tkB_all ⟨⟨by simp, by simp⟩, by simp, by simp⟩ (by simp) (fun k hk => ?_) (fun k hk => ?_)]
  · rfl
  · obtain rfl : k = 0 := by simp at hk; omega
    exact ⟨by simp, by simp⟩
  · simp at hk

theorem ans_ck2 (h : Nat) : ckI (aM h) (aU h) = 3 := by
  unfold ckI
  rw [tkB_dev (fun q => ?_)]
  · rfl
  · have := q 0 (by simp)
    simp [ahdD] at this

theorem ans_cel (h : Nat) : cel [aU h, aT h] 0 2 = 20 := by
  have h1 : usB (aU h) 0 = true := usB_t.2 ⟨by simp, by simp, by simp⟩
  have h2 : usB (aT h) 0 = true := usB_t.2 ⟨by simp, by simp, by simp⟩
  have c1 : cel [aU h, aT h] 0 1 = 30 := cel_less (k := 0) rfl h1 (by simp [cel])
  exact cel_less (k := 1) rfl h2 (by rw [c1]; simp)

theorem ans_list {h : Nat} {W : World} (a : Ans h W) :
    LAt (W.alloc (.cells #[.int .i64 30, .int .i64 1, .slice (some ⟨h + 1 + 1 + 1 + 1, 0, none⟩) 1 1, .slice (some ⟨h + 1 + 1 + 1 + 1 + 1, 0, none⟩) 1 1, .int .i64 20, .int .i64 3, .slice (some ⟨h + 1 + 1, 0, none⟩) 1 1, .slice none 0 0] 29)) (some ⟨W.heap.size, 0, none⟩) 2 [aU h, aT h] := by
  refine ⟨rfl, ?_, .inr ⟨W.heap.size, 0, rfl, by simp, ?_⟩, by omega⟩
  · intro t ht
    simp only [List.mem_cons, List.not_mem_nil, or_false] at ht
    rcases ht with rfl | rfl
    · exact a.uu.kept ((Kp.refl _).alloc _)
    · exact a.tt.kept ((Kp.refl _).alloc _)
  · intro i j t hi hj
    match i, hi with
    | 0, hi =>
      simp only [List.getElem?_cons_zero, Option.some.injEq] at hi
      subst hi
      match j, hj with
      | 0, _ => simp [Tk.cell]
      | 1, _ => simp [Tk.cell]
      | 2, _ => simp [Tk.cell]
      | 3, _ => simp [Tk.cell]
    | 1, hi =>
      simp only [List.getElem?_cons_succ, List.getElem?_cons_zero, Option.some.injEq] at hi
      subst hi
      match j, hj with
      | 0, _ => simp [Tk.cell]
      | 1, _ => simp [Tk.cell]
      | 2, _ => simp [Tk.cell]
      | 3, _ => simp [Tk.cell]
    | i + 2, hi => simp at hi

theorem field_tk0 (p c s d : Value) (w : World) : (Instr.field 29 (.agg #[p, c, s, d]) 0).run Try.prog w = .ok p w := by simp [Instr.field, asAgg, go_sem]

set_option maxHeartbeats 8000000 in
theorem tanswers_any (w : World) :
    Calls Try.prog 9 #[] w fun e w' => e = .returned (.bool true) ∧ Kp w w' := by
  have hfl := fun p c s d w => field_tk0 p c s d w
  obtain ⟨W0, HW⟩ : ∃ W0, Hid (W0 = ((((((w.alloc (.cells #[.int .i64 1, .int .i64 0] 44)).alloc (.cells #[.slice (some ⟨w.heap.size, 0, none⟩) 1 1, .slice none 0 0, .slice none 0 0, .int .i64 0, .int .i64 0, .int .i64 0, .int .i64 0, .int .i64 1, .int .i64 50] 26)).alloc (.cells #[.int .i64 2] 3)).alloc
      (.cells #[.int .i64 20, .int .i64 3, .slice (some ⟨w.heap.size + 1 + 1, 0, none⟩) 1 1, .slice none 0 0] 29)).alloc (.cells #[.int .i64 1] 3)).alloc (.cells #[.int .i64 0] 3)).alloc
      (.cells #[.int .i64 30, .int .i64 1, .slice (some ⟨w.heap.size + 1 + 1 + 1 + 1, 0, none⟩) 1 1, .slice (some ⟨w.heap.size + 1 + 1 + 1 + 1 + 1, 0, none⟩) 1 1] 29)) := ⟨_, rfl⟩
  have A0 : Ans w.heap.size W0 := ans_new HW.out
  have HK : Hid (Kp w W0) := by show Kp _ _; rw [HW.out]; exact (((((((Kp.refl _).alloc _).alloc _).alloc _).alloc _).alloc _).alloc _).alloc _
  have H1 : Hid (∀ W, Ans w.heap.size W → Calls Try.prog 10 #[(aM w.heap.size).v, (aT w.heap.size).v] W fun e w' => e = .returned (.int .i64 0) ∧ Kp W w') := fun W a => by
    have := tcheck_any (aM w.heap.size) (aT w.heap.size) W (by simp) a.tt
    rw [ans_ck1] at this
    exact this
  have H2 : Hid (∀ W, Ans w.heap.size W → Calls Try.prog 10 #[(aM w.heap.size).v, (aU w.heap.size).v] W fun e w' => e = .returned (.int .i64 3) ∧ Kp W w') := fun W a => by
    have := tcheck_any (aM w.heap.size) (aU w.heap.size) W (by simp) a.uu
    rw [ans_ck2] at this
    exact this
  have H3 : Hid (∀ W, Ans w.heap.size W → Calls Try.prog 18 #[.slice (some ⟨W.heap.size, 0, none⟩) 2 2, .int .i64 0] (W.alloc (.cells #[.int .i64 30, .int .i64 1, .slice (some ⟨w.heap.size + 1 + 1 + 1 + 1, 0, none⟩) 1 1, .slice (some ⟨w.heap.size + 1 + 1 + 1 + 1 + 1, 0, none⟩) 1 1, .int .i64 20, .int .i64 3, .slice (some ⟨w.heap.size + 1 + 1, 0, none⟩) 1 1, .slice none 0 0] 29)) fun e w' => e = .returned (.int .i64 20) ∧ Kp W w') := fun W a => by
    have := ceiling_any _ 2 2 _ 0 _ (ans_list a)
    rw [ans_cel] at this
    refine this.mono ?_
    rintro e w' ⟨rfl, k⟩
    exact ⟨rfl, ((Kp.refl _).alloc _).trans k⟩
  have H4 : Hid (∀ W, Ans w.heap.size W → Calls Try.prog 12 #[(aT w.heap.size).v, .int .i64 0] W fun e w' => e = .returned (.bool true) ∧ Kp W w') := fun W a => by
    have := uses_any (aT w.heap.size) 0 W a.tt
    rw [show usB (aT w.heap.size) 0 = true from usB_t.2 ⟨by simp, by simp, by simp⟩] at this
    exact this
  have H5 : Hid (∀ W, Ans w.heap.size W → Calls Try.prog 14 #[(aU w.heap.size).v, .int .i64 0] W fun e w' => e = .returned (.bool true) ∧ Kp W w') := fun W a => by
    have := needs_any (aU w.heap.size) 0 W a.uu
    rw [show ndB (aU w.heap.size) 0 = true from anyB_at (k := 0) (by simp) rfl] at this
    exact this
  have H6 : Hid (∀ W, Ans w.heap.size W → Calls Try.prog 16 #[(aT w.heap.size).v] W fun e w' => ∃ s d, e = .returned (.agg #[.int .i64 20, .int .i64 3, s, d]) ∧ Kp W w') := fun W a => by
    refine (own_any (aT w.heap.size) W a.tt).mono ?_
    rintro e w' ⟨sa, da, rfl, _, _, _, k⟩
    exact ⟨_, _, rfl, k⟩
  unfold Mc.v Tk.v at *
  dsimp only at H1 H2 H3 H4 H5 H6
  have HB : Hid (∀ W, Ans w.heap.size W → _) := fun W a => And.intro a.p.all (And.intro a.t.all a.u.all)
  dsimp only at HB
  go_enter Try.func9, Try.ntmps9
  try dsimp only [List.append]
  go_wp2_with fail
  rw [← HW.out]
  clear HW
  refine (H1.out _ A0).mono ?_
  rintro e w1 ⟨rfl, k1⟩
  have K1 := HK.out.trans k1
  have A1 := A0.kp k1
  clear A0 k1 HK H1
  obtain ⟨⟨p0, p1, p2, p3, p4, p5, p6, p7, p8⟩, ⟨t0, t1, t2, t3⟩, ⟨u0, u1, u2, u3⟩⟩ := HB.out _ A1
  go_wp2_with fail
  refine (H2.out _ A1).mono ?_
  rintro e w2 ⟨rfl, k2⟩
  have K2 := K1.trans k2
  have A2 := A1.kp k2
  clear A1 k2 K1 H2 p0 p1 p2 p3 p4 p5 p6 p7 p8 t0 t1 t2 t3 u0 u1 u2 u3
  obtain ⟨⟨p0, p1, p2, p3, p4, p5, p6, p7, p8⟩, ⟨t0, t1, t2, t3⟩, ⟨u0, u1, u2, u3⟩⟩ := HB.out _ A2
  go_wp2_with fail
  refine (H3.out _ A2).mono ?_
  rintro e w3 ⟨rfl, k3⟩
  have K3 := K2.trans k3
  have A3 := A2.kp k3
  clear A2 k3 K2 H3 p0 p1 p2 p3 p4 p5 p6 p7 p8 t0 t1 t2 t3 u0 u1 u2 u3
  obtain ⟨⟨p0, p1, p2, p3, p4, p5, p6, p7, p8⟩, ⟨t0, t1, t2, t3⟩, ⟨u0, u1, u2, u3⟩⟩ := HB.out _ A3
  go_wp2_with fail
  refine (H4.out _ A3).mono ?_
  rintro e w4 ⟨rfl, k4⟩
  have K4 := K3.trans k4
  have A4 := A3.kp k4
  clear A3 k4 K3 H4 p0 p1 p2 p3 p4 p5 p6 p7 p8 t0 t1 t2 t3 u0 u1 u2 u3
  obtain ⟨⟨p0, p1, p2, p3, p4, p5, p6, p7, p8⟩, ⟨t0, t1, t2, t3⟩, ⟨u0, u1, u2, u3⟩⟩ := HB.out _ A4
  go_wp2_with fail
  refine (H5.out _ A4).mono ?_
  rintro e w5 ⟨rfl, k5⟩
  have K5 := K4.trans k5
  have A5 := A4.kp k5
  clear A4 k5 K4 H5 p0 p1 p2 p3 p4 p5 p6 p7 p8 t0 t1 t2 t3 u0 u1 u2 u3
  obtain ⟨⟨p0, p1, p2, p3, p4, p5, p6, p7, p8⟩, ⟨t0, t1, t2, t3⟩, ⟨u0, u1, u2, u3⟩⟩ := HB.out _ A5
  go_wp2_with fail
  refine (H6.out _ A5).mono ?_
  rintro e w6 ⟨s, d, rfl, k6⟩
  go_wp2
  go_ret
  exact ⟨rfl, K5.trans k6⟩

end Go.Proofs.Ytgdjdhkehgjgfaa.TK
