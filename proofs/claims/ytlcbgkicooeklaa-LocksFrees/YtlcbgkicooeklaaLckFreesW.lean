/- A task that is freed holds nothing, and what it held may be taken; what others hold they hold. -/
import Derived.Test.YtlcbgkicooeklaaLckLaw
import Derived.Test.YtlcbgkicooeklaaLckFreeP
namespace Go.Proofs.Ytlcbgkicooeklaa.LK
open Go.ChangeShapes Go.WideShapes Go.ChangeAt Go.RowKit Go.Proofs.Ytlcbgkicooeklaa.AR

/-- semaphores beside what they told -/
structure Bf (w W : World) (lb : Nat) (A : Nat → Prop) (L : List Hd) (g : Nat) (B : List Hd) : Prop where
  x : LkOf w W lb A L
  l : Ls W 53 w.heap.size (.slice (some ⟨g, 0, none⟩) B.length B.length) B
  ap : ¬ A g

theorem Bf.still {w W W' : World} {lb g : Nat} {A : Nat → Prop} {L B : List Hd} (h : Bf w W lb A L g B) (k : Kp W W') : Bf w W' lb A L g B := ⟨h.x.still k, h.l.kp k, h.ap⟩
theorem Bf.went {w W W' : World} {lb g : Nat} {A : Nat → Prop} {L L' B : List Hd} (h : Bf w W lb A L g B) (q : LWent W lb A L' W') : ∃ C, Bf w W' lb C L' g B := by
  obtain ⟨C, r, s, o⟩ := q
  have hg : g < W.heap.size := (h.l.own g rfl).2
  have hl : Ls W' 53 w.heap.size (.slice (some ⟨g, 0, none⟩) B.length B.length) B := h.l.kept s (fun k hk => by simp only [Value.ownBlock, Option.some.injEq] at hk; subst hk; exact h.ap)
  refine ⟨C, ⟨r, Step.trans_new h.x.kp s (fun i hi e => by have := h.x.lo i e; omega), fun k hk => ?_⟩, hl, fun q => h.ap (o g hg q)⟩
  by_cases hlt : k < W.heap.size
  · exact h.x.lo k (o k hlt hk)
  · have := h.x.kp.size; omega
theorem Bf.as {w W : World} {lb g : Nat} {A : Nat → Prop} {L L' B : List Hd} (h : Bf w W lb A L g B) (e : L = L') : Bf w W lb A L' g B := e ▸ h
theorem Bf.one {w W : World} {lb g : Nat} {A : Nat → Prop} {L B : List Hd} (h : Bf w W lb A L g B) {i : Nat} (hi : i < B.length) : C3 W g (i * 3) (atH B i) := by
  obtain ⟨g', cap, e, _, _, _, _, _, hc⟩ := h.l.pos (by omega)
  simp only [Value.slice.injEq, Option.some.injEq, Addr.mk.injEq, and_true, true_and] at e
  obtain ⟨rfl, _⟩ := e
  exact hc i hi

theorem int_eq3 (d : Nat) (x : Int) (w : World) : (Op.equalIn (d + 1) 3 (.int .i64 x) (.int .i64 x)).run Try.prog w = .ok true w := by
  rw [run_equalIn_int w d 3 .i64 .i64 x x Try.underlying3]
  simp

theorem eqH' (n : Nat) (j : Hd) (w : World) : (Op.equalIn (n + 1 + 1) 53 (.agg #[.int .i64 j.t, .int .i64 j.s, .int .i64 j.l]) (.agg #[.int .i64 j.t, .int .i64 j.s, .int .i64 j.l])).run Try.prog w = .ok true w := by
  have q : ∀ x w, (Op.equalIn (n + 1) 3 (.int .i64 x) (.int .i64 x)).run Try.prog w = .ok true w := fun x w => int_eq3 n x w
  rw [Op.equalIn]
  generalize hE : Op.equalIn (n + 1) = E at *
  simp only [Sem.run_bind, run_underlying Try.underlying53, Result.andThen_ok]
  simp [go_sem, part, q]

theorem eqH (j : Hd) (w : World) : (Op.equalIn 10000 53 (.agg #[.int .i64 j.t, .int .i64 j.s, .int .i64 j.l]) (.agg #[.int .i64 j.t, .int .i64 j.s, .int .i64 j.l])).run Try.prog w = .ok true w := eqH' 9998 j w

/-- under way: what was taken -/
def Fr (w wr : World) (k : Nat) : Prop := ∃ A L, LkOf w wr w.heap.size A L ∧ NodS L ∧ L.length ≤ k

set_option maxRecDepth 100000 in
set_option maxHeartbeats 16000000 in
theorem locksFrees_walk (oo : Option Addr) (n ocap : Nat) (rows : List (List Int)) (t : Int) (w : World) (hr : RecAt w 4 oo n rows) (hn : n * 32 ≤ 140737488351232) (_ : (Lit.int .i64 t).wf = true) :
    Calls Try.prog 6 #[.slice oo n ocap, .int .i64 t] w fun e w' => e = .returned (.bool true) ∧ Below w.heap.size w w' := by
  have HE : Hid (∀ w', Kp w w' → Below w.heap.size w w') := fun w' q => Kp.below q
  have HRC : Hid (RecAt w 4 oo n rows) := hr
  have HNB : Hid (n * 32 ≤ 140737488351232) := hn
  have hnn : n ≤ 4398046510976 := by omega
  clear hr hn
  go_enter Try.func6, Try.ntmps6
  go_wp2_with fail
  refine (new_any _).mono ?_
  rintro e w1 ⟨rfl, r1, k1⟩
  have P1 : Hid (Fr w w1 0) := ⟨_, [], lkOf_new r1 k1, nodS_nil, Nat.le_refl _⟩
  clear r1 k1
  go_wp2
  go_loopw [6] (fun i wr => ∃ k : Nat, k ≤ n ∧ i = .int .i64 k ∧ Hid (Fr w wr k)) (fun i _ => n - (intOf i).toNat)
  case atStart => exact ⟨0, Nat.zero_le _, rfl, P1⟩
  case round =>
    obtain ⟨k, hk, rfl, G⟩ := hrel
    obtain ⟨A, L, T0, hns, hL⟩ := G.out
    by_cases hlt : k < n
    · have hlt' : (k : Int) < (n : Int) := by omega
      obtain ⟨b, off, rfl, hb, hc⟩ := rec_c4 HRC.out hlt
      obtain ⟨hbw, c0, c1, c2, c3⟩ := hc wr T0.kp
      have HC4 : Hid (∀ W', Kp w W' → C4 W' b (off + k * 4) (atO rows k)) := fun W' q => (hc W' q).2
      clear hc
      generalize atO rows k = x at *
      have HKW : Hid (Kp w wr) := T0.kp
      by_cases g1 : x.c < -1073741824
      · have g1' : decide (x.c < -1073741824) = true := decide_eq_true g1
        go_wp2_with fail
        refine (answers_any _).mono ?_
        rintro e w2 ⟨rfl, k2⟩
        go_wp2
        go_ret
        exact ⟨rfl, HE.out _ (HKW.out.trans k2)⟩
      · have g1' : decide (x.c < -1073741824) = false := decide_eq_false g1
        by_cases g2 : x.c > 1073741824
        · have g2' : decide (1073741824 < x.c) = true := decide_eq_true g2
          go_wp2_with fail
          refine (answers_any _).mono ?_
          rintro e w2 ⟨rfl, k2⟩
          go_wp2
          go_ret
          exact ⟨rfl, HE.out _ (HKW.out.trans k2)⟩
        · have g2' : decide (1073741824 < x.c) = false := decide_eq_false g2
          have HTk : Hid (∀ W, Kp wr W → Calls Try.prog 11 #[.pointer (some ⟨w.heap.size, 0, none⟩), .int .i64 x.t, .int .i64 x.s, .int .i64 x.c] W fun e w' => (∃ r : Int, e = .returned (.int .i64 r)) ∧ Kp w w' ∧ Fr w w' (k + 1)) := fun W q => by
            have T1 := T0.still q
            refine (take_any _ A L x.t x.s x.c W T1.rep (by omega)).mono ?_
            rintro e w' ⟨h1, h2⟩
            obtain ⟨B, G2⟩ := T1.went h2
            exact ⟨⟨_, h1⟩, G2.kp, B, _, G2, nodS_take hns, by have := takeL_len L ⟨x.t, x.s, x.c⟩; omega⟩
          clear T0 hns G
          go_wp2_with fail
          go_region_held3 (fun w' => w'.cell? ⟨b, off + k * 4 + 1, none⟩ = some (.int .i64 x.t) ∧ w'.cell? ⟨b, off + k * 4 + 2, none⟩ = some (.int .i64 x.s) ∧ w'.cell? ⟨b, off + k * 4 + 3, none⟩ = some (.int .i64 x.c)) (go_keep) (first
            | (go_at_call 11; refine (HTk.out _ (by exact (Step.refl _ _).drew)).mono ?_; rintro e w3 ⟨⟨r3, rfl⟩, k3, F3⟩; obtain ⟨z0, z1, z2, z3⟩ := HC4.out _ k3)
            | fail)
          all_goals
            have HF3 : Hid (Fr w w3 (k + 1)) := F3
            clear F3 k3 z0 z1 z2 z3
            go_wp2
            go_roundw
            case rel => exact ⟨k + 1, by omega, by go_num, HF3⟩
            case measure => simp [intOf]; omega
    · have hlt' : ¬ (k : Int) < (n : Int) := by omega
      have hL2 : L.length ≤ 4398046510976 := by omega
      obtain ⟨g, hg⟩ : ∃ g, wr.heap.size = g := ⟨_, rfl⟩
      have HL : Hid (L.length ≤ 4398046510976) := hL2
      have HNS : Hid (NodS L) := hns
      clear hns G
      go_wp2_with fail
      refine (list_any _ A L _ T0.rep).mono ?_
      rintro e w2 ⟨rfl, l2, k2⟩
      have B2 : Bf w w2 w.heap.size A L wr.heap.size L := ⟨T0.still k2, l2.low T0.kp.size, fun q => absurd (T0.rep.lt _ q) (Nat.lt_irrefl _)⟩
      rw [hg] at B2 ⊢
      clear l2 k2 T0
      go_wp2_with fail
      refine (free_any _ A L t _ B2.x.rep).mono ?_
      rintro e w3 ⟨rfl, q3⟩
      obtain ⟨A3, B3⟩ := B2.went q3
      have HB3 : Hid (∃ A, Bf w w3 w.heap.size A (freeL L t) g L) := ⟨A3, B3⟩
      clear q3 B2 B3
      obtain ⟨m, hm⟩ : ∃ m, L.length = m := ⟨_, rfl⟩
      have HM : Hid (L.length = m) := hm
      rw [hm]
      clear hm hL hL2 hg
      have hmb : m ≤ 4398046510976 := by rw [← HM.out]; exact HL.out
      go_wp2
      go_loopw [8, 9] (fun a i wr => ∃ k : Nat, k ≤ m ∧ i = .int .i64 k ∧ a = .int .i64 (keep (fun h => h.t == t) (L.take k)).length ∧ Hid (∃ A, Bf w wr w.heap.size A (freeL L t) g L)) (fun _ i _ => m - (intOf i).toNat)
      case atStart => exact ⟨0, Nat.zero_le _, rfl, rfl, HB3⟩
      case round =>
        obtain ⟨i, hi, rfl, rfl, G⟩ := hrel
        obtain ⟨A, GB⟩ := G.out
        by_cases hil : i < m
        · have hil' : (i : Int) < (m : Int) := by omega
          have hiL : i < L.length := by rw [HM.out]; exact hil
          obtain ⟨d0, d1, d2, hgw⟩ := GB.one hiL
          have i0 : (0 : Int) ≤ (i : Int) := by omega
          by_cases he : (atH L i).t = t
          · have e' : ((atH L i).t != t) = false := by simp [he]
            have HN : Hid ((keep (fun h => h.t == t) (L.take (i + 1))).length = (keep (fun h => h.t == t) (L.take i)).length) := by show _ = _; rw [keep_hit (f := fun h => h.t == t) hiL (by simpa using he)]
            have HG : Hid (∃ A, Bf w wr w.heap.size A (freeL L t) g L) := ⟨A, GB⟩
            clear he GB G
            generalize atH L i = y at *
            go_wp2
            go_roundw
            case rel => exact ⟨i + 1, by omega, by go_num, by rw [HN.out] <;> rfl, HG⟩
            case measure => simp [intOf]; omega
          · have e' : ((atH L i).t != t) = true := by simp [he]
            have hft : (fun h : Hd => h.t == t) (atH L i) = false := by simpa using he
            obtain ⟨ha, hat⟩ := keep_next (f := fun h => h.t == t) hiL hft
            have HN : Hid ((keep (fun h => h.t == t) (L.take (i + 1))).length = (keep (fun h => h.t == t) (L.take i)).length + 1) := by show _ = _; rw [keep_miss (f := fun h => h.t == t) hiL hft, List.length_append]; rfl
            have HQ : Hid (∀ W, Kp wr W → C3 W g (i * 3) (atH L i)) := fun W q => (GB.still q).one hiL
            have HAT : Hid (atH (freeL L t) (keep (fun h => h.t == t) (L.take i)).length = atH L i) := hat
            have HAL : Hid ((keep (fun h => h.t == t) (L.take i)).length < (freeL L t).length) := ha
            have E := eqH (atH L i)
            have hfl := freeL_len L t
            rw [HM.out] at hfl
            clear he hft ha hat G
            generalize (keep (fun h => h.t == t) (L.take i)).length = a at *
            generalize atH L i = y at *
            go_wp2_with fail
            refine (list_any _ A (freeL L t) _ GB.x.rep).mono ?_
            rintro e w4 ⟨rfl, l4, k4⟩
            obtain ⟨g', c', e4, _, _, _, _, _, hc4⟩ := l4.pos (by have := HAL.out; omega)
            simp only [Value.slice.injEq, Option.some.injEq, Addr.mk.injEq, and_true, true_and] at e4
            obtain ⟨rfl, rfl⟩ := e4
            obtain ⟨f0, f1, f2, _⟩ := hc4 a HAL.out
            rw [HAT.out] at f0 f1 f2
            obtain ⟨h0, h1, h2, _⟩ := HQ.out _ k4
            have GB4 := GB.still k4
            have hal := HAL.out
            generalize (freeL L t).length = fl at *
            have al : (a : Int) < (fl : Int) := by omega
            have al0 : (0 : Int) ≤ (a : Int) := by omega
            have al1 : decide ((fl : Int) ≤ (a : Int)) = false := decide_eq_false (by omega)
            have an : ((a : Int)).toNat = a := by omega
            have in' : ((i : Int)).toNat = i := by omega
            clear hc4 l4 k4 GB d0 d1 d2 HQ HAT HAL
            go_wp2_with fail
            go_quiet (fail)
            generalize hwq : World.drewN w4 _ = w5
            have GB5 : Hid (∃ A, Bf w w5 w.heap.size A (freeL L t) g L) := ⟨A, GB4.still (by rw [← hwq]; exact (Step.refl _ _).drewN _)⟩
            clear hwq GB4 f0 f1 f2 h0 h1 h2 E
            go_wp2
            go_roundw
            case rel => exact ⟨i + 1, by omega, by go_num, by rw [HN.out] <;> go_num, GB5⟩
            case measure => simp [intOf]; omega
        · have hil' : ¬ (i : Int) < (m : Int) := by omega
          have HG0 : Hid (∃ A, Bf w wr w.heap.size A (frU L t 0) g L) := ⟨A, GB.as frU_zero.symm⟩
          clear GB G
          go_wp2
          go_loopw [11] (fun i wr => ∃ k : Nat, k ≤ m ∧ i = .int .i64 k ∧ Hid (∃ A, Bf w wr w.heap.size A (frU L t k) g L)) (fun i _ => m - (intOf i).toNat)
          case atStart => exact ⟨0, Nat.zero_le _, rfl, HG0⟩
          case round =>
            obtain ⟨j, hj, rfl, Gj⟩ := hrel
            obtain ⟨A, GB⟩ := Gj.out
            by_cases hjl : j < m
            · have hjl' : (j : Int) < (m : Int) := by omega
              have hjL : j < L.length := by rw [HM.out]; exact hjl
              obtain ⟨d0, d1, d2, hgw⟩ := GB.one hjL
              by_cases he : (atH L j).t = t
              · have e' : ((atH L j).t == t) = true := by simp [he]
                have hq := frU_free HNS.out hjL he
                have hle : (frU L t j).length + 1 ≤ 5864062014805 := by have := frU_le (L := L) (t := t) (k := j); have := HL.out; omega
                have HN : Hid (takeL (frU L t j) ⟨t, (atH L j).s, 1⟩ = frU L t (j + 1)) := by show _ = _; rw [takeL_not (h := ⟨t, (atH L j).s, 1⟩) hq, frU_hit hjL he]
                have HQ : Hid (codeI (!heldB (frU L t j) (atH L j).s) = 0) := by show _ = _; rw [hq]; rfl
                clear he hq Gj
                generalize atH L j = y at *
                go_wp2_with fail
                refine (take_any _ A (frU L t j) t y.s 1 _ GB.x.rep hle).mono ?_
                rintro e w4 ⟨rfl, q4⟩
                rw [HN.out] at q4
                obtain ⟨A4, GB4⟩ := GB.went q4
                have HG4 : Hid (∃ A, Bf w w4 w.heap.size A (frU L t (j + 1)) g L) := ⟨A4, GB4⟩
                rw [HQ.out]
                clear q4 GB GB4 HQ HN
                go_wp2
                go_roundw
                case rel => exact ⟨j + 1, by omega, by go_num, HG4⟩
                case measure => simp [intOf]; omega
              · have e' : ((atH L j).t == t) = false := by simp [he]
                have HG4 : Hid (∃ A, Bf w wr w.heap.size A (frU L t (j + 1)) g L) := ⟨A, GB.as (frU_miss hjL he).symm⟩
                clear he GB Gj
                generalize atH L j = y at *
                go_wp2
                go_roundw
                case rel => exact ⟨j + 1, by omega, by go_num, HG4⟩
                case measure => simp [intOf]; omega
            · have hjl' : ¬ (j : Int) < (m : Int) := by omega
              have HLN : Hid ((frU L t j).length = m) := by show _ = _; rw [frU_all (by rw [HM.out]; omega), HM.out]
              clear Gj
              go_wp2_with fail
              refine (answers_any _).mono ?_
              rintro e w4 ⟨rfl, k4⟩
              have GB4 := GB.still k4
              clear GB k4
              go_wp2_with fail
              refine (list_any _ A (frU L t j) _ GB4.x.rep).mono ?_
              rintro e w5 ⟨rfl, l5, k5⟩
              rw [HLN.out]
              have GB5 := GB4.still k5
              clear l5
              go_wp2
              go_ret
              exact ⟨by simp, HE.out _ GB5.x.kp⟩

end Go.Proofs.Ytlcbgkicooeklaa.LK
