/- Slower is no dearer: cycles at levels up to the critical one. -/
import Derived.Test.YtbhgjaaaffjjeaaGagLaw
import Derived.BigRegion
namespace Go.Proofs.Ytbhgjaaaffjjeaa.GG
open Go.ChangeShapes Go.WideShapes Go.ChangeAt Go.RowKit Go.Proofs.Ytbhgjaaaffjjeaa.AR Go.Proofs.Ytbhgjaaaffjjeaa.TB
set_option linter.unusedVariables false

theorem net_low {n : Nat} {r : List (List Int)} {idle crit : Int} (h : Slow n r idle crit) (hc : crit ≤ (n : Int) - 1) : ∀ k : Nat, (k : Int) ≤ crit → net r idle k ≤ net r idle 0
  | 0, _ => Int.le_refl _
  | k + 1, h2 => by
    have a := net_low h hc k (by omega)
    have b := h (k + 1) (by omega) (by omega) h2
    simp only [Nat.add_sub_cancel] at b
    omega
theorem lev_high {n : Nat} {r : List (List Int)} (h : ∀ i, i < n → Lev r i) : ∀ k : Nat, k < n → fd r 0 0 ≤ fd r k 0
  | 0, _ => Int.le_refl _
  | k + 1, h1 => by
    have a := (h (k + 1) h1).1.1
    simp only [ahd] at a
    have b := lev_high h k (by omega)
    omega

/-- the counts -/
def cnt (a b c d : Int) : Nat → Int
  | 0 => a
  | 1 => b
  | 2 => c
  | _ => d

/-- what has come together behind k levels: cost, cycles, end -/
structure St (P0 E0 I a i : Int) (k : Nat) (cost cyc en : Int) : Prop where
  c0 : 0 ≤ cyc ∧ cyc ≤ 65535 * k
  e0 : 0 ≤ en ∧ en ≤ 65535 + 16776960 * k
  s0 : 0 ≤ cost ∧ cost ≤ 4294901760 + 4294901760 * k
  le : cyc * P0 ≤ en
  lo : cost ≤ cyc * E0 + (en - cyc * P0) * I
  a0 : (if k = 0 then 0 else a) ≤ cyc
  eq : cyc = (if k = 0 then 0 else a) → cost = cyc * E0 + (en - cyc * P0) * I

theorem st_new {P0 E0 I a i : Int} (hI : 0 ≤ I ∧ I ≤ 65536) (hi : 0 ≤ i ∧ i ≤ 65535) : St P0 E0 I a i 0 (i * I) 0 i := by
  have b := mul_bound hi.1 hi.2 hI.1 hI.2
  refine ⟨by omega, by omega, by omega, by omega, ?_, by simp, fun _ => ?_⟩ <;> rw [Int.zero_mul, Int.zero_mul] <;> simp

theorem st_next {P0 E0 P E I a i c : Int} {k : Nat} {cost cyc en : Int} (h : St P0 E0 I a i k cost cyc en) (hc : 0 ≤ c ∧ c ≤ 65535) (h0 : k = 0 → c = a) (h00 : k = 0 → P = P0 ∧ E = E0) (hP : P0 ≤ P ∧ P ≤ 256) (hP0 : 1 ≤ P0) (hE : 0 ≤ E ∧ E ≤ 65536) (hI : 0 ≤ I ∧ I ≤ 65536) (hn : E - P * I ≤ E0 - P0 * I) :
    St P0 E0 I a i (k + 1) (cost + c * E) (cyc + c) (en + c * P) := by
  have b1 := mul_bound hc.1 hc.2 (show 0 ≤ P by omega) hP.2
  have b2 := mul_bound hc.1 hc.2 hE.1 hE.2
  have b3 : c * P0 ≤ c * P := Int.mul_le_mul_of_nonneg_left hP.1 hc.1
  have b4 : c * (E - P * I) ≤ c * (E0 - P0 * I) := Int.mul_le_mul_of_nonneg_left hn hc.1
  have x1 : (cyc + c) * P0 = cyc * P0 + c * P0 := Int.add_mul _ _ _
  have x2 : (cyc + c) * E0 = cyc * E0 + c * E0 := Int.add_mul _ _ _
  have x3 : (en + c * P - (cyc * P0 + c * P0)) * I = (en - cyc * P0) * I + c * (P * I) - c * (P0 * I) := by
    rw [show en + c * P - (cyc * P0 + c * P0) = (en - cyc * P0) + (c * P - c * P0) by omega, Int.add_mul, Int.sub_mul (c * P) (c * P0) I, Int.mul_assoc c P I, Int.mul_assoc c P0 I]
    omega
  rw [Int.mul_sub, Int.mul_sub] at b4
  obtain ⟨q1, q2, q3, q4, q5, q6, q7⟩ := h
  refine ⟨by omega, by omega, by omega, by rw [x1]; omega, ?_, ?_, ?_⟩
  · rw [x1, x2, x3]; omega
  · rw [if_neg (by omega)]
    by_cases hk : k = 0
    · have := h0 hk; omega
    · rw [if_neg hk] at q6; omega
  · rw [if_neg (by omega), x1, x2, x3]
    intro e
    by_cases hk : k = 0
    · obtain ⟨rfl, rfl⟩ := h00 hk
      have z := h0 hk
      rw [if_pos hk] at q6 q7
      have := q7 (by omega)
      omega
    · rw [if_neg hk] at q6 q7
      have hz : c = 0 := by omega
      have := q7 (by omega)
      subst hz
      rw [Int.zero_mul, Int.zero_mul, Int.zero_mul, Int.zero_mul]
      omega

/-- what is claimed at the end -/
theorem st_done {P0 E0 I a i : Int} {k : Nat} {cost cyc en : Int} (h : St P0 E0 I a i k cost cyc en) (hk : 1 ≤ k) : cost ≤ bdI cyc en P0 E0 I ∧ (a < cyc ∨ cost = bdI cyc en P0 E0 I) := by
  have e : bdI cyc en P0 E0 I = cyc * E0 + (en - cyc * P0) * I := by
    unfold bdI
    by_cases q : cyc * P0 < en
    · rw [if_pos q]
    · rw [if_neg q, show en - cyc * P0 = 0 by have := h.le; omega, Int.zero_mul]
  rw [e]
  refine ⟨h.lo, ?_⟩
  have h6 := h.a0
  have h7 := h.eq
  rw [if_neg (by omega)] at h6 h7
  by_cases q : cyc = a
  · exact .inr (h7 q)
  · exact .inl (by omega)

theorem u16_in {a : Int} (h : (Lit.int .u16 a).wf = true) : (0 ≤ a ∧ a ≤ 65535) := by
  simp [Lit.wf, IntKind.min, IntKind.max, IntKind.signed, IntKind.bits] at h
  omega

theorem counts_cells {w W : World} {a b c d : Int} (k : Kp (w.alloc (.cells #[.int .i64 a, .int .i64 b, .int .i64 c, .int .i64 d] 38)) W) : ∀ n, n < 4 → W.cell? ⟨w.heap.size, n, none⟩ = some (.int .i64 (cnt a b c d n)) := by
  intro n hn
  rw [k.cell (by simp)]
  match n, hn with
  | 0, _ => simp [cnt]
  | 1, _ => simp [cnt]
  | 2, _ => simp [cnt]
  | 3, _ => simp [cnt]

theorem cnt_in {a b c d : Int} (ha : 0 ≤ a ∧ a ≤ 65535) (hb : 0 ≤ b ∧ b ≤ 65535) (hc : 0 ≤ c ∧ c ≤ 65535) (hd : 0 ≤ d ∧ d ≤ 65535) : ∀ n, 0 ≤ cnt a b c d n ∧ cnt a b c d n ≤ 65535
  | 0 => ha
  | 1 => hb
  | 2 => hc
  | _ + 3 => hd

set_option maxHeartbeats 16000000 in
theorem gaugeLevels_walk (aL : Option Addr) (lL cL : Nat) (rL : List (List Int)) (aS : Option Addr) (lS cS : Nat) (rS : List (List Int)) (aD : Option Addr) (lD cD : Nat) (rD : List (List Int)) (idle crit sw swe sems hor : Int) (a b c d i : Int) (w : World)
    (h : Mach w aL lL rL aS lS rS aD lD rD) (ha : (Lit.int .u16 a).wf = true) (hb : (Lit.int .u16 b).wf = true) (hc : (Lit.int .u16 c).wf = true) (hd : (Lit.int .u16 d).wf = true) (hi : (Lit.int .u16 i).wf = true) :
    Calls Try.prog 5 #[pv aL lL cL aS lS cS aD lD cD idle crit sw swe sems hor, .int .u16 a, .int .u16 b, .int .u16 c, .int .u16 d, .int .u16 i] w
      fun r w' => r = .returned (.bool true) ∧ Below w.heap.size w w' := by
  have HB : Hid (∀ o, Kp w (w.alloc o)) := fun o => (Kp.refl w).alloc o
  have HE : Hid (∀ w', Kp w w' → Below w.heap.size w w') := fun w' q => q
  have HT : Hid (∀ W, Kp w W → Calls Try.prog 7 #[pv aL lL cL aS lS cS aD lD cD idle crit sw swe sems hor] W fun e w' => e = .returned (.bool (mayB lL rL lS rS lD rD idle crit sw swe sems hor)) ∧ Kp W w') := fun W k => reftable_any aL lL cL rL aS lS cS rS aD lD cD rD idle crit sw swe sems hor W (h.kept k)
  have a1 := u16_in ha
  have b1 := u16_in hb
  have c1 := u16_in hc
  have d1 := u16_in hd
  have i1 := u16_in hi
  have HCn : Hid (∀ n, 0 ≤ cnt a b c d n ∧ cnt a b c d n ≤ 65535) := cnt_in a1 b1 c1 d1
  clear ha hb hc hd hi
  have Wa : wrap64 a = a := wid (by omega)
  have Wb : wrap64 b = b := wid (by omega)
  have Wc : wrap64 c = c := wid (by omega)
  have Wd : wrap64 d = d := wid (by omega)
  have Wi : wrap64 i = i := wid (by omega)
  cases hm : mayB lL rL lS rS lD rD idle crit sw swe sems hor with
  | false =>
    rw [hm] at HT
    clear hm
    unfold pv at *
    go_enter Try.func5, Try.ntmps5
    try dsimp only [List.append]
    go_wp2_with fail
    refine Calls.mono (HT.out _ (HB.out _)) ?_
    rintro r w1 ⟨rfl, k1⟩
    have K1 := (HB.out _).trans k1
    clear k1
    go_wp2_with fail
    refine (ganswers_any _).mono ?_
    rintro r w2 ⟨rfl, k2⟩
    go_wp2
    go_ret
    exact ⟨rfl, HE.out _ (K1.trans k2)⟩
  | true =>
    rw [hm] at HT
    obtain ⟨q1, q2, q3, _⟩ := mayB_t.1 hm
    have hcr := q1.2.1
    have hl1 : 1 ≤ lL ∧ lL ≤ 4 := q2.1
    have hI : 0 ≤ idle ∧ idle ≤ 65536 := q1.1
    have HLv : Hid (∀ n, n < lL → (1 ≤ fd rL n 0 ∧ fd rL n 0 ≤ 256) ∧ (0 ≤ fd rL n 1 ∧ fd rL n 1 ≤ 65536) ∧ fd rL 0 0 ≤ fd rL n 0) := fun n hn => ⟨lev_pos q2.2 n hn, (q2.2 n hn).2, lev_high q2.2 n hn⟩
    have HNt : Hid (∀ n : Nat, (n : Int) ≤ crit → fd rL n 1 - fd rL n 0 * idle ≤ fd rL 0 1 - fd rL 0 0 * idle) := fun n hn => net_low q3 hcr.2 n hn
    have HBd : Hid (∀ cyc en, 0 ≤ cyc ∧ cyc ≤ 1073741824 → 0 ≤ en ∧ en ≤ 1073741824 → ∀ W, Kp w W → Calls Try.prog 10 #[pv aL lL cL aS lS cS aD lD cD idle crit sw swe sems hor, .int .i64 cyc, .int .i64 en] W fun r w' => r = .returned (.int .i64 (bdI cyc en (fd rL 0 0) (fd rL 0 1) idle)) ∧ Kp W w') := by
      intro cyc en h1 h2 W k
      obtain ⟨l, n⟩ := nb_of hm h1 h2
      exact bound_any aL lL cL rL aS lS cS aD lD cD idle crit sw swe sems hor cyc en W (TB.RecAt.kept h.lev k) l h.nL n
    have HR : Hid (RecAt w 2 aL lL rL) := h.lev
    have S0 : Hid (St (fd rL 0 0) (fd rL 0 1) idle a i 0 (i * idle) 0 i) := st_new hI i1
    have L0 := HLv.out 0 (by omega)
    clear q1 q2 q3 hm h
    generalize hP0 : fd rL 0 0 = P0 at *
    generalize hE0 : fd rL 0 1 = E0 at *
    have HZ : Hid (fd rL 0 0 = P0 ∧ fd rL 0 1 = E0) := ⟨hP0, hE0⟩
    have bI := mul_bound i1.1 i1.2 hI.1 hI.2
    have Wii : wrap64 (i * idle) = i * idle := wid (by omega)
    unfold pv at *
    clear hP0 hE0 bI
    go_enter Try.func5, Try.ntmps5
    try dsimp only [List.append]
    go_wp2_with fail
    refine Calls.mono (HT.out _ (HB.out _)) ?_
    rintro r w1 ⟨rfl, k1⟩
    obtain ⟨x0, x1, x2, x3, x4, x5, x6, x7, x8⟩ := box_cells k1
    have hsz : w.heap.size < w1.heap.size := by have := k1.size; simp at this; omega
    have hne : w.heap.size ≠ w1.heap.size := by omega
    have K1 : Hid (Kp w w1) := (HB.out _).trans k1
    clear k1
    go_wp2_with fail
    obtain ⟨V0, HW⟩ : ∃ V0, Hid (V0 = w1.alloc (.cells #[.int .i64 a, .int .i64 b, .int .i64 c, .int .i64 d] 38)) := ⟨_, rfl⟩
    have CC := counts_cells (w := w1) (W := V0) (a := a) (b := b) (c := c) (d := d) (by rw [HW.out]; exact Kp.refl _)
    have K12 : Hid (Kp w1 V0) := by show Kp _ _; rw [HW.out]; exact (Kp.refl _).alloc _
    have hsz2 : w1.heap.size < V0.heap.size := by rw [HW.out]; simp
    rw [← HW.out]
    have HCC : Hid (∀ W, Kp V0 W → ∀ n, n < 4 → W.cell? ⟨w1.heap.size, n, none⟩ = some (.int .i64 (cnt a b c d n))) := fun W k n hn => (k.cell (by exact hsz2)).trans (CC n hn)
    have HX : Hid (∀ W, Kp V0 W → W.cell? ⟨w.heap.size, 0, none⟩ = some (.slice aL lL cL) ∧ W.cell? ⟨w.heap.size, 1, none⟩ = some (.slice aS lS cS) ∧ W.cell? ⟨w.heap.size, 2, none⟩ = some (.slice aD lD cD) ∧ W.cell? ⟨w.heap.size, 3, none⟩ = some (.int .i64 idle) ∧ W.cell? ⟨w.heap.size, 4, none⟩ = some (.int .i64 crit) ∧ W.cell? ⟨w.heap.size, 5, none⟩ = some (.int .i64 sw) ∧ W.cell? ⟨w.heap.size, 6, none⟩ = some (.int .i64 swe) ∧ W.cell? ⟨w.heap.size, 7, none⟩ = some (.int .i64 sems) ∧ W.cell? ⟨w.heap.size, 8, none⟩ = some (.int .i64 hor)) := fun W k => by
      have q : ∀ i, W.cell? ⟨w.heap.size, i, none⟩ = w1.cell? ⟨w.heap.size, i, none⟩ := fun i => (K12.out.trans k).cell hsz
      exact ⟨(q _).trans x0, (q _).trans x1, (q _).trans x2, (q _).trans x3, (q _).trans x4, (q _).trans x5, (q _).trans x6, (q _).trans x7, (q _).trans x8⟩
    clear x0 x1 x2 x3 x4 x5 x6 x7 x8 CC HW
    generalize hgb : w.heap.size = gb at *
    generalize hgc : w1.heap.size = gc at *
    go_loopw [14, 15, 16, 17] (fun co cy en n wr => ∃ (k : Nat) (cost cyc e : Int), (k : Int) ≤ crit + 1 ∧ n = .int .i64 k ∧ co = .int .i64 cost ∧ cy = .int .i64 cyc ∧ en = .int .i64 e ∧ Hid (St P0 E0 idle a i k cost cyc e) ∧ Kp V0 wr) (fun _ _ _ n _ => 5 - (intOf n).toNat)
    case atStart => exact ⟨0, _, _, _, by omega, rfl, rfl, rfl, rfl, (by rw [Wii]; exact S0), Kp.refl _⟩
    case round =>
      obtain ⟨k, cost, cyc, e, hk, rfl, rfl, rfl, rfl, HS, kr⟩ := hrel
      obtain ⟨x0, x1, x2, x3, x4, x5, x6, x7, x8⟩ := HX.out _ kr
      by_cases hlt : (k : Int) ≤ crit
      · have hk4 : (k : Int) < 4 := by omega
        have hkl : (k : Int) < (lL : Int) := by omega
        have j1 : (0 : Int) ≤ (k : Int) := by omega
        have j3 : ((k : Int)).toNat = k := by omega
        obtain ⟨bb, off, rfl, hbl, hc⟩ := fd_at HR.out (show k < lL by omega) (K1.out.trans (K12.out.trans kr))
        have e0 := hc 0 (by omega)
        have e1 := hc 1 (by omega)
        clear hc
        simp only [Nat.add_zero] at e0
        obtain ⟨l1, l2, l3⟩ := HLv.out k (by omega)
        have l4 := HNt.out k hlt
        have cc := HCC.out _ kr k (by omega)
        have cn := HCn.out k
        have ck : k = 0 → cnt a b c d k = a := fun q => by rw [q]; rfl
        have cz : k = 0 → fd rL k 0 = P0 ∧ fd rL k 1 = E0 := fun q => by rw [q]; exact HZ.out
        generalize cnt a b c d k = cv at *
        generalize fd rL k 0 = P at *
        generalize fd rL k 1 = E at *
        have SN : Hid (St P0 E0 idle a i (k + 1) (cost + cv * E) (cyc + cv) (e + cv * P)) := st_next HS.out cn ck cz ⟨l3, l1.2⟩ L0.1.1 l2 hI l4
        have B1 := mul_bound cn.1 cn.2 l2.1 l2.2
        have B2 := mul_bound cn.1 cn.2 (show 0 ≤ P by omega) l1.2
        have M1 := SN.out.s0
        have M2 := SN.out.c0
        have M3 := SN.out.e0
        have W1 : IntKind.i64.wrap (cv * E) = cv * E := wik (by omega)
        have Y2 : IntKind.i64.wrap (cv * P) = cv * P := wik (by omega)
        have W3 : IntKind.i64.wrap (cost + cv * E) = cost + cv * E := wik (by omega)
        have W4 : IntKind.i64.wrap (cyc + cv) = cyc + cv := wik (by omega)
        have W5 : IntKind.i64.wrap (e + cv * P) = e + cv * P := wik (by omega)
        have V1 : wrap64 (cv * E) = cv * E := wid (by omega)
        have V2 : wrap64 (cv * P) = cv * P := wid (by omega)
        have V3 : wrap64 (cost + cv * E) = cost + cv * E := wid (by omega)
        have V4 : wrap64 (cyc + cv) = cyc + cv := wid (by omega)
        have V5 : wrap64 (e + cv * P) = e + cv * P := wid (by omega)
        clear M1 M2 M3 B1 B2 cn ck cz l1 l2 l3 l4 HS
        go_wp2_with fail
        go_quiet (fail)
        generalize hwq : World.drewN _ _ = w4
        have k4 : Kp V0 w4 := by rw [← hwq]; exact kr.trans (kp_drewN _ _)
        clear hwq
        go_wp2
        go_roundw
        case rel => exact ⟨k + 1, _, _, _, by omega, by go_num, rfl, rfl, rfl, SN, k4⟩
        case measure => simp [intOf]; omega
      · obtain ⟨f1, f2⟩ := st_done HS.out (by omega)
        have M2 := HS.out.c0
        have M3 := HS.out.e0
        have HB' : Hid (∀ W, Kp w W → Calls Try.prog 10 #[.agg #[.slice aL lL cL, .slice aS lS cS, .slice aD lD cD, .int .i64 idle, .int .i64 crit, .int .i64 sw, .int .i64 swe, .int .i64 sems, .int .i64 hor], .int .i64 cyc, .int .i64 e] W fun r w' => r = .returned (.int .i64 (bdI cyc e P0 E0 idle)) ∧ Kp W w') := HBd.out cyc e (by omega) (by omega)
        generalize bdI cyc e P0 E0 idle = res at *
        clear M2 M3 HBd HS
        go_wp2_with fail
        refine Calls.mono (HB'.out _ (K1.out.trans (K12.out.trans kr))) ?_
        rintro r w4 ⟨rfl, k4⟩
        have k5 := kr.trans k4
        clear k4
        go_wp2_with fail
        refine (ganswers_any _).mono ?_
        rintro r w5 ⟨rfl, k6⟩
        have k7 := k5.trans k6
        have cc := HCC.out _ k7 0 (by omega)
        simp only [cnt] at cc
        clear k6
        rcases f2 with f2 | f2
        · go_wp2
          go_ret
          exact ⟨rfl, by rw [hgb]; exact HE.out _ (K1.out.trans (K12.out.trans k7))⟩
        · by_cases f3 : a < cyc
          · go_wp2
            go_ret
            exact ⟨rfl, by rw [hgb]; exact HE.out _ (K1.out.trans (K12.out.trans k7))⟩
          · have f4 : (cost == res) = true := by simp [f2]
            clear f2
            go_wp2
            go_ret
            exact ⟨rfl, by rw [hgb]; exact HE.out _ (K1.out.trans (K12.out.trans k7))⟩

end Go.Proofs.Ytbhgjaaaffjjeaa.GG
