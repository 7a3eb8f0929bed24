/- A task whose job was dropped has none; the others stay: the statement's walk. -/
import Derived.Test.YtphaedkmijdphaaRdyLaw
namespace Go.Proofs.Ytphaedkmijdphaa.RD
open Go.ChangeShapes Go.WideShapes Go.ChangeAt Go.RowKit Go.Proofs.Ytphaedkmijdphaa.AR Go.Proofs.Ytphaedkmijdphaa.HP Go.Maps Go.Proofs.Ytphaedkmijdphaa.HM Go.Proofs.Ytphaedkmijdphaa.HW

/-- a list beside the set -/
theorem SetOf.beside {w W w' : World} {sb base : Nat} {A : Nat → Prop} {L L' M : List Jb} {v : Value} (h : SetOf w W sb A L) (s : SWent W sb A L' w') (l : Ls W base v M) (hv : ∀ g, v.ownBlock = some g → ¬ A g) :
    ∃ A', SetOf w w' sb A' L' ∧ Ls w' base v M ∧ ∀ g, v.ownBlock = some g → ¬ A' g := by
  obtain ⟨A', r, m⟩ := s
  refine ⟨_, ⟨r.clip, Step.trans_new h.kp m.stp (fun i hi q => ?_), fun k q => ⟨?_, q.2⟩⟩, l.kept m.stp hv, fun g hg q => ?_⟩
  · have := h.lo i q; omega
  · by_cases e : k < W.heap.size
    · exact (h.lo k (m.own k e q.1)).1
    · have := h.kp.size; omega
  · exact hv g hg (m.own g (l.row.lt g hg).2 q.1)

theorem SetOf.own {w W w1 : World} {sb : Nat} {A : Nat → Prop} {L M : List Jb} {v : Value} (h : SetOf w W sb A L) (l : Ls w1 W.heap.size v M) : ∀ g, v.ownBlock = some g → ¬ A g := fun g hg q => by
  have := (h.lo g q).2
  have := (l.row.lt g hg).1
  omega

set_option maxHeartbeats 4000000 in
theorem readyDrops_go (ao : Option Addr) (len cap : Nat) (M : List Jb) (x : Int) (w : World) (J : JobsAt w ao len M) (hby : len * 48 ≤ 140737488351232) (hx : W64 x) :
    Calls Try.prog 5 #[.slice ao len cap, .int .i64 x] w fun e w' => e = .returned (.bool true) ∧ Kp w w' := by
  have HJ : Hid (JobsAt w ao len M) := J
  have HM : Hid (M.length = len) := J.ln
  obtain ⟨L, hL⟩ : ∃ L, Hid (putAll M = L) := ⟨_, rfl⟩
  have HLL : Hid (L.length ≤ len) := by
    have := (all_len HM.out (Nat.le_refl len)).2.2
    rw [all_done HM.out, hL.out] at this
    exact this
  have hlb : Hid (L.length ≤ 2932031007402) := by have := HLL.out; show L.length ≤ _; omega
  obtain ⟨bo, hbo⟩ : ∃ bo, Hid (decide (x ∈ tks L) = bo) := ⟨_, rfl⟩
  obtain ⟨y, hy⟩ : ∃ y, Hid (jobOf L x = y) := ⟨_, rfl⟩
  obtain ⟨D, hD⟩ : ∃ D, Hid (dropJ L x = D) := ⟨_, rfl⟩
  have HDN : Hid (x ∉ tks D) := by show x ∉ tks D; rw [← hD.out]; exact tks_drop
  have HDD : Hid (dropJ D x = D) := dropJ_none HDN.out
  have hdb : Hid (D.length ≤ 2932031007402) := by have := dropJ_len L x; rw [hD.out] at this; have := hlb.out; show D.length ≤ _; omega
  have HG1 : Hid (∀ W A, SRep W w.heap.size A L → Calls Try.prog 13 #[.pointer (some ⟨w.heap.size, 0, none⟩), .int .i64 x] W fun e w' => e = .returned (.tuple #[.agg #[.int .i64 y.t, .int .i64 y.r, .int .i64 y.d, .int .i64 y.l, .int .i64 y.x, .bool y.s], .bool bo]) ∧ Kp W w') := by
    intro W A r
    have := get_any w.heap.size A L x W r hx y hy.out
    rw [hbo.out] at this
    exact this
  have HD1 : Hid (∀ W A, SRep W w.heap.size A L → Calls Try.prog 12 #[.pointer (some ⟨w.heap.size, 0, none⟩), .int .i64 x] W fun e w' => e = .returned (.bool bo) ∧ SWent W w.heap.size A D w') := by
    intro W A r
    have := drop_any w.heap.size A L x W r hx
    rw [hbo.out, hD.out] at this
    exact this
  have HG2 : Hid (∀ W A, SRep W w.heap.size A D → Calls Try.prog 13 #[.pointer (some ⟨w.heap.size, 0, none⟩), .int .i64 x] W fun e w' => e = .returned (.tuple #[.agg #[.int .i64 0, .int .i64 0, .int .i64 0, .int .i64 0, .int .i64 0, .bool false], .bool false]) ∧ Kp W w') := by
    intro W A r
    have := get_any w.heap.size A D x W r hx zJ (jobOf_none HDN.out)
    rw [decide_eq_false HDN.out] at this
    exact this
  have HD2 : Hid (∀ W A, SRep W w.heap.size A D → Calls Try.prog 12 #[.pointer (some ⟨w.heap.size, 0, none⟩), .int .i64 x] W fun e w' => e = .returned (.bool false) ∧ SWent W w.heap.size A D w') := by
    intro W A r
    have := drop_any w.heap.size A D x W r hx
    rw [decide_eq_false HDN.out, HDD.out] at this
    exact this
  clear J
  go_enter Try.func5, Try.ntmps5
  go_wp2_with fail
  refine (new_set _).mono ?_
  rintro e w0 ⟨rfl, r0, s0⟩
  have S0 := SetOf.of_new r0 s0
  clear r0 s0
  go_wp2
  go_loopw [6] (fun i wr => ∃ k : Nat, k ≤ len ∧ i = .int .i64 k ∧ ∃ A, Hid (SetOf w wr w.heap.size A (putAll (M.take k)))) (fun i _ => len - (intOf i).toNat)
  case atStart => exact ⟨0, Nat.zero_le _, rfl, _, S0⟩
  case round =>
    obtain ⟨k, hk, rfl, A, G⟩ := hrel
    by_cases hlt : k < len
    · obtain ⟨b, off, rfl, hb, hwj, hc⟩ := HJ.out.one hlt
      have hlt' : (k : Int) < (len : Int) := by omega
      have i1 : (0 : Int) ≤ (k : Int) := by omega
      have i3 : ((k : Int)).toNat = k := by omega
      have hq := (all_len HM.out (Nat.le_of_lt hlt)).2.2
      have HS : Hid (putAll (M.take (k + 1)) = putL (putAll (M.take k)) (atJ M k)) := putAll_take (by rw [HM.out]; exact hlt)
      obtain ⟨a0, a1, a2, a3, a4, a5, _⟩ := hc wr G.out.kp
      clear hc
      generalize atJ M k = z at *
      go_wp2_with (first
        | (go_at_call 9; refine (put_any w.heap.size A _ z _ G.out.rep hwj (by omega)).mono ?_; rintro e w2 ⟨rfl, hw⟩)
        | fail)
      obtain ⟨A2, G2⟩ := G.out.went hw
      rw [← HS.out] at G2
      go_roundw
      case rel => exact ⟨k + 1, by omega, by go_num, A2, G2⟩
      case measure => simp [intOf]; omega
    · have hlt' : ¬ (k : Int) < (len : Int) := by omega
      obtain rfl : k = len := by omega
      have G1 := G.out
      rw [all_done HM.out, hL.out] at G1
      clear G
      go_wp2_with fail
      refine (list_any w.heap.size A L _ G1.rep hlb.out).mono ?_
      rintro e w1 ⟨v1, rfl, l1, k1⟩
      have hv1 := SetOf.own G1 l1
      have G2 := G1.still k1
      go_wp2_with fail
      refine (HG1.out _ A G2.rep).mono ?_
      rintro e w2 ⟨rfl, k2⟩
      have k2' : Kp w1 (w2.alloc (.cells #[.int .i64 y.t, .int .i64 y.r, .int .i64 y.d, .int .i64 y.l, .int .i64 y.x, .bool y.s] 27)) := Step.alloc k2 _
      have G3 := G2.still k2'
      have l3 := l1.kp k2'
      go_wp2_with fail
      refine (HD1.out _ A G3.rep).mono ?_
      rintro e w3 ⟨rfl, hw3⟩
      obtain ⟨A4, G4, l4, hv4⟩ := G3.beside hw3 l3 hv1
      go_wp2_with fail
      refine (HG2.out _ A4 G4.rep).mono ?_
      rintro e w5 ⟨rfl, k5⟩
      have k5' : Kp w3 (w5.alloc (.cells #[.int .i64 0, .int .i64 0, .int .i64 0, .int .i64 0, .int .i64 0, .bool false] 27)) := Step.alloc k5 _
      have G5 := G4.still k5'
      have l5 := l4.kp k5'
      clear G1 G2 G3 G4 l1 l3 l4
      go_wp2_with (first
        | (go_at_call 21; refine (answers_any _).mono ?_; rintro e w6 ⟨rfl, k6⟩; have G6 := G5.still k6; have l6 := l5.kp k6)
        | (go_at_call 12; refine (HD2.out _ A4 G6.rep).mono ?_; rintro e w7 ⟨rfl, hw7⟩; have T7 := G6.beside hw7 l6 hv4; obtain ⟨A7, G7, l7, hv7⟩ := T7)
        | (go_at_call 20; refine (list_any w.heap.size A7 D _ G7.rep hdb.out).mono ?_; rintro e w8 ⟨v8, rfl, l8, k8⟩; have l8' := l7.kp k8)
        | (go_at_call 11; refine (rdrop_any _ v1 L x _ l8').mono ?_; rw [hD.out]; rintro e w9 ⟨v9, rfl, l9, k9⟩; have l8'' := l8.kp k9)
        | (go_at_call 19; refine (rsame_any _ _ v8 v9 D _ l8'' l9).mono ?_; rintro e w10 ⟨rfl, k10⟩)
        | fail)
      go_ret
      exact ⟨by simp, Step.trans (Step.trans (Step.trans G7.kp k8) k9) k10⟩

theorem readyDrops_walk (ao : Option Addr) (len cap : Nat) (M : List Jb) (x : Int) (w : World) (J : JobsAt w ao len M) (hby : len * 48 ≤ 140737488351232) (hx : (Lit.int .i64 x).wf = true) :
    Calls Try.prog 5 #[.slice ao len cap, .int .i64 x] w fun e w' => e = .returned (.bool true) ∧ Below w.heap.size w w' :=
  (readyDrops_go ao len cap M x w J hby (i64_of_wf hx)).mono fun _ _ ⟨he, k⟩ => ⟨he, Kp.bel k⟩

end Go.Proofs.Ytphaedkmijdphaa.RD
