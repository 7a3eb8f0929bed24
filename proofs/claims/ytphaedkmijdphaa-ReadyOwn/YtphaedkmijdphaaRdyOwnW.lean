/- What is told is memory of its own: the statement's walk. -/
import Derived.Test.YtphaedkmijdphaaRdyLaw
namespace Go.Proofs.Ytphaedkmijdphaa.RD
open Go.ChangeShapes Go.WideShapes Go.ChangeAt Go.RowKit Go.Proofs.Ytphaedkmijdphaa.AR Go.Proofs.Ytphaedkmijdphaa.HP Go.Maps Go.Proofs.Ytphaedkmijdphaa.HM Go.Proofs.Ytphaedkmijdphaa.HW

/-- the set, the list that is written into, the other list -/
def Tw (w wr : World) (sb : Nat) (A : Nat → Prop) (L : List Jb) (g1 c1 b2 : Nat) (v2 : Value) : Prop :=
  SetOf w wr sb A L ∧ (∃ M1, M1.length = L.length ∧ Ls wr w.heap.size (.slice (some ⟨g1, 0, none⟩) L.length c1) M1) ∧ Ls wr b2 v2 L ∧ ¬ A g1 ∧ v2.ownBlock ≠ some g1 ∧ w.heap.size ≤ g1

theorem Tw.store {w wr : World} {sb : Nat} {A : Nat → Prop} {L : List Jb} {g1 c1 b2 : Nat} {v2 : Value} (h : Tw w wr sb A L g1 c1 b2 v2) {k : Nat} (hk : k < L.length) (y : Int) : Tw w (wr.setCell ⟨g1, k * 6 + 3, none⟩ (.int .i64 y)) sb A L g1 c1 b2 v2 := by
  obtain ⟨s, ⟨M1, hm, l1⟩, l2, hA, hv, hg⟩ := h
  have st : Step (fun k => k = g1) wr (wr.setCell ⟨g1, k * 6 + 3, none⟩ (.int .i64 y)) := (Step.refl (fun k => k = g1) wr).setCell (p := ⟨g1, _, none⟩) rfl _
  refine ⟨s.aside st hA hg, ⟨M1.set k { atJ M1 k with l := y }, by simp [hm], ?_⟩, l2.kept st (fun i hi e => hv (by rw [hi, e])), hA, hv, hg⟩
  have l1' : Ls wr w.heap.size (.slice (some ⟨g1, 0, none⟩) M1.length c1) M1 := by rw [hm]; exact l1
  have := l1'.setLeft (i := k) (by omega) y
  rw [hm] at this
  exact this

theorem Tw.cell {w wr : World} {sb : Nat} {A : Nat → Prop} {L : List Jb} {g1 c1 b2 : Nat} {v2 : Value} (h : Tw w wr sb A L g1 c1 b2 v2) {k : Nat} (hk : k < L.length) : ∃ y : Int, wr.cell? ⟨g1, k * 6 + 3, none⟩ = some (.int .i64 y) ∧ wr.frozen? ⟨g1, k * 6 + 3, none⟩ = false := by
  obtain ⟨s, ⟨M1, hm, l1⟩, l2, hA, hv, hg⟩ := h
  obtain ⟨g, cap, e, _, _, hf, hc⟩ := l1.pos (by omega)
  simp only [Value.slice.injEq, Option.some.injEq, Addr.mk.injEq, and_true] at e
  obtain ⟨rfl, _, rfl⟩ := e
  exact ⟨_, (hc k (by omega)).c3, hf _⟩

set_option maxHeartbeats 4000000 in
theorem readyOwn_go (ao : Option Addr) (len cap : Nat) (M : List Jb) (w : World) (J : JobsAt w ao len M) (hby : len * 48 ≤ 140737488351232) :
    Calls Try.prog 6 #[.slice ao len cap] w fun e w' => e = .returned (.bool true) ∧ Kp w w' := by
  have HJ : Hid (JobsAt w ao len M) := J
  have HM : Hid (M.length = len) := J.ln
  obtain ⟨L, hL⟩ : ∃ L, Hid (putAll M = L) := ⟨_, rfl⟩
  have HLL : Hid (L.length ≤ len) := by
    have := (all_len HM.out (Nat.le_refl len)).2.2
    rw [all_done HM.out, hL.out] at this
    exact this
  have hlb : Hid (L.length ≤ 2932031007402) := by have := HLL.out; show L.length ≤ _; omega
  clear J
  go_enter Try.func6, Try.ntmps6
  go_wp2_with fail
  refine (new_set _).mono ?_
  rintro e w0 ⟨rfl, r0, s0⟩
  have S0 := SetOf.of_new r0 s0
  clear r0 s0
  go_wp2
  go_loopw [4] (fun i wr => ∃ k : Nat, k ≤ len ∧ i = .int .i64 k ∧ ∃ A, Hid (SetOf w wr w.heap.size A (putAll (M.take k)))) (fun i _ => len - (intOf i).toNat)
  case atStart => exact ⟨0, Nat.zero_le _, rfl, _, S0⟩
  case round =>
    obtain ⟨k, hk, rfl, A, G⟩ := hrel
    by_cases hlt : k < len
    · obtain ⟨b, off, rfl, hb, hwj, hc⟩ := HJ.out.one hlt
      have hlt' : (k : Int) < (len : Int) := by omega
      have i1 : (0 : Int) ≤ (k : Int) := by omega
      have i3 : ((k : Int)).toNat = k := by omega
      have hq := (all_len HM.out (Nat.le_of_lt hlt)).2.2
      have HS : Hid (putAll (M.take (k + 1)) = putL (putAll (M.take k)) (atJ M k)) := putAll_take (by rw [HM.out]; exact hlt)
      obtain ⟨a0, a1, a2, a3, a4, a5, _⟩ := hc wr G.out.kp
      clear hc
      generalize atJ M k = x at *
      go_wp2_with (first
        | (go_at_call 9; refine (put_any w.heap.size A _ x _ G.out.rep hwj (by omega)).mono ?_; rintro e w2 ⟨rfl, hw⟩)
        | fail)
      obtain ⟨A2, G2⟩ := G.out.went hw
      rw [← HS.out] at G2
      go_roundw
      case rel => exact ⟨k + 1, by omega, by go_num, A2, G2⟩
      case measure => simp [intOf]; omega
    · have hlt' : ¬ (k : Int) < (len : Int) := by omega
      obtain rfl : k = len := by omega
      have G1 := G.out
      rw [all_done HM.out, hL.out] at G1
      clear G
      go_wp2_with fail
      refine (list_any w.heap.size A L _ G1.rep hlb.out).mono ?_
      rintro e w1 ⟨v1, rfl, l1, k1⟩
      have G2 := G1.still k1
      go_wp2_with fail
      refine (list_any w.heap.size A L _ G2.rep hlb.out).mono ?_
      rintro e w2 ⟨v2, rfl, l2, k2⟩
      have G3 := G2.still k2
      by_cases hp : 0 < L.length
      · obtain ⟨g1, c1, rfl, hb1, hg1, _, _⟩ := l1.pos hp
        have hlo := G1.lo
        have hsz := G1.kp.size
        have T0 : Hid (Tw w w2 w.heap.size A L g1 c1 w1.heap.size v2) := ⟨G3, ⟨L, rfl, (l1.low hsz).kp k2⟩, l2, fun q => (by have := hlo g1 q; omega), fun q => (by have := (l2.row.lt g1 q).1; omega), (by omega)⟩
        clear l1 l2 G1 G2 G3 hlo
        have HLP : Hid (0 < L.length) := hp
        clear hp
        go_wp2
        go_loopw [7] (fun i wr => ∃ q : Nat, q ≤ L.length ∧ i = .int .i64 q ∧ Hid (Tw w wr w.heap.size A L g1 c1 w1.heap.size v2)) (fun i _ => L.length - (intOf i).toNat)
        case atStart => exact ⟨0, Nat.zero_le _, rfl, T0⟩
        case round =>
          obtain ⟨q, hq, rfl, T⟩ := hrel
          by_cases hlq : q < L.length
          · have hb9 := hlb.out
            have hlq' : (q : Int) < (L.length : Int) := by omega
            have i1 : (0 : Int) ≤ (q : Int) := by omega
            have i3 : ((q : Int)).toNat = q := by omega
            obtain ⟨y, cy, fy⟩ := T.out.cell hlq
            have T2 : Hid (∀ z : Int, Tw w _ w.heap.size A L g1 c1 w1.heap.size v2) := fun z => T.out.store hlq z
            go_wp2
            go_roundw
            case rel => exact ⟨q + 1, by omega, by go_num, T2.out _⟩
            case measure => simp [intOf]; omega
          · have hlq' : ¬ (q : Int) < (L.length : Int) := by omega
            have GG := T.out.1
            have LL := T.out.2.2.1
            go_wp2_with (first
              | (go_at_call 21; refine (answers_any _).mono ?_; rintro e w5 ⟨rfl, k5⟩; have G5 := GG.still k5; have m5 := LL.kp k5)
              | (go_at_call 20; refine (list_any w.heap.size A L _ G5.rep hlb.out).mono ?_; rintro e w6 ⟨v6, rfl, l6, k6⟩)
              | (go_at_call 19; refine (rsame_any _ _ v6 v2 L _ l6 (m5.kp k6)).mono ?_; rintro e w7 ⟨rfl, k7⟩)
              | fail)
            go_ret
            exact ⟨rfl, Step.trans (Step.trans G5.kp k6) k7⟩
      · have q1 : ∃ a c, v1 = .slice a 0 c := by
          have hz : L = [] := List.length_eq_zero_iff.1 (by omega)
          subst hz
          rcases l1.cases with ⟨rfl, _⟩ | ⟨g, cap, rfl, _⟩
          · exact ⟨_, _, rfl⟩
          · exact ⟨_, _, rfl⟩
        obtain ⟨a1, c1, rfl⟩ := q1
        have GG := G3
        have LL := l2
        go_wp2
        refine wp_loop_rounds 1 ?_
        rw [rounds_succ]
        go_wp2_with (first
          | (go_at_call 21; refine (answers_any _).mono ?_; rintro e w5 ⟨rfl, k5⟩; have G5 := GG.still k5; have m5 := LL.kp k5)
          | (go_at_call 20; refine (list_any w.heap.size A L _ G5.rep hlb.out).mono ?_; rintro e w6 ⟨v6, rfl, l6, k6⟩)
          | (go_at_call 19; refine (rsame_any _ _ v6 v2 L _ l6 (m5.kp k6)).mono ?_; rintro e w7 ⟨rfl, k7⟩)
          | fail)
        go_ret
        exact ⟨rfl, Step.trans (Step.trans G5.kp k6) k7⟩

theorem readyOwn_walk (ao : Option Addr) (len cap : Nat) (M : List Jb) (w : World) (J : JobsAt w ao len M) (hby : len * 48 ≤ 140737488351232) :
    Calls Try.prog 6 #[.slice ao len cap] w fun e w' => e = .returned (.bool true) ∧ Below w.heap.size w w' :=
  (readyOwn_go ao len cap M w J hby).mono fun _ _ ⟨he, k⟩ => ⟨he, Kp.bel k⟩

end Go.Proofs.Ytphaedkmijdphaa.RD
