/- Which sleep state is the best one for a stay: nap's Best, in plain words and walked. -/
import Derived.Test.YtlkilcgkpdmkpaaNapFun
import Derived.Test.YtlkilcgkpdmkpaaTbl
namespace Go.Proofs.Ytlkilcgkpdmkpaa.NP
open Go.ChangeShapes Go.WideShapes Go.ChangeAt Go.RowKit Go.Proofs.Ytlkilcgkpdmkpaa.AR Go.Proofs.Ytlkilcgkpdmkpaa.TB

/-- what a stay in the k-th state costs -/
def ck (r : List (List Int)) (stay : Int) (k : Nat) : Int := cw (fd r k 0) (fd r k 1) (fd r k 2) (fd r k 3) (fd r k 4) stay

/-- the best one of the first k, and whether there is one -/
def bst (r : List (List Int)) (stay : Int) : Nat → Nat × Bool
  | 0 => (0, false)
  | k + 1 => bif decide (fd r k 5 ≤ stay) && (!(bst r stay k).2 || decide (ck r stay k < ck r stay (bst r stay k).1)) then (k, true) else bst r stay k

theorem bst_late {r : List (List Int)} {stay : Int} {k b : Nat} {f : Bool} (h : bst r stay k = (b, f)) (g : stay < fd r k 5) : bst r stay (k + 1) = (b, f) := by
  have e : decide (fd r k 5 ≤ stay) = false := decide_eq_false (by omega)
  simp only [bst, e, Bool.false_and, cond_false]; exact h

theorem bst_first {r : List (List Int)} {stay : Int} {k b : Nat} (h : bst r stay k = (b, false)) (g : fd r k 5 ≤ stay) : bst r stay (k + 1) = (k, true) := by
  have e : decide (fd r k 5 ≤ stay) = true := decide_eq_true g
  simp only [bst, e, h, Bool.not_false, Bool.true_or, Bool.true_and, cond_true]

theorem bst_turn {r : List (List Int)} {stay : Int} {k b : Nat} (h : bst r stay k = (b, true)) (g : fd r k 5 ≤ stay) (g2 : ck r stay k < ck r stay b) : bst r stay (k + 1) = (k, true) := by
  have e : decide (fd r k 5 ≤ stay) = true := decide_eq_true g
  have e2 : decide (ck r stay k < ck r stay b) = true := decide_eq_true g2
  simp only [bst, e, h, e2, Bool.or_true, Bool.true_and, cond_true]

theorem bst_stay {r : List (List Int)} {stay : Int} {k b : Nat} (h : bst r stay k = (b, true)) (g2 : ¬ ck r stay k < ck r stay b) : bst r stay (k + 1) = (b, true) := by
  have e2 : decide (ck r stay k < ck r stay b) = false := decide_eq_false g2
  simp only [bst, h, e2, Bool.not_true, Bool.or_false, Bool.and_false, cond_false]

/-- what is found lies among those looked at, and may be taken -/
theorem bst_in {r : List (List Int)} {stay : Int} : ∀ {k b : Nat}, bst r stay k = (b, true) → b < k ∧ fd r b 5 ≤ stay
  | 0, b, h => by simp [bst] at h
  | k + 1, b, h => by
    rcases hq : bst r stay k with ⟨b', f⟩
    by_cases g : fd r k 5 ≤ stay
    · cases f with
      | false => rw [bst_first hq g] at h; cases h; exact ⟨by omega, g⟩
      | true =>
        have := bst_in hq
        by_cases g2 : ck r stay k < ck r stay b'
        · rw [bst_turn hq g g2] at h; cases h; exact ⟨by omega, g⟩
        · rw [bst_stay hq g2] at h; cases h; exact ⟨by omega, this.2⟩
    · rw [bst_late hq (by omega)] at h
      cases h
      have := bst_in hq
      exact ⟨by omega, this.2⟩

/-- with one that may be taken there is a best one, and it costs no more -/
theorem bst_all {r : List (List Int)} {stay : Int} : ∀ {k b : Nat} {f : Bool}, bst r stay k = (b, f) → ∀ i, i < k → fd r i 5 ≤ stay → f = true ∧ ck r stay b ≤ ck r stay i
  | 0, _, _, _, i, hi, _ => by omega
  | k + 1, b, f, h, i, hi, gi => by
    rcases hq : bst r stay k with ⟨b', f'⟩
    have ih := bst_all hq
    by_cases g : fd r k 5 ≤ stay
    · cases f' with
      | false =>
        rw [bst_first hq g] at h; cases h
        by_cases hik : i < k
        · have := (ih i hik gi).1; cases this
        · obtain rfl : i = k := by omega
          exact ⟨rfl, Int.le_refl _⟩
      | true =>
        by_cases g2 : ck r stay k < ck r stay b'
        · rw [bst_turn hq g g2] at h; cases h
          by_cases hik : i < k
          · have := (ih i hik gi).2; exact ⟨rfl, by omega⟩
          · obtain rfl : i = k := by omega
            exact ⟨rfl, Int.le_refl _⟩
        · rw [bst_stay hq g2] at h; cases h
          by_cases hik : i < k
          · exact ⟨rfl, (ih i hik gi).2⟩
          · obtain rfl : i = k := by omega
            exact ⟨rfl, by omega⟩
    · rw [bst_late hq (by omega)] at h; cases h
      by_cases hik : i < k
      · exact ih i hik gi
      · obtain rfl : i = k := by omega
        exact absurd gi g

/-- none, and its number is 0 -/
theorem bst_none {r : List (List Int)} {stay : Int} : ∀ {k b : Nat}, bst r stay k = (b, false) → b = 0
  | 0, b, h => by simp [bst] at h; omega
  | k + 1, b, h => by
    rcases hq : bst r stay k with ⟨b', f'⟩
    by_cases g : fd r k 5 ≤ stay
    · cases f' with
      | false => rw [bst_first hq g] at h; cases h
      | true =>
        by_cases g2 : ck r stay k < ck r stay b'
        · rw [bst_turn hq g g2] at h; cases h
        · rw [bst_stay hq g2] at h; cases h
    · rw [bst_late hq (by omega)] at h; cases h; exact bst_none hq

/-- what the least one costs, or 0 -/
def lst (r : List (List Int)) (stay : Int) (b : Nat) (f : Bool) : Int := bif f then ck r stay b else 0

set_option maxHeartbeats 4000000 in
theorem best_any (aL : Option Addr) (lL cL : Nat) (aS : Option Addr) (lS cS : Nat) (rS : List (List Int)) (aD : Option Addr) (lD cD : Nat) (idle crit sw swe sems hor stay : Int) (w : World) (h : RecAt w 6 aS lS rS) (hl : lS ≤ 9223372036854775807) :
    Calls Try.prog 12 #[pv aL lL cL aS lS cS aD lD cD idle crit sw swe sems hor, .int .i64 stay] w
      fun e w' => e = .returned (.tuple #[.int .i64 ((bst rS stay lS).1 : Nat), .bool (bst rS stay lS).2]) ∧ Kp w w' := by
  unfold pv
  obtain ⟨res, hres⟩ : ∃ res, bst rS stay lS = res := ⟨_, rfl⟩
  rw [hres]
  have HR : Hid (bst rS stay lS = res) := hres
  clear hres
  go_enter Try.func12, Try.ntmps12
  go_wp2_with fail
  go_loopw [6, 7, 8, 15] (fun b l f i wr => ∃ (k bb : Nat) (ff : Bool) (ll : Int), k ≤ lS ∧ i = .int .i64 k ∧ b = .int .i64 bb ∧ f = .bool ff ∧ l = .int .i64 ll ∧ Hid (ll = lst rS stay bb ff) ∧ Hid (bst rS stay k = (bb, ff)) ∧ Kp w wr) (fun _ _ _ i _ => lS - (intOf i).toNat)
  case atStart => exact ⟨0, 0, false, 0, Nat.zero_le _, rfl, rfl, rfl, rfl, rfl, rfl, (Kp.refl _).alloc _⟩
  case round =>
    obtain ⟨k, bb, ff, ll, hk, rfl, rfl, rfl, rfl, hll, hb, hkp⟩ := hrel
    by_cases hlt : k < lS
    · have hlt' : (k : Int) < (lS : Int) := by omega
      obtain ⟨b, off, rfl, hbl, hc⟩ := fd_at h hlt hkp
      have c0 := hc 0 (by omega)
      have c1 := hc 1 (by omega)
      have c2 := hc 2 (by omega)
      have c3 := hc 3 (by omega)
      have c4 := hc 4 (by omega)
      have c5 := hc 5 (by omega)
      clear hc
      simp only [Nat.add_zero] at c0
      have HC : Hid (∀ w, Calls Try.prog 9 #[.agg #[.int .i64 (fd rS k 0), .int .i64 (fd rS k 1), .int .i64 (fd rS k 2), .int .i64 (fd rS k 3), .int .i64 (fd rS k 4), .int .i64 (fd rS k 5)], .int .i64 stay] w fun e w' => e = .returned (.int .i64 (ck rS stay k)) ∧ Kp w w') := fun w => cost_any _ _ _ _ _ _ _ w
      by_cases g : stay < fd rS k 5
      · have HN : Hid (bst rS stay (k + 1) = (bb, ff)) := bst_late hb.out g
        clear hb HC
        generalize fd rS k 5 = x5 at *
        go_wp2
        go_roundw
        case rel => exact ⟨k + 1, bb, ff, ll, by omega, by go_num, rfl, rfl, rfl, hll, HN, hkp.alloc _⟩
        case measure => simp [intOf]; omega
      · have g' : fd rS k 5 ≤ stay := by omega
        cases ff with
        | false =>
          have HN : Hid (bst rS stay (k + 1) = (k, true)) := bst_first hb.out g'
          have HM : Hid (ck rS stay k = lst rS stay k true) := rfl
          clear hb hll
          generalize ck rS stay k = x at *
          go_wp2_with (first
            | (go_at_call 9; refine (HC.out _).mono ?_; rintro e w1 ⟨rfl, k1⟩)
            | fail)
          go_roundw
          case rel => exact ⟨k + 1, k, true, x, by omega, by go_num, rfl, rfl, rfl, HM, HN, (hkp.alloc _).trans k1⟩
          case measure => simp [intOf]; omega
        | true =>
          have hle : Hid (ll = ck rS stay bb) := hll.out
          have HT : Hid (ck rS stay k < ll → bst rS stay (k + 1) = (k, true)) := fun q => bst_turn hb.out g' (by rw [← hle.out]; exact q)
          have HS : Hid (¬ ck rS stay k < ll → bst rS stay (k + 1) = (bb, true)) := fun q => bst_stay hb.out (by rw [← hle.out]; exact q)
          have HM : Hid (ck rS stay k = lst rS stay k true) := rfl
          clear hb
          generalize ck rS stay k = x at *
          by_cases g2 : x < ll
          · have HN := HT.out g2
            have HN' : Hid (bst rS stay (k + 1) = (k, true)) := HN
            clear HT HS HN
            go_wp2_with (first
              | (go_at_call 9; refine (HC.out _).mono ?_; rintro e w1 ⟨rfl, k1⟩)
              | fail)
            go_roundw
            case rel => exact ⟨k + 1, k, true, x, by omega, by go_num, rfl, rfl, rfl, HM, HN', (hkp.alloc _).trans k1⟩
            case measure => simp [intOf]; omega
          · have HN := HS.out g2
            have HN' : Hid (bst rS stay (k + 1) = (bb, true)) := HN
            clear HT HS HN
            go_wp2_with (first
              | (go_at_call 9; refine (HC.out _).mono ?_; rintro e w1 ⟨rfl, k1⟩)
              | fail)
            go_roundw
            case rel => exact ⟨k + 1, bb, true, ll, by omega, by go_num, rfl, rfl, rfl, hll, HN', (hkp.alloc _).trans k1⟩
            case measure => simp [intOf]; omega
    · have hlt' : ¬ (k : Int) < (lS : Int) := by omega
      obtain rfl : k = lS := by omega
      have HN : Hid ((bb, ff) = res) := hb.out.symm.trans HR.out
      clear hb HR hlt
      go_wp2
      go_ret2
      rw [← HN.out]
      exact ⟨rfl, hkp⟩

end Go.Proofs.Ytlkilcgkpdmkpaa.NP
