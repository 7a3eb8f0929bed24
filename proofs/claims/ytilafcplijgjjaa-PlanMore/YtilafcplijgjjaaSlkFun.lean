/- What is looked for among jobs, by a function literal; the two literals of slack. -/
import Derived.Test.YtilafcplijgjjaaSlkPlain
import Derived.Shelf.Abstract
import Derived.BigQuiet
import Derived.Test.YtilafcplijgjjaaRowAt
import Derived.StillTailTactics
import Derived.Deep.RegionHeld3
import Derived.OwnWalk
import Derived.BigRegion
namespace Go.Proofs.Ytilafcplijgjjaa.SK
open Go.ChangeShapes Go.WideShapes Go.ChangeAt Go.RowKit Go.Proofs.Ytilafcplijgjjaa.AR Go.Proofs.Ytilafcplijgjjaa.TB Go.Proofs.Ytilafcplijgjjaa.TK Go.Proofs.Ytilafcplijgjjaa.JB Go.Proofs.Ytilafcplijgjjaa.FX Go.Proofs.Ytilafcplijgjjaa.AD
open Go.Proofs.Ytilafcplijgjjaa.LK (Hd atH HsAt C3)

/-- the first place of one that is so, or -1 -/
def FstJ (f : Jb → Bool) (J : List Jb) (x : Int) : Prop := (x = -1 ∧ ∀ j ∈ J, f j = false) ∨ ∃ (k : Nat) (j : Jb), x = k ∧ J[k]? = some j ∧ f j = true
theorem FstJ.any {f : Jb → Bool} {J : List Jb} {x : Int} (h : FstJ f J x) : decide (0 ≤ x) = J.any f := by
  rcases h with ⟨rfl, h⟩ | ⟨k, j, rfl, hj, hf⟩
  · have : J.any f = false := by rw [List.any_eq_false]; intro j hj; simp [h j hj]
    rw [this]; rfl
  · have : J.any f = true := List.any_eq_true.2 ⟨j, List.mem_of_getElem? hj, hf⟩
    rw [this]; simp

/-- a function literal over jobs that answers f, wherever it is called from w on -/
def LitJ (w : World) (n : Nat) (cap : Array Value) (f : Jb → Bool) : Prop :=
  ∀ w' j, Kp w w' → Calls Try.prog n (#[.agg #[.int .i64 j.t, .int .i64 j.r, .int .i64 j.d, .int .i64 j.l, .int .i64 j.x, .bool j.s]] ++ cap) w' fun e w'' => e = .returned (.bool (f j)) ∧ Kp w' w''

theorem anyJ_none {f : Jb → Bool} {J : List Jb} {len : Nat} (hl : J.length = len) (h : ∀ i j, i < len → J[i]? = some j → f j = false) : ∀ j ∈ J, f j = false := by
  intro j hj
  obtain ⟨i, hi, e⟩ := List.mem_iff_getElem.1 hj
  exact h i j (by omega) (by rw [List.getElem?_eq_getElem hi, e])

set_option maxHeartbeats 4000000 in
theorem indexJ_any (n : Nat) (ca cb : Value) (f : Jb → Bool) (ao : Option Addr) (len cap : Nat) (J : List Jb) (w : World) (h : JsAt w ao len J) (hn : ∀ (args : Array Value) (w : World), (callFunc n args).run Try.prog w = .ok (.enter n args) w) (hf : LitJ w n #[ca, cb] f) :
    Calls Try.prog 24 #[.slice ao len cap, .func (.func n) #[] #[ca, cb]] w
      fun e w' => (∃ x : Int, e = .returned (.int .i64 x) ∧ FstJ f J x) ∧ Kp w w' := by
  have HF : Hid (∀ w' j, Kp w w' → Calls Try.prog n #[.agg #[.int .i64 j.t, .int .i64 j.r, .int .i64 j.d, .int .i64 j.l, .int .i64 j.x, .bool j.s], ca, cb] w' fun e w'' => e = .returned (.bool (f j)) ∧ Kp w' w'') := fun w' j k => hf w' j k
  have hby := h.by'
  have HJ : Hid (JsAt w ao len J) := h
  clear hf h
  go_enter Try.func24, Try.ntmps24
  go_wp2
  go_loopw [8] (fun i wr => ∃ k : Nat, k ≤ len ∧ i = .int .i64 k ∧ Hid (∀ i j, i < k → J[i]? = some j → f j = false) ∧ Kp w wr) (fun i _ => len - (intOf i).toNat)
  case atStart => exact ⟨0, Nat.zero_le _, rfl, fun i j hi => by omega, Kp.refl _⟩
  case round =>
    obtain ⟨k, hk, rfl, HL, hkp⟩ := hrel
    by_cases hlt : k < len
    · have hlt' : (k : Int) < (len : Int) := by omega
      obtain ⟨b, off, j, rfl, hb, hg, hi, c0, c1, c2, c3, c4, c5⟩ := (HJ.out.kept hkp).one hlt
      have HC := HF.out wr j hkp
      cases hq : f j with
      | true =>
        rw [hq] at HC
        have HN : Hid (FstJ f J (k : Int)) := .inr ⟨k, j, rfl, hg, hq⟩
        clear hq HL hg hi
        go_wp2_with fail
        refine HC.mono ?_
        rintro e w1 ⟨rfl, k1⟩
        go_wp2
        go_ret
        exact ⟨⟨k, rfl, HN.out⟩, hkp.trans k1⟩
      | false =>
        rw [hq] at HC
        have HN : Hid (∀ i j, i < k + 1 → J[i]? = some j → f j = false) := fun i y hi hy => by
          by_cases hik : i < k
          · exact HL.out i y hik hy
          · obtain rfl : i = k := by omega
            rw [hg] at hy; cases hy; exact hq
        clear hq HL hg hi
        go_wp2_with fail
        refine HC.mono ?_
        rintro e w1 ⟨rfl, k1⟩
        go_wp2
        go_roundw
        case rel => exact ⟨k + 1, by omega, by go_num, HN, hkp.trans k1⟩
        case measure => simp [intOf]; omega
    · have hlt' : ¬ (k : Int) < (len : Int) := by omega
      have HN : Hid (FstJ f J (-1)) := .inl ⟨rfl, anyJ_none HJ.out.ln (fun i j hi hj => HL.out i j (by omega) hj)⟩
      go_wp2
      go_ret
      exact ⟨⟨-1, rfl, HN.out⟩, hkp⟩

theorem containsJ_any (n : Nat) (ca cb : Value) (f : Jb → Bool) (ao : Option Addr) (len cap : Nat) (J : List Jb) (w : World) (h : JsAt w ao len J) (hn : ∀ (args : Array Value) (w : World), (callFunc n args).run Try.prog w = .ok (.enter n args) w) (hf : LitJ w n #[ca, cb] f) :
    Calls Try.prog 16 #[.slice ao len cap, .func (.func n) #[] #[ca, cb]] w
      fun e w' => e = .returned (.bool (J.any f)) ∧ Kp w w' := by
  have HI := indexJ_any n ca cb f ao len cap J w h hn hf
  go_enter Try.func16, Try.ntmps16
  go_wp2_with fail
  refine HI.mono ?_
  rintro e w1 ⟨⟨x, rfl, hx⟩, k1⟩
  have HX : Hid (decide (0 ≤ x) = J.any f) := hx.any
  clear hx
  by_cases hz : 0 ≤ x
  · have HY : Hid (J.any f = true) := by rw [← HX.out]; exact decide_eq_true hz
    go_wp2
    go_ret
    exact ⟨by rw [HY.out]; simp_all, k1⟩
  · have HY : Hid (J.any f = false) := by rw [← HX.out]; exact decide_eq_false hz
    go_wp2
    go_ret
    exact ⟨by rw [HY.out]; simp_all, k1⟩

theorem one_cell {w : World} {b : Nat} {x : Value} {t : TypeId} {q : Nat × Nat} (h : w.heap[b]? = some (.cells #[x] t q)) : w.cell? ⟨b, 0, none⟩ = some x := by simp [World.cell?, h]

end Go.Proofs.Ytilafcplijgjjaa.SK
