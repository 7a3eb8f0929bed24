/- What is looked for among what is held, by a function literal: the first place, whether there is one, the last place. -/
import Derived.Test.YtlcbgkicooeklaaLckMem
import Derived.Shelf.Abstract
namespace Go.Proofs.Ytlcbgkicooeklaa.LK
open Go.ChangeShapes Go.WideShapes Go.ChangeAt Go.RowKit Go.Proofs.Ytlcbgkicooeklaa.AR

/-- a function literal that answers f, wherever it is called from w on, whatever becomes of the blocks that A names -/
def LitH (A : Nat → Prop) (w : World) (n : Nat) (cv : Value) (f : Hd → Bool) : Prop :=
  ∀ w' x, Step A w w' → Calls Try.prog n #[.agg #[.int .i64 x.t, .int .i64 x.s, .int .i64 x.l], cv] w' fun e w'' => e = .returned (.bool (f x)) ∧ Kp w' w''

theorem LitH.later {A : Nat → Prop} {w w' : World} {n : Nat} {cv : Value} {f : Hd → Bool} (h : LitH A w n cv f) (s : Step A w w') : LitH A w' n cv f := fun W x k => h W x (s.trans k)

set_option maxHeartbeats 4000000 in
theorem index_any (A : Nat → Prop) (n : Nat) (cv : Value) (f : Hd → Bool) (ao : Option Addr) (len cap : Nat) (L : List Hd) (w : World) (h : HsAt w ao len L) (hby : len ≤ 5864062014805) (hn : ∀ (args : Array Value) (w : World), (callFunc n args).run Try.prog w = .ok (.enter n args) w) (hf : LitH A w n cv f) :
    Calls Try.prog 36 #[.slice ao len cap, .func (.func n) #[] #[cv]] w
      fun e w' => (∃ x : Int, e = .returned (.int .i64 x) ∧ Fst f L len x) ∧ Kp w w' := by
  have HF : Hid (LitH A w n cv f) := hf
  clear hf
  go_enter Try.func36, Try.ntmps36
  go_wp2
  go_loopw [8] (fun i wr => ∃ k : Nat, k ≤ len ∧ i = .int .i64 k ∧ Hid (∀ i, i < k → f (atH L i) = false) ∧ Kp w wr) (fun i _ => len - (intOf i).toNat)
  case atStart => exact ⟨0, Nat.zero_le _, rfl, fun i hi => by omega, Step.refl _ _⟩
  case round =>
    obtain ⟨k, hk, rfl, HL, hkp⟩ := hrel
    by_cases hlt : k < len
    · have hlt' : (k : Int) < (len : Int) := by omega
      obtain ⟨b, off, rfl, hb, c0, c1, c2, _⟩ := (h.kp hkp).one hlt
      have HC := HF.out wr (atH L k) hkp.any
      cases hq : f (atH L k) with
      | true =>
        rw [hq] at HC
        have HN : Hid (Fst f L len (k : Int)) := .inr ⟨k, rfl, hlt, hq, HL.out⟩
        clear hq HL
        generalize atH L k = x at *
        go_wp2_with fail
        refine HC.mono ?_
        rintro e w1 ⟨rfl, k1⟩
        go_wp2
        go_ret
        exact ⟨⟨k, rfl, HN.out⟩, hkp.trans k1⟩
      | false =>
        rw [hq] at HC
        have HN : Hid (∀ i, i < k + 1 → f (atH L i) = false) := fun i hi => by
          by_cases hik : i < k
          · exact HL.out i hik
          · obtain rfl : i = k := by omega
            exact hq
        clear hq HL
        generalize atH L k = x at *
        go_wp2_with fail
        refine HC.mono ?_
        rintro e w1 ⟨rfl, k1⟩
        go_wp2
        go_roundw
        case rel => exact ⟨k + 1, by omega, by go_num, HN, hkp.trans k1⟩
        case measure => simp [intOf]; omega
    · have hlt' : ¬ (k : Int) < (len : Int) := by omega
      have HN : Hid (Fst f L len (-1)) := .inl ⟨rfl, fun i hi => HL.out i (by omega)⟩
      go_wp2
      go_ret
      exact ⟨⟨-1, rfl, HN.out⟩, hkp⟩

theorem contains_any (A : Nat → Prop) (n : Nat) (cv : Value) (f : Hd → Bool) (ao : Option Addr) (len cap : Nat) (L : List Hd) (w : World) (h : HsAt w ao len L) (hby : len ≤ 5864062014805) (hn : ∀ (args : Array Value) (w : World), (callFunc n args).run Try.prog w = .ok (.enter n args) w) (hf : LitH A w n cv f) :
    Calls Try.prog 25 #[.slice ao len cap, .func (.func n) #[] #[cv]] w
      fun e w' => e = .returned (.bool (anyH f L len)) ∧ Kp w w' := by
  have HI := index_any A n cv f ao len cap L w h hby hn hf
  go_enter Try.func25, Try.ntmps25
  go_wp2_with fail
  refine HI.mono ?_
  rintro e w1 ⟨⟨x, rfl, hx⟩, k1⟩
  have HX : Hid (decide (0 ≤ x) = anyH f L len) := hx.any
  clear hx
  by_cases hz : 0 ≤ x
  · have HY : Hid (anyH f L len = true) := by rw [← HX.out]; exact decide_eq_true hz
    go_wp2
    go_ret
    exact ⟨by rw [HY.out]; simp_all, k1⟩
  · have HY : Hid (anyH f L len = false) := by rw [← HX.out]; exact decide_eq_false hz
    go_wp2
    go_ret
    exact ⟨by rw [HY.out]; simp_all, k1⟩

set_option maxHeartbeats 4000000 in
/-- the last place of a task's -/
theorem lastPlace_any (A : Nat → Prop) (n : Nat) (cv : Value) (t : Int) (ao : Option Addr) (len cap : Nat) (L : List Hd) (w : World) (h : HsAt w ao len L) (hby : len ≤ 5864062014805) (hn : ∀ (args : Array Value) (w : World), (callFunc n args).run Try.prog w = .ok (.enter n args) w) (hf : LitH A w n cv (fun x => x.t == t)) :
    Calls Try.prog 27 #[.slice ao len cap, .func (.func n) #[] #[cv]] w
      fun e w' => e = .returned (.int .i64 (lastI L t len)) ∧ Kp w w' := by
  have HF : Hid (LitH A w n cv (fun x => x.t == t)) := hf
  clear hf
  obtain ⟨res, hres⟩ : ∃ res, lastI L t len = res := ⟨_, rfl⟩
  rw [hres]
  have HR : Hid (lastI L t len = res) := hres
  clear hres
  have w1 : wrap64 ((len : Int) - 1) = (len : Int) - 1 := by unfold wrap64; omega
  have w2 : IntKind.i64.wrap ((len : Int) - 1) = (len : Int) - 1 := by rw [IntKind.wrap_i64]; omega
  go_enter Try.func27, Try.ntmps27
  go_wp2
  go_loopw [5] (fun i wr => ∃ k : Nat, k ≤ len ∧ i = .int .i64 ((k : Int) - 1) ∧ Hid (lastI L t k = res) ∧ Kp w wr) (fun i _ => (intOf i + 1).toNat)
  case atStart => exact ⟨len, Nat.le_refl _, rfl, HR, Step.refl _ _⟩
  case round =>
    obtain ⟨k, hk, rfl, HL, hkp⟩ := hrel
    cases k with
    | zero =>
      have HN : Hid (res = -1) := HL.out.symm
      go_wp2
      go_ret
      exact ⟨by rw [HN.out]; rfl, hkp⟩
    | succ k =>
      have ek : ((k + 1 : Nat) : Int) - 1 = (k : Int) := by omega
      have hge : (0 : Int) ≤ (k : Int) := by omega
      have hlt' : (k : Int) < (len : Int) := by omega
      rw [ek]
      obtain ⟨b, off, rfl, hb, c0, c1, c2, _⟩ := (h.kp hkp).one (show k < len by omega)
      have HC := HF.out wr (atH L k) hkp.any
      have w3 : wrap64 ((k : Int) - 1) = (k : Int) - 1 := by unfold wrap64; omega
      have w4 : IntKind.i64.wrap ((k : Int) - 1) = (k : Int) - 1 := by rw [IntKind.wrap_i64]; omega
      by_cases hq : (atH L k).t = t
      · have HN : Hid (res = (k : Int)) := HL.out.symm.trans (lastI_hit hq)
        have hq' : ((atH L k).t == t) = true := by simpa using hq
        simp only [hq'] at HC
        clear hq hq' HL
        generalize atH L k = x at *
        go_wp2_with fail
        refine HC.mono ?_
        rintro e w5 ⟨rfl, k1⟩
        go_wp2
        go_ret
        exact ⟨by rw [HN.out]; rfl, hkp.trans k1⟩
      · have HN : Hid (lastI L t k = res) := (lastI_miss hq).symm.trans HL.out
        have hq' : ((atH L k).t == t) = false := by simpa using hq
        simp only [hq'] at HC
        clear hq hq' HL
        generalize atH L k = x at *
        go_wp2_with fail
        refine HC.mono ?_
        rintro e w5 ⟨rfl, k1⟩
        go_wp2
        go_roundw
        case rel => exact ⟨k, by omega, by first | rfl | go_num, HN, hkp.trans k1⟩
        case measure => simp [intOf]

/-! ### the literals -/

theorem take_lit (A : Nat → Prop) (s : Int) (B : Nat) (w : World) (hb : B < w.heap.size) (hA : ¬ A B) (hc : w.cell? ⟨B, 0, none⟩ = some (.int .i64 s)) :
    LitH A w 26 (.pointer (some ⟨B, 0, none⟩)) (fun x => x.s == s) := by
  intro w' x hk
  have hc' := (hk.cell (p := ⟨B, 0, none⟩) hb hA).trans hc
  have hb' : B < w'.heap.size := Nat.lt_of_lt_of_le hb hk.size
  simp only
  cases hq : x.s == s with
  | true =>
    go_enter Try.func26, Try.ntmps26
    go_wp2
    go_ret
    exact ⟨by simp_all, (Step.refl _ _).alloc _⟩
  | false =>
    go_enter Try.func26, Try.ntmps26
    go_wp2
    go_ret
    exact ⟨by simp_all, (Step.refl _ _).alloc _⟩

theorem give_lit (A : Nat → Prop) (t : Int) (B : Nat) (w : World) (hb : B < w.heap.size) (hA : ¬ A B) (hc : w.cell? ⟨B, 0, none⟩ = some (.int .i64 t)) :
    LitH A w 28 (.pointer (some ⟨B, 0, none⟩)) (fun x => x.t == t) := by
  intro w' x hk
  have hc' := (hk.cell (p := ⟨B, 0, none⟩) hb hA).trans hc
  have hb' : B < w'.heap.size := Nat.lt_of_lt_of_le hb hk.size
  simp only
  cases hq : x.t == t with
  | true =>
    go_enter Try.func28, Try.ntmps28
    go_wp2
    go_ret
    exact ⟨by simp_all, (Step.refl _ _).alloc _⟩
  | false =>
    go_enter Try.func28, Try.ntmps28
    go_wp2
    go_ret
    exact ⟨by simp_all, (Step.refl _ _).alloc _⟩

theorem free_lit (A : Nat → Prop) (t : Int) (B : Nat) (w : World) (hb : B < w.heap.size) (hA : ¬ A B) (hc : w.cell? ⟨B, 0, none⟩ = some (.int .i64 t)) :
    LitH A w 32 (.pointer (some ⟨B, 0, none⟩)) (fun x => x.t == t) := by
  intro w' x hk
  have hc' := (hk.cell (p := ⟨B, 0, none⟩) hb hA).trans hc
  have hb' : B < w'.heap.size := Nat.lt_of_lt_of_le hb hk.size
  simp only
  cases hq : x.t == t with
  | true =>
    go_enter Try.func32, Try.ntmps32
    go_wp2
    go_ret
    exact ⟨by simp_all, (Step.refl _ _).alloc _⟩
  | false =>
    go_enter Try.func32, Try.ntmps32
    go_wp2
    go_ret
    exact ⟨by simp_all, (Step.refl _ _).alloc _⟩

theorem over_lit (A : Nat → Prop) (t : Int) (B : Nat) (w : World) (hb : B < w.heap.size) (hA : ¬ A B) (hc : w.cell? ⟨B, 0, none⟩ = some (.int .i64 t)) :
    LitH A w 30 (.pointer (some ⟨B, 0, none⟩)) (fun x => (x.t == t) && decide (x.l ≤ 0)) := by
  intro w' x hk
  have hc' := (hk.cell (p := ⟨B, 0, none⟩) hb hA).trans hc
  have hb' : B < w'.heap.size := Nat.lt_of_lt_of_le hb hk.size
  simp only
  cases hq : x.t == t with
  | true =>
    cases hz : decide (x.l ≤ 0) with
    | true =>
      go_enter Try.func30, Try.ntmps30
      go_wp2
      go_ret
      exact ⟨by simp_all, (Step.refl _ _).alloc _⟩
    | false =>
      go_enter Try.func30, Try.ntmps30
      go_wp2
      go_ret
      exact ⟨by simp_all, (Step.refl _ _).alloc _⟩
  | false =>
    go_enter Try.func30, Try.ntmps30
    go_wp2
    go_ret
    exact ⟨by simp_all, (Step.refl _ _).alloc _⟩

end Go.Proofs.Ytlcbgkicooeklaa.LK
