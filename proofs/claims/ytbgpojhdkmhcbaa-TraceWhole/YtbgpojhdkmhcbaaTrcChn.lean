/- Intervals one behind the other from 0 on, plain: what they take together. -/
import Derived.Test.YtbgpojhdkmhcbaaTrcPlain
namespace Go.Proofs.Ytbgpojhdkmhcbaa.TC
open Go.RowKit

def sumL : List I6 → Int
  | [] => 0
  | x :: r => x.l + sumL r
def sumC : List I6 → Int
  | [] => 0
  | x :: r => x.c + sumC r

theorem sumL_snoc : ∀ (L : List I6) (x : I6), sumL (L ++ [x]) = sumL L + x.l
  | [], x => by simp [sumL]
  | y :: r, x => by simp [sumL, sumL_snoc r x]; omega
theorem sumC_snoc : ∀ (L : List I6) (x : I6), sumC (L ++ [x]) = sumC L + x.c
  | [], x => by simp [sumC]
  | y :: r, x => by simp [sumC, sumC_snoc r x]; omega
theorem sumL_nn : ∀ (L : List I6), (∀ x ∈ L, 0 ≤ x.l ∧ 0 ≤ x.c) → 0 ≤ sumL L ∧ 0 ≤ sumC L
  | [], _ => by simp [sumL, sumC]
  | y :: r, h => by
    have h1 := h y (by simp)
    have h2 := sumL_nn r (fun x hx => h x (by simp [hx]))
    simp only [sumL, sumC]
    omega

/-- they are one behind the other from 0 to e, take n cycles, and no two of them are one -/
structure Chn (L : List I6) (e n : Int) : Prop where
  frm : ∀ i, i < L.length → (at6 L i).f = sumL (L.take i)
  len : sumL L = e
  cyc : sumC L = n
  nj : ∀ i, i + 1 < L.length → joB (at6 L i) (at6 L (i + 1)) = false
  nn : ∀ x ∈ L, 0 ≤ x.l ∧ 0 ≤ x.c

theorem chn_nil : Chn [] 0 0 := ⟨fun i h => by simp at h, rfl, rfl, fun i h => by simp at h, fun x h => by simp at h⟩

theorem joB_like {a x y : I6} (h1 : x.k = y.k) (h2 : x.a = y.a) (h3 : x.t = y.t) (h4 : x.f = y.f) (h : joB a x = false) : joB a y = false := by
  rw [joB_f] at h ⊢
  unfold Jo at h ⊢
  rw [← h1, ← h2, ← h3, ← h4]
  exact h

theorem Chn.snoc {L : List I6} {e n : Int} (h : Chn L e n) {y : I6} (hf : y.f = e) (hl : 0 ≤ y.l ∧ 0 ≤ y.c) (hj : 0 < L.length → joB (at6 L (L.length - 1)) y = false) : Chn (L ++ [y]) (e + y.l) (n + y.c) := by
  refine ⟨fun i hi => ?_, by rw [sumL_snoc, h.len], by rw [sumC_snoc, h.cyc], fun i hi => ?_, fun x hx => ?_⟩
  · rw [List.length_append, List.length_singleton] at hi
    by_cases c : i < L.length
    · rw [at6_append_lt c, h.frm i c, List.take_append_of_le_length (by omega)]
    · obtain rfl : i = L.length := by omega
      rw [at6_append_eq, List.take_left', hf, h.len]
      rfl
  · rw [List.length_append, List.length_singleton] at hi
    by_cases c : i + 1 < L.length
    · rw [at6_append_lt c, at6_append_lt (by omega)]
      exact h.nj i c
    · obtain e1 : i + 1 = L.length := by omega
      rw [e1, at6_append_eq, at6_append_lt (by omega)]
      have := hj (by omega)
      rwa [show L.length - 1 = i by omega] at this
  · rcases List.mem_append.1 hx with hx | hx
    · exact h.nn x hx
    · simp at hx; subst hx; exact hl

theorem snoc_form {L : List I6} (hp : 0 < L.length) : ∃ P x, L = P ++ [x] ∧ at6 L (L.length - 1) = x ∧ ∀ z, L.set (L.length - 1) z = P ++ [z] := by
  have hne : L ≠ [] := by intro q; subst q; simp at hp
  obtain ⟨P, x, rfl⟩ : ∃ P x, L = P ++ [x] := ⟨L.dropLast, L.getLast hne, (List.dropLast_concat_getLast hne).symm⟩
  refine ⟨P, x, rfl, ?_, fun z => ?_⟩
  · rw [show (P ++ [x]).length - 1 = P.length by simp]; exact at6_append_eq
  · rw [show (P ++ [x]).length - 1 = P.length by simp]; simp

theorem Chn.last {P : List I6} {x z : I6} {e n : Int} (h : Chn (P ++ [x]) e n) (h1 : x.k = z.k) (h2 : x.a = z.a) (h3 : x.t = z.t) (h4 : x.f = z.f) (h5 : x.l ≤ z.l) (h6 : x.c ≤ z.c) : Chn (P ++ [z]) (e + (z.l - x.l)) (n + (z.c - x.c)) := by
  have hx := h.nn x (by simp)
  have hlen := h.len
  have hcyc := h.cyc
  rw [sumL_snoc] at hlen
  rw [sumC_snoc] at hcyc
  refine ⟨fun i hi => ?_, by rw [sumL_snoc]; omega, by rw [sumC_snoc]; omega, fun i hi => ?_, fun y hy => ?_⟩
  · have hi' : i < (P ++ [x]).length := by simpa using hi
    have q := h.frm i hi'
    rw [List.length_append, List.length_singleton] at hi
    by_cases c : i < P.length
    · rw [at6_append_lt c, List.take_append_of_le_length (by omega)] at q ⊢
      exact q
    · obtain rfl : i = P.length := by omega
      rw [at6_append_eq, List.take_left'] at q ⊢
      · rw [← h4]; exact q
      · rfl
      · rfl
  · have hi' : i + 1 < (P ++ [x]).length := by simpa using hi
    have q := h.nj i hi'
    rw [List.length_append, List.length_singleton] at hi
    by_cases c : i + 1 < P.length
    · rw [at6_append_lt c, at6_append_lt (by omega)] at q ⊢
      exact q
    · obtain e1 : i + 1 = P.length := by omega
      rw [e1, at6_append_eq, at6_append_lt (by omega)] at q ⊢
      exact joB_like h1 h2 h3 h4 q
  · rcases List.mem_append.1 hy with hy | hy
    · exact h.nn y (by simp [hy])
    · simp at hy; subst hy; omega

theorem wrap_id {z : Int} (h : -9223372036854775808 ≤ z ∧ z ≤ 9223372036854775807) : wrap64 z = z := by unfold wrap64; omega

theorem Chn.add {L : List I6} {e n : Int} (h : Chn L e n) {y : I6} (hf : y.f = e) (hl : 0 ≤ y.l ∧ y.l ≤ 63) (hc : 0 ≤ y.c ∧ y.c ≤ 63) (he : e ≤ 536870912) (hn : n ≤ 4611686018427387904) : Chn (addL L y) (e + y.l) (n + y.c) := by
  by_cases hp : 0 < L.length
  · cases hj : joB (at6 L (L.length - 1)) y
    · rw [addL_more hj]
      exact h.snoc hf ⟨hl.1, hc.1⟩ (fun _ => hj)
    · rw [addL_join hp hj]
      obtain ⟨P, x, rfl, e1, e2⟩ := snoc_form hp
      rw [e1, e2]
      have hx := h.nn x (by simp)
      have s1 := h.len
      have s2 := h.cyc
      rw [sumL_snoc] at s1
      rw [sumC_snoc] at s2
      have nn := sumL_nn P (fun y hy => h.nn y (by simp [hy]))
      have w1 : (jn x y).l = x.l + y.l := wrap_id (by omega)
      have w2 : (jn x y).c = x.c + y.c := wrap_id (by omega)
      have q := h.last (z := jn x y) rfl rfl rfl rfl (by omega) (by omega)
      rw [w1, w2] at q
      rw [show e + y.l = e + (x.l + y.l - x.l) by omega, show n + y.c = n + (x.c + y.c - x.c) by omega]
      exact q
  · have hz : L = [] := List.length_eq_zero_iff.1 (by omega)
    subst hz
    exact h.snoc hf ⟨hl.1, hc.1⟩ (fun q => absurd q (by simp))

theorem take_sum {L : List I6} {i : Nat} (h : i < L.length) : sumL (L.take (i + 1)) = sumL (L.take i) + (at6 L i).l ∧ sumC (L.take (i + 1)) = sumC (L.take i) + (at6 L i).c := by
  rw [take_snoc6 h, sumL_snoc, sumC_snoc]
  exact ⟨rfl, rfl⟩

theorem sum_mono : ∀ (L : List I6) (i : Nat), (∀ x ∈ L, 0 ≤ x.l ∧ 0 ≤ x.c) → 0 ≤ sumL (L.take i) ∧ sumL (L.take i) ≤ sumL L ∧ 0 ≤ sumC (L.take i) ∧ sumC (L.take i) ≤ sumC L
  | [], i, _ => by simp [sumL, sumC]
  | y :: r, 0, h => by
    have := sumL_nn _ h
    simp only [List.take_zero, sumL, sumC] at this ⊢
    omega
  | y :: r, i + 1, h => by
    have h1 := h y (by simp)
    have h2 := sum_mono r i (fun x hx => h x (by simp [hx]))
    simp only [List.take_succ_cons, sumL, sumC]
    omega

end Go.Proofs.Ytbgpojhdkmhcbaa.TC
