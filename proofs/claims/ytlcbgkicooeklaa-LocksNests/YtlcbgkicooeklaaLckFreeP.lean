/- What is held, plain: no semaphore twice; what is left when a task is freed, and taken anew. -/
import Derived.Test.YtlcbgkicooeklaaLckPlain
namespace Go.Proofs.Ytlcbgkicooeklaa.LK
open Go.RowKit

/-- no semaphore is held twice -/
def NodS (L : List Hd) : Prop := ∀ i j, i < L.length → j < L.length → (atH L i).s = (atH L j).s → i = j

theorem nodS_nil : NodS [] := fun i j hi => by simp at hi

theorem heldB_f {L : List Hd} {s : Int} : heldB L s = false ↔ ∀ i, i < L.length → (atH L i).s ≠ s := by
  unfold heldB
  rw [anyH_f]
  constructor
  · intro h i hi; simpa using h i hi
  · intro h i hi; simpa using h i hi
theorem heldB_t {L : List Hd} {s : Int} (h : heldB L s = true) : ∃ i, i < L.length ∧ (atH L i).s = s := by
  obtain ⟨k, hk, q⟩ := anyH_t h
  exact ⟨k, hk, by simpa using q⟩
theorem heldB_at {L : List Hd} {s : Int} {i : Nat} (hi : i < L.length) (h : (atH L i).s = s) : heldB L s = true := anyH_at hi (by simpa using h)

theorem takeL_not {L : List Hd} {h : Hd} (q : heldB L h.s = false) : takeL L h = L ++ [h] := by unfold takeL; rw [q]; rfl
theorem takeL_held {L : List Hd} {h : Hd} (q : heldB L h.s = true) : takeL L h = L := by unfold takeL; rw [q]; rfl

theorem nodS_take {L : List Hd} {h : Hd} (n : NodS L) : NodS (takeL L h) := by
  cases q : heldB L h.s with
  | true => rw [takeL_held q]; exact n
  | false =>
    rw [takeL_not q]
    have hf := heldB_f.1 q
    intro i j hi hj e
    simp only [List.length_append, List.length_cons, List.length_nil] at hi hj
    by_cases h1 : i < L.length
    · by_cases h2 : j < L.length
      · rw [atH_append_lt h1, atH_append_lt h2] at e
        exact n i j h1 h2 e
      · obtain rfl : j = L.length := by omega
        rw [atH_append_lt h1, atH_append_eq] at e
        exact absurd e (hf i h1)
    · obtain rfl : i = L.length := by omega
      by_cases h2 : j < L.length
      · rw [atH_append_lt h2, atH_append_eq] at e
        exact absurd e.symm (hf j h2)
      · omega

/-- of those that are kept, the next one -/
theorem keep_next {f : Hd → Bool} {L : List Hd} {k : Nat} (h : k < L.length) (hf : f (atH L k) = false) :
    (keep f (L.take k)).length < (keep f L).length ∧ atH (keep f L) (keep f (L.take k)).length = atH L k := by
  have e : keep f L = keep f (L.take k) ++ atH L k :: keep f (L.drop (k + 1)) := by
    have h1 : L = L.take k ++ (atH L k :: L.drop (k + 1)) := by rw [← drop_consH h, List.take_append_drop]
    conv => lhs; rw [h1]
    unfold keep
    rw [List.filter_append, List.filter_cons]
    simp [hf]
  rw [e]
  exact ⟨by simp, atH_append_eq⟩

/-- what is held when the task t has been freed, and has taken anew those of the first k that it had -/
def frU (L : List Hd) (t : Int) (k : Nat) : List Hd := freeL L t ++ ((L.take k).filter (fun h => h.t == t)).map (fun h => ⟨t, h.s, 1⟩)

theorem frU_zero {L : List Hd} {t : Int} : frU L t 0 = freeL L t := by simp [frU]
theorem frU_miss {L : List Hd} {t : Int} {k : Nat} (h : k < L.length) (hm : (atH L k).t ≠ t) : frU L t (k + 1) = frU L t k := by
  unfold frU; rw [take_snocH h, List.filter_append]; simp [hm]
theorem frU_hit {L : List Hd} {t : Int} {k : Nat} (h : k < L.length) (hm : (atH L k).t = t) : frU L t (k + 1) = frU L t k ++ [⟨t, (atH L k).s, 1⟩] := by
  unfold frU; rw [take_snocH h, List.filter_append]; simp [hm]
theorem parts_len (f : Hd → Bool) : ∀ L : List Hd, (keep f L).length + (L.filter f).length = L.length
  | [] => rfl
  | a :: r => by
    have := parts_len f r
    unfold keep at *
    cases q : f a <;> simp [q] <;> omega
theorem frU_all {L : List Hd} {t : Int} {k : Nat} (h : L.length ≤ k) : (frU L t k).length = L.length := by
  have := parts_len (fun h => h.t == t) L
  unfold frU freeL
  rw [List.take_of_length_le h, List.length_append, List.length_map]
  exact this
theorem frU_le {L : List Hd} {t : Int} {k : Nat} : (frU L t k).length ≤ L.length := by
  have h1 := parts_len (fun h => h.t == t) L
  have h2 : ((L.take k).filter (fun h => h.t == t)).length ≤ (L.filter (fun h => h.t == t)).length := (List.Sublist.filter _ (List.take_sublist k L)).length_le
  unfold frU freeL
  rw [List.length_append, List.length_map]
  omega

theorem atH_mem_idx {L M : List Hd} {i : Nat} (hi : i < M.length) (hs : ∀ x ∈ M, ∃ j, j < L.length ∧ atH L j = x) : ∃ j, j < L.length ∧ atH L j = atH M i := hs _ (atH_mem hi)

/-- what the task had may be taken -/
theorem frU_free {L : List Hd} {t : Int} {k : Nat} (n : NodS L) (h : k < L.length) (hm : (atH L k).t = t) : heldB (frU L t k) (atH L k).s = false := by
  refine heldB_f.2 fun i hi e => ?_
  have hmem : atH (frU L t k) i ∈ frU L t k := atH_mem hi
  generalize atH (frU L t k) i = y at hmem e
  unfold frU at hmem
  rcases List.mem_append.1 hmem with hy | hy
  · have hy' : y ∈ L ∧ y.t ≠ t := by
      unfold freeL keep at hy
      rw [List.mem_filter] at hy
      exact ⟨hy.1, by simpa using hy.2⟩
    obtain ⟨j, hj, rfl⟩ := mem_atH hy'.1
    have := n j k hj h e
    subst this
    exact hy'.2 hm
  · obtain ⟨z, hz, rfl⟩ := List.mem_map.1 hy
    have hz' := (List.mem_filter.1 hz).1
    obtain ⟨j, hj, rfl⟩ := mem_atH hz'
    rw [List.length_take] at hj
    have e1 : atH (L.take k) j = atH L j := by simp [atH, show j < k by omega]
    rw [e1] at e
    have := n j k (by omega) h e
    omega

end Go.Proofs.Ytlcbgkicooeklaa.LK
