/- What a task holds, plain: its semaphores in the order in which it took them; which one it may give. -/
import Derived.Test.YtlcbgkicooeklaaLckFreeP
import Derived.Test.YtlcbgkicooeklaaLckOps2
namespace Go.Proofs.Ytlcbgkicooeklaa.LK
open Go.RowKit

/-- the semaphores of the task 1 -/
def mn (L : List Hd) : List Int := (L.filter (fun h => h.t == 1)).map (fun h => h.s)

theorem mn_append (L M : List Hd) : mn (L ++ M) = mn L ++ mn M := by simp [mn]
theorem mn_len (L : List Hd) : (mn L).length ≤ L.length := by unfold mn; rw [List.length_map]; exact List.length_filter_le _ _
theorem mn_one {L : List Hd} {s : Int} (h : heldB L s = false) : mn (takeL L ⟨1, s, 5⟩) = mn L ++ [s] := by
  rw [takeL_not (h := ⟨1, s, 5⟩) h, mn_append]; rfl
theorem mn_held {L : List Hd} {h : Hd} (q : heldB L h.s = true) : mn (takeL L h) = mn L := by rw [takeL_held q]
theorem mn_two {L : List Hd} {s : Int} : mn (takeL L ⟨2, s, 5⟩) = mn L := by
  cases q : heldB L s with
  | true => exact mn_held (h := ⟨2, s, 5⟩) q
  | false => rw [takeL_not (h := ⟨2, s, 5⟩) q, mn_append]; simp [mn]

/-- all semaphores are bytes -/
def Rng (L : List Hd) : Prop := ∀ x ∈ L, 0 ≤ x.s ∧ x.s ≤ 255
theorem rng_nil : Rng [] := fun x hx => by simp at hx
theorem rng_take {L : List Hd} {h : Hd} (r : Rng L) (q : 0 ≤ h.s ∧ h.s ≤ 255) : Rng (takeL L h) := by
  unfold takeL
  cases heldB L h.s with
  | true => exact r
  | false =>
    intro x hx
    rcases List.mem_append.1 hx with hx | hx
    · exact r x hx
    · simp at hx; subst hx; exact q

theorem few_of : ∀ (n : Nat) (l : List Nat), l.Nodup → (∀ x ∈ l, x < n) → l.length ≤ n
  | 0, l, _, h => by
    cases l with
    | nil => simp
    | cons a r => exact absurd (h a (by simp)) (by omega)
  | n + 1, l, hd, h => by
    by_cases hm : n ∈ l
    · have h1 := few_of n (l.erase n) (hd.erase n) (fun x hx => by
        have hx' := (hd.mem_erase_iff).1 hx
        have := h x hx'.2
        have hne := hx'.1
        omega)
      rw [List.length_erase_of_mem hm] at h1
      omega
    · have := few_of n l hd (fun x hx => by
        have h1 := h x hx
        have h2 : x ≠ n := fun e => hm (e ▸ hx)
        omega)
      omega

theorem few {L : List Hd} (n : NodS L) (r : Rng L) : L.length ≤ 256 := by
  have hd : (L.map (fun x => x.s.toNat)).Nodup := by
    rw [List.nodup_iff_pairwise_ne, List.pairwise_iff_getElem]
    intro i j hi hj hij e
    simp only [List.length_map] at hi hj
    simp only [List.getElem_map] at e
    have r1 := r L[i] (List.getElem_mem hi)
    have r2 := r L[j] (List.getElem_mem hj)
    have := n i j hi hj (by rw [atH_get hi, atH_get hj]; omega)
    omega
  have := few_of 256 _ hd (fun x hx => by
    obtain ⟨y, hy, rfl⟩ := List.mem_map.1 hx
    have := r y hy
    omega)
  rw [List.length_map] at this
  exact this

/-- the last one -/
theorem mn_last (L : List Hd) : (lastI L 1 L.length = -1 ∧ mn L = []) ∨ ∃ k : Nat, lastI L 1 L.length = k ∧ k < L.length ∧ mn L = mn (cutH L k) ++ [(atH L k).s] := by
  have none : ∀ M : List Hd, (∀ x ∈ M, x.t ≠ 1) → mn M = [] := by
    intro M h
    unfold mn
    rw [List.filter_eq_nil_iff.2 (fun x hx => by simpa using h x hx)]
    rfl
  rcases lastI_cases (L := L) (t := 1) L.length with ⟨h1, h2⟩ | ⟨k, h1, h2, h3, h4⟩
  · refine .inl ⟨h1, none L fun x hx => ?_⟩
    obtain ⟨i, hi, rfl⟩ := mem_atH hx
    exact h2 i hi
  · refine .inr ⟨k, h1, h2, ?_⟩
    have e : L = L.take k ++ (atH L k :: L.drop (k + 1)) := by rw [← drop_consH h2, List.take_append_drop]
    have hz : mn (L.drop (k + 1)) = [] := none _ fun x hx => by
      obtain ⟨i, hi, rfl⟩ := mem_atH hx
      rw [List.length_drop] at hi
      have e1 : atH (L.drop (k + 1)) i = atH L (k + 1 + i) := by unfold atH; simp
      rw [e1]
      exact h4 _ (by omega) (by omega)
    have e2 : mn (atH L k :: L.drop (k + 1)) = [(atH L k).s] := by
      have : mn (atH L k :: L.drop (k + 1)) = (atH L k).s :: mn (L.drop (k + 1)) := by
        unfold mn
        rw [List.filter_cons_of_pos (by simpa using h3)]
        rfl
      rw [this, hz]
    conv => lhs; rw [e]
    rw [mn_append, e2]
    unfold cutH
    rw [mn_append, hz, List.append_nil]

theorem give_no {L : List Hd} {s : Int} (h : mn L = [] ∨ ∃ ms z, mn L = ms ++ [z] ∧ s ≠ z) : giveB L 1 s = false ∧ giveL L 1 s = L := by
  rcases mn_last L with ⟨h1, _⟩ | ⟨k, h1, hk, h3⟩
  · exact giveB_none h1
  · refine giveB_other h1 fun e => ?_
    rcases h with h | ⟨ms, z, h, hne⟩
    · rw [h] at h3
      exact absurd h3 (by simp)
    · rw [h] at h3
      have := List.append_inj_right' h3 rfl
      simp at this
      exact hne (e ▸ this.symm)

theorem give_yes {L : List Hd} {ms : List Int} {z : Int} (h : mn L = ms ++ [z]) : giveB L 1 z = true ∧ mn (giveL L 1 z) = ms := by
  rcases mn_last L with ⟨_, h2⟩ | ⟨k, h1, hk, h3⟩
  · rw [h] at h2
    simp at h2
  · rw [h] at h3
    have e1 := List.append_inj_right' h3 rfl
    have e2 := List.append_inj_left' h3 rfl
    simp at e1
    obtain ⟨g1, g2⟩ := giveB_it h1 e1.symm
    exact ⟨g1, by rw [g2]; exact e2.symm⟩

end Go.Proofs.Ytlcbgkicooeklaa.LK
