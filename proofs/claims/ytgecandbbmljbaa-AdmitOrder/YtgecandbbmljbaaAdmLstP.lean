/- Tasks less one, and tasks in another order: what becomes of the load, in plain words; their cells. -/
import Derived.Test.YtgecandbbmljbaaAdmFacts
import Derived.Test.YtgecandbbmljbaaAdmSpr
import Derived.Test.YtgecandbbmljbaaTskLst
namespace Go.Proofs.Ytgecandbbmljbaa.AD
open Go.ChangeShapes Go.WideShapes Go.ChangeAt Go.RowKit Go.Proofs.Ytgecandbbmljbaa.AR Go.Proofs.Ytgecandbbmljbaa.TB Go.Proofs.Ytgecandbbmljbaa.TK Go.Proofs.Ytgecandbbmljbaa.FX

/-! ### one less -/

def less (L : List Tk) (k : Nat) : List Tk := L.take k ++ L.drop (k + 1)
theorem less_mem {L : List Tk} {k : Nat} {t : Tk} (h : t ∈ less L k) : t ∈ L := by
  rcases List.mem_append.1 h with q | q
  · exact List.mem_of_mem_take q
  · exact List.mem_of_mem_drop q
theorem less_len {L : List Tk} {k : Nat} (h : k < L.length) : (less L k).length = L.length - 1 := by
  simp only [less, List.length_append, List.length_take, List.length_drop]; omega

theorem split_at {L : List Tk} {k : Nat} (h : k < L.length) : L = L.take k ++ (L[k] :: L.drop (k + 1)) := by
  rw [← List.drop_eq_getElem_cons h, List.take_append_drop]

theorem tot_nonneg {m : Mc} {lev : Int} : ∀ L : List Tk, 0 ≤ tot (L.map (pt m lev))
  | [] => Int.le_refl _
  | t :: L => by
    have h1 := pt_nonneg (m := m) (lev := lev) t
    have h2 := tot_nonneg (m := m) (lev := lev) L
    simp only [List.map_cons, tot]; omega

/-- with one less the load is no greater -/
theorem lod_less {m : Mc} (hb : Bd m) {L : List Tk} {k : Nat} (h : k < L.length) {lev : Int} : lod m (less L k) lev ≤ lod m L lev := by
  rw [lod_tot, lod_tot]
  have h1 := rsv_sub hb (L := L) (M := less L k) (fun t ht => less_mem ht)
  have h2 : tot (L.map (pt m lev)) = tot ((L.take k).map (pt m lev)) + (pt m lev L[k] + tot ((L.drop (k + 1)).map (pt m lev))) := by
    have e := congrArg (fun l => tot (l.map (pt m lev))) (split_at h)
    simp only [List.map_append, List.map_cons, tot_append, tot] at e
    exact e
  have h3 : tot ((less L k).map (pt m lev)) = tot ((L.take k).map (pt m lev)) + tot ((L.drop (k + 1)).map (pt m lev)) := by
    unfold less
    rw [List.map_append, tot_append]
  have h4 := pt_nonneg (m := m) (lev := lev) L[k]
  omega

theorem gd_sub {m : Mc} {L M : List Tk} (h : Gd m L) (hs : ∀ t ∈ M, t ∈ L) (hl : M.length ≤ L.length) : Gd m M := ⟨h.b, fun t ht => h.t t (hs t ht), Nat.le_trans hl h.n⟩

/-! ### in another order -/

theorem tot_perm {l r : List Int} (h : l.Perm r) : tot l = tot r := by
  induction h with
  | nil => rfl
  | cons x _ ih => simp only [tot, ih]
  | swap x y l => simp only [tot]; omega
  | trans _ _ h1 h2 => exact h1.trans h2

theorem rsv_perm {m : Mc} (hb : Bd m) {L M : List Tk} (h : M.Perm L) : rsv m M M.length = rsv m L L.length := by
  have h1 := rsv_sub hb (L := L) (M := M) (fun t ht => h.mem_iff.1 ht)
  have h2 := rsv_sub hb (L := M) (M := L) (fun t ht => h.mem_iff.2 ht)
  omega

theorem lod_perm {m : Mc} (hb : Bd m) {L M : List Tk} (h : M.Perm L) {lev : Int} : lod m M lev = lod m L lev := by
  rw [lod_tot, lod_tot, rsv_perm hb h, tot_perm (h.map (pt m lev))]

theorem slo_perm {m : Mc} (hb : Bd m) {L M : List Tk} (h : M.Perm L) : slo m M = slo m L := by
  unfold slo
  have : ∀ k, spr m M (cyc M) k = spr m L (cyc L) k := fun k => by
    induction k with
    | zero => rfl
    | succ k ih =>
      have e1 := lod_perm hb h (lev := (k : Int))
      have e2 := rsv_perm hb h
      unfold lod at e1
      have e3 : sm m M (cyc M) k M.length = sm m L (cyc L) k L.length := by omega
      simp only [spr, ih, e2, e3]
  exact this _

/-- two of them changed about -/
def swp (L : List Tk) (i j : Nat) (a b : Tk) : List Tk := (L.set i b).set j a
theorem swp_perm {L : List Tk} {i j : Nat} {a b : Tk} (ha : L[i]? = some a) (hb : L[j]? = some b) : (swp L i j a b).Perm L := by
  obtain ⟨hi, ea⟩ := List.getElem?_eq_some_iff.1 ha
  obtain ⟨hj, eb⟩ := List.getElem?_eq_some_iff.1 hb
  subst ea; subst eb
  exact List.set_set_perm hi hj

/-! ### their cells -/

theorem flat4_set : ∀ (L : List Tk) (i : Nat) (t : Tk), i < L.length → ((((flat4 L).set (i * 4) (t.cell 0)).set (i * 4 + 1) (t.cell 1)).set (i * 4 + 2) (t.cell 2)).set (i * 4 + 3) (t.cell 3) = flat4 (L.set i t)
  | [], i, t, h => by simp at h
  | u :: L, 0, t, _ => by simp [flat4]
  | u :: L, i + 1, t, h => by
    have ih := flat4_set L i t (by simpa using h)
    rw [show (i + 1) * 4 = i * 4 + 1 + 1 + 1 + 1 from by omega]
    simp only [flat4, List.set_cons_succ]
    rw [ih]

theorem flat4_take (L : List Tk) (k : Nat) : ∀ (j : Nat) (u : Value), (flat4 (L.take k))[j]? = some u → (flat4 L)[j]? = some u := by
  intro j u h
  have e : flat4 L = flat4 (L.take k) ++ flat4 (L.drop k) := by rw [← flat4_append, List.take_append_drop]
  rw [e, List.getElem?_append_left (List.getElem?_eq_some_iff.1 h).1]
  exact h

theorem flat4_drop (L : List Tk) (k : Nat) (hk : k ≤ L.length) : ∀ (j : Nat) (u : Value), (flat4 (L.drop k))[j]? = some u → (flat4 L)[k * 4 + j]? = some u := by
  intro j u h
  have e : flat4 L = flat4 (L.take k) ++ flat4 (L.drop k) := by rw [← flat4_append, List.take_append_drop]
  have l : (flat4 (L.take k)).length = k * 4 := by rw [flat4_len, List.length_take]; omega
  rw [e, List.getElem?_append_right (by omega), l]
  rw [show k * 4 + j - k * 4 = j from by omega]
  exact h

end Go.Proofs.Ytgecandbbmljbaa.AD
