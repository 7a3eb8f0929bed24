/- Of which machines and tasks the statements speak. -/
import Derived.Test.YtilafcplijgjjaaAdmSum
import Derived.Test.YtilafcplijgjjaaTbl
namespace Go.Proofs.Ytilafcplijgjjaa.AD
open Go.ChangeShapes Go.WideShapes Go.ChangeAt Go.RowKit Go.Proofs.Ytilafcplijgjjaa.AR Go.Proofs.Ytilafcplijgjjaa.TB Go.Proofs.Ytilafcplijgjjaa.TK Go.Proofs.Ytilafcplijgjjaa.FX

theorem table_at (m : Mc) (w : World) (h : m.At w) : Calls Try.prog 13 #[m.v] w fun e w' => e = .returned (.bool m.may) ∧ Kp w w' :=
  reftable_any m.aL m.lL m.cL m.rL m.aS m.lS m.cS m.rS m.aD m.lD m.cD m.rD m.idle m.crit m.sw m.swe m.sems m.hor w h

/-- the first k may be -/
def allT (m : Mc) (L : List Tk) : Nat → Bool
  | 0 => true
  | k + 1 => allT m L k && (match L[k]? with
    | some t => tkB m t
    | none => true)
theorem allT_one {m : Mc} {L : List Tk} {k : Nat} {t : Tk} (h : L[k]? = some t) : allT m L (k + 1) = (allT m L k && tkB m t) := by simp [allT, h]
theorem allT_f {m : Mc} {L : List Tk} {k : Nat} {t : Tk} (h : L[k]? = some t) (g : tkB m t = false) : ∀ {n : Nat}, k < n → allT m L n = false
  | n + 1, hn => by
    by_cases e : k = n
    · subst e; rw [allT_one h, g, Bool.and_false]
    · have := allT_f h g (n := n) (by omega)
      simp only [allT, this, Bool.false_and]
theorem allT_t {m : Mc} {L : List Tk} : ∀ {n : Nat}, allT m L n = true → ∀ {k : Nat} {t : Tk}, k < n → L[k]? = some t → tkB m t = true := by
  intro n h k t hk hg
  cases q : tkB m t with
  | true => rfl
  | false => rw [allT_f hg q hk] at h; cases h
/-- all that is spoken of -/
def goodB (m : Mc) (L : List Tk) : Bool := m.may && decide (L.length ≤ 64) && allT m L L.length

theorem good_t {m : Mc} {L : List Tk} (h : goodB m L = true) : Gd m L ∧ ∀ t ∈ L, 1 ≤ t.p ∧ t.p ≤ 16384 := by
  simp only [goodB, Bool.and_eq_true, decide_eq_true_eq] at h
  obtain ⟨⟨h1, h2⟩, h3⟩ := h
  have a : ∀ t ∈ L, tkB m t = true := fun t ht => by
    obtain ⟨i, hi, e⟩ := List.mem_iff_getElem.1 ht
    exact allT_t h3 hi (by rw [List.getElem?_eq_getElem hi, e])
  have hh := (mayB_t.1 h1).1.2.2.2.2.2
  exact ⟨⟨bd_of h1, fun t ht => (bt_of (a t ht)).1, h2⟩, fun t ht => ⟨(bt_of (a t ht)).2.1, Int.le_trans (bt_of (a t ht)).2.2 hh.2⟩⟩

end Go.Proofs.Ytilafcplijgjjaa.AD
