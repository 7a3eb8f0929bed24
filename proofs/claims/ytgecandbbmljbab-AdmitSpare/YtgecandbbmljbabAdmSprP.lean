/- With fewer cycles the level that does is no faster, in plain words. -/
import Derived.Test.YtgecandbbmljbabAdmSloP
namespace Go.Proofs.Ytgecandbbmljbab.AD
open Go.ChangeShapes Go.WideShapes Go.ChangeAt Go.RowKit Go.Proofs.Ytgecandbbmljbab.AR Go.Proofs.Ytgecandbbmljbab.TB Go.Proofs.Ytgecandbbmljbab.TK Go.Proofs.Ytgecandbbmljbab.FX

/-- each takes no more -/
def Less (Y Z : List Int) (n : Nat) : Prop := ∀ i, i < n → Y.getD i 0 ≤ Z.getD i 0

theorem sm_less {m : Mc} (hb : Bd m) {L : List Tk} {Y Z : List Int} {lev : Int} : ∀ {k : Nat}, Less Y Z k → sm m L Y lev k ≤ sm m L Z lev k
  | 0, _ => Int.le_refl _
  | k + 1, h => by
    have ih := sm_less hb (L := L) (lev := lev) (k := k) (fun i hi => h i (by omega))
    cases hl : L[k]? with
    | none => simp only [sm, hl]; exact ih
    | some t =>
      rw [sm_one hl, sm_one hl]
      have q : ut (qn m (Y.getD k 0) lev) t.p ≤ ut (qn m (Z.getD k 0) lev) t.p := by
        refine ut_mono _ ?_
        by_cases g : 0 ≤ lev ∧ lev < m.lL
        · rw [qn_in g, qn_in g]
          have l := hb.lev lev.toNat (by omega)
          have := Int.mul_le_mul_of_nonneg_right (h k (by omega)) (show 0 ≤ fd m.rL lev.toNat 0 by omega)
          omega
        · rw [qn_out g, qn_out g]; exact Int.le_refl _
      omega

/-- with fewer cycles it is no faster -/
theorem spr_less {m : Mc} (hb : Bd m) {L : List Tk} {Y Z : List Int} (h : Less Y Z L.length) : spr m L Z m.lL ≤ spr m L Y m.lL := by
  rcases spr_fits (m := m) (L := L) (zs := Z) (k := m.lL) with e | e
  · rw [e]; exact Nat.zero_le _
  · have c := spr_crit hb.cr.1 (L := L) (zs := Z) (k := m.lL)
    have q := sm_less hb (L := L) (lev := (spr m L Z m.lL : Int)) h
    exact spr_most c (by omega) (by have := hb.cr; omega)

end Go.Proofs.Ytgecandbbmljbab.AD
