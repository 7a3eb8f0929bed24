/- Slower levels, and the level that does, in plain words. -/
import Derived.Test.YtgecandbbmljbaaAdmFacts
import Derived.Test.YtgecandbbmljbaaAdmSpr
namespace Go.Proofs.Ytgecandbbmljbaa.AD
open Go.ChangeShapes Go.WideShapes Go.ChangeAt Go.RowKit Go.Proofs.Ytgecandbbmljbaa.AR Go.Proofs.Ytgecandbbmljbaa.TB Go.Proofs.Ytgecandbbmljbaa.TK Go.Proofs.Ytgecandbbmljbaa.FX

theorem tot_mono {α : Type} {f g : α → Int} : ∀ {L : List α}, (∀ t ∈ L, f t ≤ g t) → tot (L.map f) ≤ tot (L.map g)
  | [], _ => Int.le_refl _
  | t :: L, h => by
    have h1 := h t (by simp)
    have h2 := tot_mono (f := f) (g := g) (L := L) (fun u hu => h u (by simp [hu]))
    simp only [List.map_cons, tot]; omega

theorem pt_rise {m : Mc} (hb : Bd m) {t : Tk} (ht : BT t) {i j : Nat} (hij : i ≤ j) (hj : j < m.lL) : pt m i t ≤ pt m j t := by
  unfold pt
  refine ut_mono _ ?_
  rw [qn_in (by omega), qn_in (by omega)]
  simp only [Int.toNat_natCast]
  have := Int.mul_le_mul_of_nonneg_left (hb.rise hij hj) ht.c.1
  omega

/-- at a slower level the load is no less -/
theorem lod_rise {m : Mc} {L : List Tk} (hd : Gd m L) {i j : Nat} (hij : i ≤ j) (hj : j < m.lL) : lod m L i ≤ lod m L j := by
  rw [lod_tot, lod_tot]
  have := tot_mono (f := pt m i) (g := pt m j) (L := L) (fun t ht => pt_rise hd.b (hd.t t ht) hij hj)
  omega

theorem spr_crit {m : Mc} (h : 0 ≤ m.crit) {L : List Tk} {zs : List Int} : ∀ {k : Nat}, (spr m L zs k : Int) ≤ m.crit
  | 0 => h
  | k + 1 => by
    have ih := spr_crit h (L := L) (zs := zs) (k := k)
    by_cases h1 : (k : Int) ≤ m.crit
    · by_cases h2 : sm m L zs k L.length ≤ 4294967296 - rsv m L L.length
      · rw [spr_turn h1 h2]; exact h1
      · rw [spr_stay h2]; exact ih
    · rw [spr_late h1]; exact ih

theorem spr_fits {m : Mc} {L : List Tk} {zs : List Int} : ∀ {k : Nat}, spr m L zs k = 0 ∨ sm m L zs (spr m L zs k) L.length ≤ 4294967296 - rsv m L L.length
  | 0 => .inl rfl
  | k + 1 => by
    have ih := spr_fits (m := m) (L := L) (zs := zs) (k := k)
    by_cases h1 : (k : Int) ≤ m.crit
    · by_cases h2 : sm m L zs k L.length ≤ 4294967296 - rsv m L L.length
      · rw [spr_turn h1 h2]; exact .inr h2
      · rw [spr_stay h2]; exact ih
    · rw [spr_late h1]; exact ih

/-- no slower one does -/
theorem spr_most {m : Mc} {L : List Tk} {zs : List Int} {i : Nat} (h1 : (i : Int) ≤ m.crit) (h2 : sm m L zs i L.length ≤ 4294967296 - rsv m L L.length) : ∀ {k : Nat}, i < k → i ≤ spr m L zs k
  | k + 1, hk => by
    by_cases e : i = k
    · subst e; rw [spr_turn h1 h2]; exact Nat.le_refl _
    · have ih := spr_most h1 h2 (k := k) (by omega)
      by_cases g1 : (k : Int) ≤ m.crit
      · by_cases g2 : sm m L zs k L.length ≤ 4294967296 - rsv m L L.length
        · rw [spr_turn g1 g2]; omega
        · rw [spr_stay g2]; exact ih
      · rw [spr_late g1]; exact ih

theorem slo_said {m : Mc} {L : List Tk} (hd : Gd m L) : (slo m L : Int) ≤ m.crit ∧ (slo m L = 0 ∨ lod m L (slo m L) ≤ 4294967296) := by
  refine ⟨spr_crit hd.b.cr.1, ?_⟩
  rcases spr_fits (m := m) (L := L) (zs := cyc L) (k := m.lL) with e | e
  · exact .inl e
  · right
    unfold lod
    show rsv m L L.length + sm m L (cyc L) (slo m L) L.length ≤ _
    unfold slo
    omega

/-- a number of so many -/
theorem mod_of {a : Int} {n : Nat} (ha : 0 ≤ a ∧ a ≤ 255) (hn : 1 ≤ n) : ∃ x : Nat, x < n ∧ a.tmod (n : Int) = x ∧ IntKind.i64.wrap (a.tmod (n : Int)) = x := by
  have e : a.tmod (n : Int) = a % (n : Int) := Int.tmod_eq_emod_of_nonneg ha.1
  have h1 := Int.emod_nonneg a (show (n : Int) ≠ 0 by omega)
  have h2 := Int.emod_lt_of_pos a (show (0 : Int) < n by omega)
  have h3 : a % (n : Int) ≤ a := by
    by_cases c : a < n
    · rw [Int.emod_eq_of_lt ha.1 c]; exact Int.le_refl _
    · omega
  refine ⟨(a % (n : Int)).toNat, by omega, by rw [e]; omega, ?_⟩
  rw [e, IntWalk.i64_left, IntWalk.wrap64_in _ (by omega)]
  omega

theorem u8_in {x : Int} (h : (Lit.int .u8 x).wf = true) : 0 ≤ x ∧ x ≤ 255 := by
  simp [Lit.wf, IntKind.min, IntKind.max, IntKind.signed, IntKind.bits] at h
  omega

end Go.Proofs.Ytgecandbbmljbaa.AD
