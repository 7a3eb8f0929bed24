/- What tasks take of a machine: quanta, hold-ups, the reserve, the load, the slowest level that does: in plain words. -/
import Derived.Test.YtilafcplijgjjaaTskChk2
import Derived.Test.YtilafcplijgjjaaTskLst
import Derived.Test.YtilafcplijgjjaaFxPlain
namespace Go.Proofs.Ytilafcplijgjjaa.AD
open Go.ChangeShapes Go.WideShapes Go.ChangeAt Go.RowKit Go.Proofs.Ytilafcplijgjjaa.AR Go.Proofs.Ytilafcplijgjjaa.TB Go.Proofs.Ytilafcplijgjjaa.TK Go.Proofs.Ytilafcplijgjjaa.FX

/-- a machine whose numbers are small -/
structure Bd (m : Mc) : Prop where
  l4 : m.lL ≤ 4
  lev : ∀ i, i < m.lL → 1 ≤ fd m.rL i 0 ∧ fd m.rL i 0 ≤ 256
  up : ∀ i, i + 1 < m.lL → fd m.rL i 0 ≤ fd m.rL (i + 1) 0
  sw : 0 ≤ m.sw ∧ m.sw ≤ 256
  cr : 0 ≤ m.crit ∧ m.crit < m.lL

theorem bd_of {m : Mc} (h : m.may = true) : Bd m := by
  have q := mayB_t.1 h
  have n := q.1
  have l := q.2.1
  refine ⟨l.1.2, lev_pos l.2, fun i hi => ?_, n.2.2.1, ⟨n.2.1.1, by have := n.2.1.2; omega⟩⟩
  have := (l.2 (i + 1) hi).1
  simp only [ahd] at this
  omega

theorem Bd.rise {m : Mc} (h : Bd m) : ∀ {j i : Nat}, i ≤ j → j < m.lL → fd m.rL i 0 ≤ fd m.rL j 0
  | 0, i, hi, _ => by obtain rfl : i = 0 := by omega
                      exact Int.le_refl _
  | j + 1, i, hi, hj => by
    by_cases e : i = j + 1
    · subst e; exact Int.le_refl _
    · exact Int.le_trans (h.rise (j := j) (by omega) (by omega)) (h.up j hj)

/-- a task whose numbers are small -/
structure BT (t : Tk) : Prop where
  c : 0 ≤ t.c ∧ t.c ≤ 4096
  s : ∀ k, k < t.sl → 0 ≤ t.sz.getD k 0 ∧ t.sz.getD k 0 ≤ 4096

theorem bt_of {m : Mc} {t : Tk} (h : tkB m t = true) : BT t ∧ 1 ≤ t.p ∧ t.p ≤ m.hor := by
  have h1 : tmB m t = true := by
    cases q : tmB m t with
    | true => rfl
    | false => simp [tkB, q] at h
  have h2 : scB m t = true := by
    cases q : scB m t with
    | true => rfl
    | false => simp [tkB, q] at h
  have t1 := tmB_t.1 h1
  refine ⟨⟨⟨by omega, t1.2.2⟩, fun k hk => ?_⟩, t1.1⟩
  simp only [scB, Bool.and_eq_true, decide_eq_true_eq, Bool.not_eq_true'] at h2
  have := anyB_f.1 h2.2 k hk
  simp only [Bool.not_eq_false'] at this
  have := inB_t.1 this
  omega

/-- P of a level; 0 without it -/
def pcI (m : Mc) (lev : Int) : Int := if 0 ≤ lev ∧ lev < m.lL then fd m.rL lev.toNat 0 else 0
/-- what a job of so many cycles takes at a level; 0 without it -/
def qn (m : Mc) (c lev : Int) : Int := if 0 ≤ lev ∧ lev < m.lL then c * fd m.rL lev.toNat 0 + 2 * m.sw else 0
theorem qn_in {m : Mc} {c lev : Int} (h : 0 ≤ lev ∧ lev < m.lL) : qn m c lev = c * fd m.rL lev.toNat 0 + 2 * m.sw := by unfold qn; rw [if_pos h]
theorem qn_out {m : Mc} {c lev : Int} (h : ¬ (0 ≤ lev ∧ lev < m.lL)) : qn m c lev = 0 := by unfold qn; rw [if_neg h]
theorem qn_bd {m : Mc} (hb : Bd m) {c lev : Int} (hc : 0 ≤ c ∧ c ≤ 4096) : 0 ≤ qn m c lev ∧ qn m c lev ≤ 1049088 := by
  by_cases h : 0 ≤ lev ∧ lev < m.lL
  · rw [qn_in h]
    have l := hb.lev lev.toNat (by omega)
    have q := mul_bound (a := c) (b := fd m.rL lev.toNat 0) (A := 4096) (B := 256) hc.1 hc.2 (by omega) l.2
    have s := hb.sw
    omega
  · rw [qn_out h]; omega

/-- a part is small where its quanta are -/
theorem ut_small {c t : Int} (h0 : 0 ≤ c) (h1 : c ≤ 1049088) : 0 ≤ ut c t ∧ ut c t ≤ 4505798650626048 := by
  have b := ut_bd c t
  refine ⟨b.1, ?_⟩
  by_cases h : t < 1
  · rw [ut_never h]; omega
  · rw [ut_up h, cl_in (by omega) (by omega)]
    have := up_le (p := c * 4294967296) (t := t) (by omega) (by omega)
    omega

/-- all parts of the first k, if each takes so many cycles -/
def sm (m : Mc) (L : List Tk) (zs : List Int) (lev : Int) : Nat → Int
  | 0 => 0
  | k + 1 => match L[k]? with
    | some t => sm m L zs lev k + ut (qn m (zs.getD k 0) lev) t.p
    | none => sm m L zs lev k
theorem sm_one {m : Mc} {L : List Tk} {zs : List Int} {lev : Int} {k : Nat} {t : Tk} (h : L[k]? = some t) : sm m L zs lev (k + 1) = sm m L zs lev k + ut (qn m (zs.getD k 0) lev) t.p := by simp [sm, h]
/-- cycles that may be -/
def Cy (zs : List Int) (n : Nat) : Prop := ∀ i, i < n → 0 ≤ zs.getD i 0 ∧ zs.getD i 0 ≤ 4096
theorem sm_bd {m : Mc} (hb : Bd m) {L : List Tk} {zs : List Int} {lev : Int} : ∀ {k : Nat}, Cy zs k → 0 ≤ sm m L zs lev k ∧ sm m L zs lev k ≤ k * 4505798650626048
  | 0, _ => by simp [sm]
  | k + 1, h => by
    have ih := sm_bd hb (L := L) (zs := zs) (lev := lev) (k := k) (fun i hi => h i (by omega))
    have q := qn_bd hb (lev := lev) (h k (by omega))
    cases hl : L[k]? with
    | none => simp only [sm, hl]; omega
    | some t =>
      have u := ut_small (t := t.p) q.1 q.2
      rw [sm_one hl]; omega

/-- the longest hold-up by one task's semaphores -/
def hin (L : List Tk) (per : Int) (zs : List Int) (st : Int) : Nat → Int
  | 0 => st
  | k + 1 => bif decide (hin L per zs st k < zs.getD k 0) && decide (cel L k L.length ≤ per) then zs.getD k 0 else hin L per zs st k
theorem hin_turn {L : List Tk} {per : Int} {zs : List Int} {st : Int} {k : Nat} (h1 : hin L per zs st k < zs.getD k 0) (h2 : cel L k L.length ≤ per) : hin L per zs st (k + 1) = zs.getD k 0 := by
  have e1 := decide_eq_true h1
  have e2 := decide_eq_true h2
  simp only [hin, e1, e2, Bool.and_self, cond_true]
theorem hin_stay {L : List Tk} {per : Int} {zs : List Int} {st : Int} {k : Nat} (h : ¬ (hin L per zs st k < zs.getD k 0 ∧ cel L k L.length ≤ per)) : hin L per zs st (k + 1) = hin L per zs st k := by
  by_cases h1 : hin L per zs st k < zs.getD k 0
  · have h2 : ¬ cel L k L.length ≤ per := fun q => h ⟨h1, q⟩
    simp [hin, h2]
  · have h2 := decide_eq_false h1
    simp only [hin, h2, Bool.false_and, cond_false]
/-- the longest hold-up by the first k tasks -/
def hout (L : List Tk) (per : Int) : Nat → Int
  | 0 => 0
  | k + 1 => match L[k]? with
    | some t => bif decide (per < t.p) then hin L per t.sz (hout L per k) t.sl else hout L per k
    | none => hout L per k
theorem hout_in {L : List Tk} {per : Int} {k : Nat} {t : Tk} (h : L[k]? = some t) (hp : per < t.p) : hout L per (k + 1) = hin L per t.sz (hout L per k) t.sl := by simp [hout, h, hp]
theorem hout_not {L : List Tk} {per : Int} {k : Nat} {t : Tk} (h : L[k]? = some t) (hp : ¬ per < t.p) : hout L per (k + 1) = hout L per k := by simp [hout, h, hp]

theorem hin_bd {L : List Tk} {per : Int} {zs : List Int} {st : Int} (h0 : 0 ≤ st ∧ st ≤ 4096) : ∀ {k : Nat}, Cy zs k → 0 ≤ hin L per zs st k ∧ hin L per zs st k ≤ 4096
  | 0, _ => h0
  | k + 1, h => by
    have ih := hin_bd (L := L) (per := per) h0 (k := k) (fun i hi => h i (by omega))
    by_cases g : hin L per zs st k < zs.getD k 0 ∧ cel L k L.length ≤ per
    · rw [hin_turn g.1 g.2]; exact h k (by omega)
    · rw [hin_stay g]; exact ih

theorem hout_bd {L : List Tk} {per : Int} (h : ∀ t ∈ L, BT t) : ∀ {k : Nat}, 0 ≤ hout L per k ∧ hout L per k ≤ 4096
  | 0 => by simp [hout]
  | k + 1 => by
    have ih := hout_bd (per := per) h (k := k)
    cases hl : L[k]? with
    | none => simp only [hout, hl]; exact ih
    | some t =>
      by_cases g : per < t.p
      · rw [hout_in hl g]; exact hin_bd ih (h t (List.mem_of_getElem? hl)).s
      · rw [hout_not hl g]; exact ih

/-- P of the critical level -/
def slw (m : Mc) : Int := fd m.rL m.crit.toNat 0
theorem slw_bd {m : Mc} (hb : Bd m) : 1 ≤ slw m ∧ slw m ≤ 256 := hb.lev _ (by have := hb.cr; omega)
/-- the greater one -/
def mx (a b : Int) : Int := if a < b then b else a
theorem mx_lt {a b : Int} (h : a < b) : mx a b = b := by unfold mx; rw [if_pos h]
theorem mx_ge {a b : Int} (h : ¬ a < b) : mx a b = a := by unfold mx; rw [if_neg h]
/-- how long jobs of a period may be held up -/
def blk (m : Mc) (L : List Tk) (per : Int) : Int := hout L per L.length * slw m + mx (slw m) m.sw
theorem mx_bd {m : Mc} (hb : Bd m) : 1 ≤ mx (slw m) m.sw ∧ mx (slw m) m.sw ≤ 256 := by
  have h1 := slw_bd hb
  have h2 := hb.sw
  unfold mx; split <;> omega
theorem blk_bd {m : Mc} (hb : Bd m) {L : List Tk} (h : ∀ t ∈ L, BT t) {per : Int} : 0 ≤ blk m L per ∧ blk m L per ≤ 1048832 := by
  have h1 := slw_bd hb
  have h2 := mx_bd hb
  have h3 := hout_bd (per := per) h (k := L.length)
  have h4 := mul_bound (a := hout L per L.length) (b := slw m) (A := 4096) (B := 256) h3.1 h3.2 (by omega) h1.2
  unfold blk; omega

/-- the reserve for the first k -/
def rsv (m : Mc) (L : List Tk) : Nat → Int
  | 0 => 0
  | k + 1 => match L[k]? with
    | some t => mx (rsv m L k) (ut (blk m L t.p) t.p)
    | none => rsv m L k
theorem rsv_one {m : Mc} {L : List Tk} {k : Nat} {t : Tk} (h : L[k]? = some t) : rsv m L (k + 1) = mx (rsv m L k) (ut (blk m L t.p) t.p) := by simp [rsv, h]
theorem rsv_bd {m : Mc} (hb : Bd m) {L : List Tk} (h : ∀ t ∈ L, BT t) : ∀ {k : Nat}, 0 ≤ rsv m L k ∧ rsv m L k ≤ 4505798650626048
  | 0 => by simp [rsv]
  | k + 1 => by
    have ih := rsv_bd hb h (k := k)
    cases hl : L[k]? with
    | none => simp only [rsv, hl]; exact ih
    | some t =>
      have b := blk_bd hb h (per := t.p)
      have u := ut_small (c := blk m L t.p) (t := t.p) b.1 (by omega)
      rw [rsv_one hl]; unfold mx; split <;> omega

/-- each one's cycles -/
def cyc (L : List Tk) : List Int := L.map Tk.c
theorem cyc_at {L : List Tk} {k : Nat} {t : Tk} (h : L[k]? = some t) : (cyc L).getD k 0 = t.c := by simp [cyc, List.getD_eq_getElem?_getD, h]
theorem cyc_cy {L : List Tk} (h : ∀ t ∈ L, BT t) : Cy (cyc L) L.length := by
  intro i hi
  have hg : L[i]? = some L[i] := List.getElem?_eq_getElem hi
  rw [cyc_at hg]
  exact (h _ (List.getElem_mem hi)).c

/-- the load -/
def lod (m : Mc) (L : List Tk) (lev : Int) : Int := rsv m L L.length + sm m L (cyc L) lev L.length
theorem lod_bd {m : Mc} (hb : Bd m) {L : List Tk} (h : ∀ t ∈ L, BT t) (hl : L.length ≤ 64) {lev : Int} : 0 ≤ lod m L lev ∧ lod m L lev ≤ 292876912290693120 := by
  have h1 := rsv_bd hb h (k := L.length)
  have h2 := sm_bd hb (L := L) (lev := lev) (cyc_cy h)
  unfold lod
  have : (L.length : Int) * 4505798650626048 ≤ 64 * 4505798650626048 := Int.mul_le_mul_of_nonneg_right (by omega) (by omega)
  omega

/-- the slowest of the first k levels that does -/
def spr (m : Mc) (L : List Tk) (zs : List Int) : Nat → Nat
  | 0 => 0
  | k + 1 => bif decide ((k : Int) ≤ m.crit) && decide (sm m L zs k L.length ≤ 4294967296 - rsv m L L.length) then k else spr m L zs k
theorem spr_turn {m : Mc} {L : List Tk} {zs : List Int} {k : Nat} (h1 : (k : Int) ≤ m.crit) (h2 : sm m L zs k L.length ≤ 4294967296 - rsv m L L.length) : spr m L zs (k + 1) = k := by simp [spr, h1, h2]
theorem spr_late {m : Mc} {L : List Tk} {zs : List Int} {k : Nat} (h1 : ¬ (k : Int) ≤ m.crit) : spr m L zs (k + 1) = spr m L zs k := by simp [spr, h1]
theorem spr_stay {m : Mc} {L : List Tk} {zs : List Int} {k : Nat} (h2 : ¬ sm m L zs k L.length ≤ 4294967296 - rsv m L L.length) : spr m L zs (k + 1) = spr m L zs k := by simp [spr, h2]
theorem spr_first {m : Mc} {L : List Tk} {zs : List Int} : spr m L zs 1 = 0 := by
  unfold spr
  cases (decide (((0 : Nat) : Int) ≤ m.crit) && decide (sm m L zs (0 : Nat) L.length ≤ 4294967296 - rsv m L L.length)) <;> rfl

/-- all that is spoken of -/
structure Gd (m : Mc) (L : List Tk) : Prop where
  b : Bd m
  t : ∀ t ∈ L, BT t
  n : L.length ≤ 64

end Go.Proofs.Ytilafcplijgjjaa.AD
