/- Plain facts on timers: lists of an id, its moment and its every. -/
import Derived.Test.YthhhakglchcfgaaRest
namespace Go.Proofs.Ythhhakglchcfgaa.HW
open Go.ChangeShapes Go.WideShapes Go.ChangeAt Go.RowKit Go.Proofs.Ythhhakglchcfgaa.HP Go.Maps Go.Proofs.Ythhhakglchcfgaa.HM

/-- an id, its moment, its every -/
abbrev T3 := Int × Int × Int

def pr (t : T3) : E := (t.1, t.2.1)
def prs (L : List T3) : List E := L.map pr
def idt (L : List T3) : List Int := L.map (·.1)
/-- all but one id -/
def dropT (L : List T3) (id : Int) : List T3 := L.filter fun e => e.1 != id
/-- a moment, or Never -/
def capN (x : Int) : Int := if x ≤ 1099511627776 then x else 1099511627776
/-- what Set makes -/
def setT (L : List T3) (id a ev : Int) : List T3 := dropT L id ++ [(id, capN a, ev)]
/-- the moment every quanta behind a, or Never -/
def latN (a ev : Int) : Int := if 1099511627776 - a < ev then 1099511627776 else a + ev
/-- what is there behind Due, of which t came -/
def nextT (L : List T3) (t : T3) : List T3 := if 0 < t.2.2 then setT L t.1 (latN t.2.1 t.2.2) t.2.2 else dropT L t.1
/-- t is due first -/
def Least (L : List T3) (t : T3) : Prop := t ∈ L ∧ ∀ u ∈ L, ltB (pr u) (pr t) = false

theorem ids_prs (L : List T3) : ids (prs L) = idt L := by simp [ids, prs, idt, pr, Function.comp_def]

theorem prs_drop (L : List T3) (id : Int) : prs (dropT L id) = HP.drop (prs L) id := by
  induction L with
  | nil => rfl
  | cons a r ih =>
    simp only [prs, dropT, HP.drop, List.filter_cons, List.map_cons, pr] at *
    split
    · simp [ih, pr]
    · exact ih

theorem prs_set (L : List T3) (id a ev : Int) : (prs (setT L id a ev)).Perm ((id, capN a) :: HP.drop (prs L) id) := by
  have : prs (setT L id a ev) = prs (dropT L id) ++ [(id, capN a)] := by simp [setT, prs, pr]
  rw [this, prs_drop]
  exact List.perm_append_singleton _ _

theorem prs_len (L : List T3) : (prs L).length = L.length := by simp [prs]

theorem idt_dropT {L : List T3} {id : Int} : id ∉ idt (dropT L id) := by
  intro h
  obtain ⟨e, he, rfl⟩ := List.mem_map.1 h
  simp [dropT] at he

theorem mem_dropT {L : List T3} {id : Int} {e : T3} : e ∈ dropT L id ↔ e ∈ L ∧ e.1 ≠ id := by simp [dropT]

theorem dropT_none {L : List T3} {id : Int} (h : id ∉ idt L) : dropT L id = L := by
  unfold dropT
  refine List.filter_eq_self.2 fun e he => ?_
  have : e.1 ≠ id := fun q => h (by rw [← q]; exact List.mem_map_of_mem he)
  simpa using this

theorem dropT_le (L : List T3) (id : Int) : (dropT L id).length ≤ L.length := List.length_filter_le _ _

theorem dropT_len : ∀ {L : List T3} {id : Int}, (idt L).Nodup → id ∈ idt L → (dropT L id).length + 1 = L.length
  | [], _, _, h => by simp [idt] at h
  | a :: r, id, hn, h => by
    have hn' : a.1 ∉ idt r ∧ (idt r).Nodup := List.nodup_cons.1 hn
    by_cases e : a.1 = id
    · have hd : dropT (a :: r) id = dropT r id := by simp [dropT, e]
      rw [hd, dropT_none (by rw [← e]; exact hn'.1)]; simp
    · have hd : dropT (a :: r) id = a :: dropT r id := by simp [dropT, e]
      rw [hd]
      have hm : id ∈ idt r := by
        simp only [idt, List.map_cons, List.mem_cons] at h
        exact h.resolve_left (fun q => e q.symm)
      have := dropT_len hn'.2 hm
      simp; omega

theorem dropT_lt {L : List T3} {id : Int} : (dropT L id).length < L.length ↔ id ∈ idt L := by
  constructor
  · intro h
    by_cases q : id ∈ idt L
    · exact q
    · rw [dropT_none q] at h; omega
  · intro h
    obtain ⟨t, ht, rfl⟩ := List.mem_map.1 h
    exact List.length_filter_lt_length_iff_exists.2 ⟨t, ht, by simp⟩

theorem setT_le (L : List T3) (id a ev : Int) : (setT L id a ev).length ≤ L.length + 1 := by
  have := dropT_le L id
  simp [setT]; omega

theorem setT_mem_len {L : List T3} {id a ev : Int} (hn : (idt L).Nodup) (h : id ∈ idt L) : (setT L id a ev).length = L.length := by
  have := dropT_len hn h
  simp [setT]; omega

theorem setT_len {L : List T3} {id a ev : Int} (h : id ∉ idt L) : (setT L id a ev).length = L.length + 1 := by
  simp [setT, dropT_none h]

theorem nodup_dropT {L : List T3} {id : Int} (h : (idt L).Nodup) : (idt (dropT L id)).Nodup := by
  unfold idt dropT
  exact List.Nodup.sublist (List.Sublist.map _ List.filter_sublist) h

theorem least_mem {L : List T3} {t : T3} (h : Least L t) : t.1 ∈ idt L := List.mem_map_of_mem h.1

theorem nextT_le {L : List T3} {t : T3} (hn : (idt L).Nodup) (h : Least L t) : (nextT L t).length ≤ L.length := by
  unfold nextT
  split
  · rw [setT_mem_len hn (least_mem h)]; exact Nat.le_refl _
  · exact dropT_le _ _

theorem eq_of_id : ∀ {L : List T3}, (idt L).Nodup → ∀ {a b : T3}, a ∈ L → b ∈ L → a.1 = b.1 → a = b
  | [], _, a, b, h, _, _ => by simp at h
  | x :: r, hn, a, b, ha, hb, e => by
    have hn' : x.1 ∉ idt r ∧ (idt r).Nodup := List.nodup_cons.1 hn
    rcases List.mem_cons.1 ha with ha' | ha'
    · rcases List.mem_cons.1 hb with hb' | hb'
      · rw [ha', hb']
      · exact absurd (by rw [← ha', e]; exact List.mem_map_of_mem hb') hn'.1
    · rcases List.mem_cons.1 hb with hb' | hb'
      · exact absurd (by rw [← hb', ← e]; exact List.mem_map_of_mem ha') hn'.1
      · exact eq_of_id hn'.2 ha' hb' e

theorem capN_le (x : Int) : capN x ≤ 1099511627776 := by unfold capN; split <;> omega
theorem capN_ge {x : Int} (h : -1099511627776 ≤ x) : -1099511627776 ≤ capN x := by unfold capN; split <;> omega
theorem capN_id {x : Int} (h : x ≤ 1099511627776) : capN x = x := by unfold capN; rw [if_pos h]
theorem capN_wf {x : Int} (h : W64 x) : W64 (capN x) := by
  obtain ⟨h1, h2⟩ := h
  unfold capN W64; split <;> omega
theorem latN_le (a ev : Int) : latN a ev ≤ 1099511627776 := by unfold latN; split <;> omega
theorem latN_ge {a ev : Int} (h : -1099511627776 ≤ a) (h0 : 0 < ev) : -1099511627776 ≤ latN a ev := by unfold latN; split <;> omega

/-- the moments of all are such as the document speaks of -/
def Mom (L : List T3) : Prop := ∀ t ∈ L, -1099511627776 ≤ t.2.1 ∧ t.2.1 ≤ 1099511627776

theorem mom_nil : Mom [] := fun t h => by simp at h
theorem mom_drop {L : List T3} (h : Mom L) (id : Int) : Mom (dropT L id) := fun t ht => h t (mem_dropT.1 ht).1
theorem mom_set {L : List T3} (h : Mom L) (id : Int) {a : Int} (ev : Int) (ha : -1099511627776 ≤ a) : Mom (setT L id a ev) := by
  intro t ht
  rcases List.mem_append.1 ht with ht | ht
  · exact mom_drop h id t ht
  · simp at ht; subst ht; exact ⟨capN_ge ha, capN_le a⟩
theorem mom_next {L : List T3} (h : Mom L) {t : T3} (ht : t ∈ L) : Mom (nextT L t) := by
  unfold nextT
  split
  · rename_i h0; exact mom_set h _ _ (latN_ge (h t ht).1 h0)
  · exact mom_drop h _

/-- there is one that is due first -/
theorem exists_least : ∀ {L : List T3}, L ≠ [] → ∃ t, Least L t
  | [], h => absurd rfl h
  | [a], _ => ⟨a, by simp, fun u hu => by simp at hu; subst hu; exact ltB_irrefl _⟩
  | a :: b :: r, _ => by
    obtain ⟨t, ht, hl⟩ := exists_least (L := b :: r) (by simp)
    cases q : ltB (pr a) (pr t) with
    | false =>
      refine ⟨t, List.mem_cons_of_mem _ ht, fun u hu => ?_⟩
      rcases List.mem_cons.1 hu with rfl | hu
      · exact q
      · exact hl u hu
    | true =>
      refine ⟨a, by simp, fun u hu => ?_⟩
      rcases List.mem_cons.1 hu with rfl | hu
      · exact ltB_irrefl _
      · exact lt_ge_trans q (hl u hu)

theorem Least.uniq {L : List T3} (hn : (idt L).Nodup) {t u : T3} (h : Least L t) (k : Least L u) : t = u :=
  eq_of_id hn h.1 k.1 (show (pr t).1 = (pr u).1 by rw [ltB_total (k.2 t h.1) (h.2 u k.1)])

/-! ### the map of what each id's every is -/

/-- the map has of each id its every, and nothing else -/
structure TiesT (D : DataW Unit) (L : List T3) : Prop where
  tidy : Tidy D
  size : Maps.size D = L.length
  get : ∀ t ∈ L, Maps.has D (ky t.1) = true ∧ D.atKey (ky t.1) (di 0) = di t.2.2
  back : ∀ x, Maps.has D (ky x) = true → x ∈ idt L
  wf : ∀ t ∈ L, W64 t.2.2

theorem tiesT_nil : TiesT (.map []) [] := ⟨tidy_empty, rfl, fun t h => by simp at h, fun x h => by simp [Maps.has] at h, fun t h => by simp at h⟩

theorem TiesT.has_iff {D : DataW Unit} {L : List T3} (h : TiesT D L) (x : Int) : Maps.has D (ky x) = true ↔ x ∈ idt L := by
  refine ⟨h.back x, fun q => ?_⟩
  obtain ⟨t, ht, rfl⟩ := List.mem_map.1 q
  exact (h.get t ht).1

theorem TiesT.set {D : DataW Unit} {L : List T3} (h : TiesT D L) (hn : (idt L).Nodup) (id a : Int) {ev : Int} (hw : W64 ev) : TiesT (D.put (ky id) (di ev)) (setT L id a ev) := by
  refine ⟨h.tidy.put (ik _) _, ?_, fun t ht => ?_, fun x hx => ?_, fun t ht => ?_⟩
  · rw [size_put h.tidy]
    by_cases q : id ∈ idt L
    · rw [if_pos ((h.has_iff id).2 q), setT_mem_len hn q]; exact h.size
    · rw [if_neg (fun e => q ((h.has_iff id).1 e)), setT_len q, h.size]
  · rcases List.mem_append.1 ht with ht | ht
    · obtain ⟨h1, h2⟩ := mem_dropT.1 ht
      rw [has_put_other (ky_ne h2), atKey_put_other (ky_ne h2)]
      exact h.get t h1
    · simp at ht; subst ht
      exact ⟨has_put_same h.tidy.isMap (ik _) _, atKey_put_same h.tidy.isMap (ik _) _ _⟩
  · by_cases e : x = id
    · subst e; simp [setT, idt]
    · rw [has_put_other (ky_ne e)] at hx
      obtain ⟨t, ht, rfl⟩ := List.mem_map.1 (h.back x hx)
      exact List.mem_map_of_mem (List.mem_append_left _ (mem_dropT.2 ⟨ht, e⟩))
  · rcases List.mem_append.1 ht with ht | ht
    · exact h.wf t (mem_dropT.1 ht).1
    · simp at ht; subst ht; exact hw

theorem TiesT.del {D : DataW Unit} {L : List T3} (h : TiesT D L) (hn : (idt L).Nodup) (id : Int) : TiesT (D.del (ky id)) (dropT L id) := by
  refine ⟨h.tidy.del _, ?_, fun t ht => ?_, fun x hx => ?_, fun t ht => h.wf t (mem_dropT.1 ht).1⟩
  · have hs := size_del (k := ky id) h.tidy
    by_cases q : id ∈ idt L
    · have := dropT_len hn q
      rw [if_pos ((h.has_iff id).2 q), h.size] at hs
      omega
    · rw [if_neg (fun e => q ((h.has_iff id).1 e)), h.size] at hs
      rw [dropT_none q]; omega
  · obtain ⟨h1, h2⟩ := mem_dropT.1 ht
    rw [has_del_other (ky_ne h2), atKey_del_other (ky_ne h2)]
    exact h.get t h1
  · by_cases e : x = id
    · subst e; rw [has_del_same] at hx; cases hx
    · rw [has_del_other (ky_ne e)] at hx
      obtain ⟨t, ht, rfl⟩ := List.mem_map.1 (h.back x hx)
      exact List.mem_map_of_mem (mem_dropT.2 ⟨ht, e⟩)

end Go.Proofs.Ythhhakglchcfgaa.HW
