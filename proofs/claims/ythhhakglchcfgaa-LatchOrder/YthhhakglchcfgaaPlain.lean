/- Plain facts on a binary heap kept in a list: what a swap does, what rising and sinking keep, and that the first one is the least. -/
import Derived.KernelRfl
namespace Go.Proofs.Ythhhakglchcfgaa.HP

abbrev E := Int × Int

/-- a comes ahead of b: by key, then by id -/
def ltB (a b : E) : Bool := decide (a.2 < b.2 ∨ (a.2 = b.2 ∧ a.1 < b.1))

theorem ltB_iff {a b : E} : ltB a b = true ↔ (a.2 < b.2 ∨ (a.2 = b.2 ∧ a.1 < b.1)) := by simp [ltB]
theorem ltB_false {a b : E} : ltB a b = false ↔ ¬ (a.2 < b.2 ∨ (a.2 = b.2 ∧ a.1 < b.1)) := by simp [ltB]
theorem ltB_asymm {a b : E} (h : ltB a b = true) : ltB b a = false := by rw [ltB_iff] at h; rw [ltB_false]; omega
theorem ge_trans {a b c : E} (h : ltB a b = false) (k : ltB b c = false) : ltB a c = false := by rw [ltB_false] at *; omega
theorem lt_ge_trans {a b c : E} (h : ltB a b = true) (k : ltB c b = false) : ltB c a = false := by rw [ltB_false] at *; rw [ltB_iff] at h; omega
theorem ltB_irrefl (a : E) : ltB a a = false := by rw [ltB_false]; omega
theorem ltB_total {a b : E} (h : ltB a b = false) (k : ltB b a = false) : a = b := by
  rw [ltB_false] at *
  have h1 : a.2 = b.2 := by omega
  have h2 : a.1 = b.1 := by omega
  exact Prod.ext h2 h1

def at' (es : List E) (i : Nat) : E := es.getD i (0, 0)

theorem at_get {es : List E} {i : Nat} (h : i < es.length) : at' es i = es[i] := by simp [at', h]
theorem at_mem {es : List E} {i : Nat} (h : i < es.length) : at' es i ∈ es := by rw [at_get h]; exact List.getElem_mem h
theorem at_set {es : List E} {i : Nat} {x : E} (h : i < es.length) (k : Nat) : at' (es.set i x) k = if k = i then x else at' es k := by
  unfold at'
  rw [List.getD_eq_getElem?_getD, List.getD_eq_getElem?_getD, List.getElem?_set]
  by_cases e : i = k
  · subst e; simp [h]
  · simp [e, show k ≠ i from fun h => e h.symm]
theorem at_append_lt {es : List E} {x : E} {k : Nat} (h : k < es.length) : at' (es ++ [x]) k = at' es k := by
  unfold at'; rw [List.getD_eq_getElem?_getD, List.getD_eq_getElem?_getD, List.getElem?_append_left h]
theorem at_append_eq {es : List E} {x : E} : at' (es ++ [x]) es.length = x := by
  unfold at'; simp
theorem at_take {es : List E} {n k : Nat} (h : k < n) : at' (es.take n) k = at' es k := by
  unfold at'; rw [List.getD_eq_getElem?_getD, List.getD_eq_getElem?_getD, List.getElem?_take, if_pos h]

/-- two places swapped -/
def swp (es : List E) (i j : Nat) : List E := (es.set i (at' es j)).set j (at' es i)

theorem swp_len (es : List E) (i j : Nat) : (swp es i j).length = es.length := by simp [swp]
theorem at_swp {es : List E} {i j : Nat} (hi : i < es.length) (hj : j < es.length) (k : Nat) : at' (swp es i j) k = if k = j then at' es i else if k = i then at' es j else at' es k := by
  unfold swp; rw [at_set (by simpa using hj), at_set hi]
theorem swp_self {es : List E} {i : Nat} (hi : i < es.length) : swp es i i = es := by
  apply List.ext_getElem (by simp [swp])
  intro k h1 h2
  have := at_swp hi hi k
  rw [at_get h1, at_get h2] at this
  rw [this]
  by_cases e : k = i
  · subst e; simp [at_get hi]
  · simp [e]
theorem count_set (x : E) : ∀ (es : List E) (i : Nat) (y : E) (h : i < es.length), (es.set i y).count x + (if es[i] = x then 1 else 0) = es.count x + (if y = x then 1 else 0) := by
  intro es
  induction es with
  | nil => intro i y h; simp at h
  | cons a r ih =>
    intro i y h
    cases i with
    | zero => simp [List.count_cons]; split <;> split <;> omega
    | succ i =>
      have := ih i y (by simpa using h)
      simp only [List.set_cons_succ, List.count_cons, List.getElem_cons_succ]
      omega
theorem swp_perm {es : List E} {i j : Nat} (hi : i < es.length) (hj : j < es.length) : (swp es i j).Perm es := by
  rw [List.perm_iff_count]
  intro x
  have h1 := count_set x es i (at' es j) hi
  have h2 := count_set x (es.set i (at' es j)) j (at' es i) (by simpa using hj)
  have h3 : (es.set i (at' es j))[j]'(by simpa using hj) = at' es j := by
    have := at_set (x := at' es j) hi j
    rw [at_get (by simpa using hj)] at this
    rw [this]; split
    · rfl
    · rfl
  rw [h3] at h2
  rw [← at_get hi] at h1
  unfold swp
  omega

/-- the order of a heap -/
def Ord (es : List E) : Prop := ∀ i, 0 < i → i < es.length → ltB (at' es i) (at' es ((i - 1) / 2)) = false
/-- all is in order but what stands at p -/
structure Pre (es : List E) (p : Nat) : Prop where
  others : ∀ i, 0 < i → i < es.length → i ≠ p → (i - 1) / 2 ≠ p → ltB (at' es i) (at' es ((i - 1) / 2)) = false
  kids : ∀ c, 0 < c → c < es.length → (c - 1) / 2 = p → 0 < p → ltB (at' es c) (at' es ((p - 1) / 2)) = false
/-- all is in order but that what stands at p may be behind its children -/
structure Sink (es : List E) (p : Nat) : Prop where
  others : ∀ i, 0 < i → i < es.length → (i - 1) / 2 ≠ p → ltB (at' es i) (at' es ((i - 1) / 2)) = false
  kids : ∀ c, 0 < c → c < es.length → (c - 1) / 2 = p → 0 < p → ltB (at' es c) (at' es ((p - 1) / 2)) = false

theorem pre_rise {es : List E} {p : Nat} (hp : p < es.length) (h0 : 0 < p) (h : Pre es p) (hlt : ltB (at' es p) (at' es ((p - 1) / 2)) = true) : Pre (swp es p ((p - 1) / 2)) ((p - 1) / 2) := by
  have hq : (p - 1) / 2 < es.length := by omega
  constructor
  · intro i i0 il ip ipar
    rw [swp_len] at il
    rw [at_swp hp hq, at_swp hp hq]
    have e1 : i ≠ p := by intro e; subst e; exact ipar rfl
    rw [if_neg ip, if_neg e1, if_neg ipar]
    by_cases e2 : (i - 1) / 2 = p
    · rw [if_pos e2]; exact h.kids i i0 il e2 h0
    · rw [if_neg e2]; exact h.others i i0 il e1 e2
  · intro c c0 cl cp q0
    rw [swp_len] at cl
    rw [at_swp hp hq, at_swp hp hq]
    have hg := h.others ((p - 1) / 2) q0 hq (by omega) (by omega)
    rw [if_neg (show c ≠ (p - 1) / 2 by omega), if_neg (show ((p - 1) / 2 - 1) / 2 ≠ (p - 1) / 2 by omega), if_neg (show ((p - 1) / 2 - 1) / 2 ≠ p by omega)]
    by_cases e : c = p
    · rw [if_pos e]; exact hg
    · rw [if_neg e]
      have := h.others c c0 cl e (by omega)
      rw [cp] at this
      exact ge_trans this hg

theorem pre_stop {es : List E} {p : Nat} (h : Pre es p) (hs : p = 0 ∨ ltB (at' es p) (at' es ((p - 1) / 2)) = false) : Sink es p := by
  refine ⟨fun i i0 il ipar => ?_, h.kids⟩
  by_cases e : i = p
  · subst e
    rcases hs with hs | hs
    · omega
    · exact hs
  · exact h.others i i0 il e ipar

/-- c: the first of p's children -/
theorem sink_step {es : List E} {p c : Nat} (hp : p < es.length) (hc : c < es.length) (c0 : 0 < c) (cp : (c - 1) / 2 = p) (h : Sink es p) (hlt : ltB (at' es c) (at' es p) = true)
    (hsib : ∀ s, 0 < s → s < es.length → (s - 1) / 2 = p → s ≠ c → ltB (at' es s) (at' es c) = false) : Sink (swp es p c) c := by
  constructor
  · intro i i0 il ipar
    rw [swp_len] at il
    rw [at_swp hp hc, at_swp hp hc, if_neg ipar]
    by_cases e : i = c
    · subst e
      rw [if_pos rfl, if_pos cp]
      exact ltB_asymm hlt
    · rw [if_neg e]
      by_cases e2 : (i - 1) / 2 = p
      · rw [if_pos e2, if_neg (show i ≠ p by omega)]
        exact hsib i i0 il e2 e
      · rw [if_neg e2]
        by_cases e3 : i = p
        · subst e3; rw [if_pos rfl]; exact h.kids c c0 hc cp i0
        · rw [if_neg e3]; exact h.others i i0 il e2
  · intro d d0 dl dp _
    rw [swp_len] at dl
    rw [at_swp hp hc, at_swp hp hc, cp]
    rw [if_neg (show d ≠ c by omega), if_neg (show d ≠ p by omega), if_neg (show p ≠ c by omega), if_pos rfl]
    have := h.others d d0 dl (by omega)
    rw [dp] at this
    exact this

theorem sink_stop {es : List E} {p : Nat} (h : Sink es p) (hs : ∀ c, 0 < c → c < es.length → (c - 1) / 2 = p → ltB (at' es c) (at' es p) = false) : Ord es := by
  intro i i0 il
  by_cases e : (i - 1) / 2 = p
  · have := hs i i0 il e; rw [e]; exact this
  · exact h.others i i0 il e

theorem ord_first {es : List E} (h : Ord es) : ∀ (n i : Nat), i ≤ n → i < es.length → ltB (at' es i) (at' es 0) = false := by
  intro n
  induction n with
  | zero => intro i hi _; have : i = 0 := by omega
            subst this; exact ltB_irrefl _
  | succ n ih =>
    intro i hi hl
    by_cases e : i = 0
    · subst e; exact ltB_irrefl _
    · exact ge_trans (h i (by omega) hl) (ih ((i - 1) / 2) (by omega) (by omega))

theorem pre_append {es : List E} (x : E) (h : Ord es) : Pre (es ++ [x]) es.length := by
  constructor
  · intro i i0 il ip _
    have : i < es.length := by simp at il; omega
    rw [at_append_lt this, at_append_lt (by omega)]
    exact h i i0 this
  · intro c c0 cl cp _
    simp at cl; omega

theorem pre_set {es : List E} (x : E) {p : Nat} (hp : p < es.length) (h : Ord es) : Pre (es.set p x) p := by
  constructor
  · intro i i0 il ip ipar
    rw [List.length_set] at il
    rw [at_set hp, at_set hp, if_neg ip, if_neg ipar]
    exact h i i0 il
  · intro c c0 cl cp p0
    rw [List.length_set] at cl
    rw [at_set hp, at_set hp, if_neg (by omega), if_neg (by omega)]
    have h1 := h c c0 cl
    rw [cp] at h1
    exact ge_trans h1 (h p p0 hp)

/-- without what stood at p: the last one has come to its place -/
theorem pre_remove {es : List E} {p : Nat} (hp : p + 1 < es.length) (h : Ord es) : Pre ((swp es p (es.length - 1)).take (es.length - 1)) p := by
  have hl : ((swp es p (es.length - 1)).take (es.length - 1)).length = es.length - 1 := by simp [swp_len]
  have ha : ∀ k, k < es.length - 1 → k ≠ p → at' ((swp es p (es.length - 1)).take (es.length - 1)) k = at' es k := by
    intro k hk hne
    rw [at_take hk, at_swp (by omega) (by omega), if_neg (by omega), if_neg hne]
  constructor
  · intro i i0 il ip ipar
    rw [hl] at il
    rw [ha i il ip, ha _ (by omega) ipar]
    exact h i i0 (by omega)
  · intro c c0 cl cp p0
    rw [hl] at cl
    rw [ha c cl (by omega), ha _ (by omega) (by omega)]
    have h1 := h c c0 (by omega)
    rw [cp] at h1
    exact ge_trans h1 (h p p0 (by omega))

theorem ord_take {es : List E} {n : Nat} (hn : n ≤ es.length) (h : Ord es) : Ord (es.take n) := by
  intro i i0 il
  have : i < n := by simp at il; omega
  rw [at_take this, at_take (by omega)]
  exact h i i0 (by omega)

theorem ord_nil : Ord [] := fun i _ h => by simp at h

/-- ids of a list -/
def ids (l : List E) : List Int := l.map (·.1)
/-- all but one id -/
def drop (l : List E) (id : Int) : List E := l.filter fun e => e.1 != id

theorem filter_all {l : List E} {p : E → Bool} (h : ∀ e ∈ l, p e = true) : l.filter p = l := List.filter_eq_self.2 h

theorem split_at {es : List E} {p : Nat} (hp : p < es.length) : es = es.take p ++ at' es p :: es.drop (p + 1) := by
  rw [at_get hp]
  conv => lhs; rw [← List.take_append_drop p es, List.drop_eq_getElem_cons hp]

theorem drop_split {es : List E} {p : Nat} (hp : p < es.length) (hn : (ids es).Nodup) : drop es (at' es p).1 = es.take p ++ es.drop (p + 1) := by
  have hs := split_at hp
  generalize at' es p = x at hs
  rw [hs, ids, List.map_append, List.map_cons, List.nodup_append] at hn
  obtain ⟨_, h2, h3⟩ := hn
  rw [List.nodup_cons] at h2
  conv => lhs; rw [hs]
  unfold drop
  rw [List.filter_append, List.filter_cons, if_neg (by simp)]
  congr 1
  · refine filter_all fun e he => ?_
    have := h3 e.1 (List.mem_map_of_mem he) x.1 (by simp)
    simpa using this
  · refine filter_all fun e he => ?_
    have h4 : e.1 ≠ x.1 := fun q => h2.1 (by rw [← q]; exact List.mem_map_of_mem he)
    simpa using h4

theorem set_perm {es : List E} {p : Nat} (hp : p < es.length) (hn : (ids es).Nodup) (x : E) : (es.set p x).Perm (x :: drop es (at' es p).1) := by
  rw [drop_split hp hn, List.set_eq_take_append_cons_drop, if_pos hp]
  exact List.perm_middle

theorem remove_perm {es : List E} {p : Nat} (hp : p < es.length) (hn : (ids es).Nodup) : ((swp es p (es.length - 1)).take (es.length - 1)).Perm (drop es (at' es p).1) := by
  have h1 : (swp es p (es.length - 1)).Perm es := swp_perm hp (by omega)
  have hl : es.length - 1 < (swp es p (es.length - 1)).length := by rw [swp_len]; omega
  have h2 := split_at hl
  rw [at_swp hp (by omega), if_pos rfl, List.drop_eq_nil_of_le (by rw [swp_len]; omega)] at h2
  have h3 : ((swp es p (es.length - 1)).take (es.length - 1) ++ [at' es p]).Perm es := by rw [← h2]; exact h1
  have h4 : (at' es p :: (swp es p (es.length - 1)).take (es.length - 1)).Perm (at' es p :: drop es (at' es p).1) := by
    refine ((List.perm_append_singleton _ _).symm.trans h3).trans ?_
    rw [drop_split hp hn]
    conv => lhs; rw [split_at hp]
    exact List.perm_middle
  exact List.Perm.cons_inv h4

theorem drop_none {es : List E} {id : Int} (h : id ∉ ids es) : drop es id = es := by
  refine filter_all fun e he => ?_
  have : e.1 ≠ id := fun q => h (by rw [← q]; exact List.mem_map_of_mem he)
  simpa using this

theorem ids_drop {l : List E} {id : Int} : id ∉ ids (drop l id) := by
  intro h
  obtain ⟨e, he, rfl⟩ := List.mem_map.1 h
  simp [drop] at he

theorem nodup_drop {l : List E} {id : Int} (h : (ids l).Nodup) : (ids (drop l id)).Nodup := by
  unfold ids drop
  exact List.Nodup.sublist (List.Sublist.map _ List.filter_sublist) h

theorem mem_drop {l : List E} {id : Int} {e : E} : e ∈ drop l id ↔ e ∈ l ∧ e.1 ≠ id := by simp [drop]

/-- sorted: the answer of the document -/
def Sorted (l : List E) : Prop := l.Pairwise fun a b => ltB a b = true

theorem sorted_drop {l : List E} {id : Int} (h : Sorted l) : Sorted (drop l id) := List.Pairwise.sublist List.filter_sublist h

/-- put in from the end: the others move on -/
def ins (x : E) : List E → List E
  | [] => [x]
  | a :: r => if ltB x a then x :: a :: r else a :: ins x r

theorem ins_perm (x : E) : ∀ l : List E, (ins x l).Perm (x :: l) := by
  intro l
  induction l with
  | nil => exact List.Perm.refl _
  | cons a r ih =>
    unfold ins
    split
    · exact List.Perm.refl _
    · exact (List.Perm.cons a ih).trans (List.Perm.swap x a r)

theorem ins_sorted (x : E) : ∀ l : List E, Sorted l → x.1 ∉ ids l → Sorted (ins x l) := by
  intro l
  induction l with
  | nil => intro _ _; exact List.pairwise_singleton _ _
  | cons a r ih =>
    intro h hn
    unfold ins
    have h' := List.pairwise_cons.1 h
    split
    · rename_i hlt
      refine List.pairwise_cons.2 ⟨fun b hb => ?_, h⟩
      rcases List.mem_cons.1 hb with rfl | hb
      · exact hlt
      · have := h'.1 b hb
        rw [ltB_iff] at *; omega
    · rename_i hlt
      refine List.pairwise_cons.2 ⟨fun b hb => ?_, ih h'.2 (fun q => hn (by simp [ids] at q ⊢; exact Or.inr q))⟩
      rcases List.mem_cons.1 ((ins_perm x r).mem_iff.1 hb) with rfl | hb
      · have hne : b.1 ≠ a.1 := fun q => hn (by rw [q]; simp [ids])
        have : ltB b a = false := by simpa using hlt
        rw [ltB_false] at this; rw [ltB_iff]; omega
      · exact h'.1 b hb

theorem sorted_first {l es : List E} (hs : Sorted l) (ho : Ord es) (hp : es.Perm l) (hl : 0 < es.length) : l = at' es 0 :: l.tail := by
  cases l with
  | nil => have := hp.length_eq; rw [List.length_nil] at this; omega
  | cons a r =>
    have h1 : a ∈ es := hp.mem_iff.2 (by simp)
    obtain ⟨i, hi, e⟩ := List.getElem_of_mem h1
    have h2 := ord_first ho i i (Nat.le_refl _) hi
    rw [at_get hi, e] at h2
    have h3 : at' es 0 ∈ a :: r := hp.mem_iff.1 (at_mem hl)
    rcases List.mem_cons.1 h3 with h3 | h3
    · rw [h3]; rfl
    · have := (List.pairwise_cons.1 hs).1 _ h3
      rw [this] at h2; cases h2

end Go.Proofs.Ythhhakglchcfgaa.HP
