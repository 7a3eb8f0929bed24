/- Jobs, plain: five numbers and a bool each; lists of them by deadline, then by task; one put in, one dropped. -/
import Derived.Test.YtphaedkmijdphaaRows
import Derived.Test.YtphaedkmijdphaaPlain
namespace Go.Proofs.Ytphaedkmijdphaa.RD
open Go.Proofs.Ytphaedkmijdphaa.HP

/-- a job: its task, its release, its deadline, cycles that it may take and will take yet, whether it has started -/
structure Jb where
  t : Int
  r : Int
  d : Int
  l : Int
  x : Int
  s : Bool

/-- as a value -/
def Jb.v (j : Jb) : Value := .agg #[.int .i64 j.t, .int .i64 j.r, .int .i64 j.d, .int .i64 j.l, .int .i64 j.x, .bool j.s]

def zJ : Jb := ⟨0, 0, 0, 0, 0, false⟩
def atJ (L : List Jb) (i : Nat) : Jb := L.getD i zJ

theorem atJ_get {L : List Jb} {i : Nat} (h : i < L.length) : atJ L i = L[i] := by simp [atJ, h]
theorem atJ_mem {L : List Jb} {i : Nat} (h : i < L.length) : atJ L i ∈ L := by rw [atJ_get h]; exact List.getElem_mem h
theorem atJ_append_lt {L M : List Jb} {i : Nat} (h : i < L.length) : atJ (L ++ M) i = atJ L i := by
  unfold atJ; rw [List.getD_eq_getElem?_getD, List.getD_eq_getElem?_getD, List.getElem?_append_left h]
theorem atJ_append_eq {L : List Jb} {x : Jb} {M : List Jb} : atJ (L ++ x :: M) L.length = x := by simp [atJ]
theorem atJ_set_same {L : List Jb} {i : Nat} {x : Jb} (h : i < L.length) : atJ (L.set i x) i = x := by simp [atJ, h]
theorem atJ_set_other {L : List Jb} {i j : Nat} {x : Jb} (h : i ≠ j) : atJ (L.set i x) j = atJ L j := by simp [atJ, h]
theorem take_snocJ {L : List Jb} {k : Nat} (h : k < L.length) : L.take (k + 1) = L.take k ++ [atJ L k] := by
  rw [List.take_succ_eq_append_getElem h, atJ_get h]

/-- its id and its key -/
def pr (j : Jb) : E := (j.t, j.d)
def prs (L : List Jb) : List E := L.map pr
def tks (L : List Jb) : List Int := L.map (·.t)

/-- a is more urgent than b -/
def ltJ (a b : Jb) : Bool := ltB (pr a) (pr b)
theorem ltJ_iff {a b : Jb} : ltJ a b = true ↔ (a.d < b.d ∨ (a.d = b.d ∧ a.t < b.t)) := ltB_iff
theorem ltJ_false {a b : Jb} : ltJ a b = false ↔ ¬ (a.d < b.d ∨ (a.d = b.d ∧ a.t < b.t)) := ltB_false

/-- all but one task's -/
def dropJ (L : List Jb) (x : Int) : List Jb := L.filter fun j => j.t != x
/-- put in where it belongs -/
def insJ (x : Jb) : List Jb → List Jb
  | [] => [x]
  | a :: r => if ltJ x a then x :: a :: r else a :: insJ x r
def putL (L : List Jb) (j : Jb) : List Jb := insJ j (dropJ L j.t)

/-- by deadline, then by task -/
def SJ (L : List Jb) : Prop := L.Pairwise fun a b => ltJ a b = true

theorem ids_prs (L : List Jb) : ids (prs L) = tks L := by simp [ids, prs, tks, pr, Function.comp_def]
theorem prs_len (L : List Jb) : (prs L).length = L.length := by simp [prs]
theorem prs_drop (L : List Jb) (x : Int) : prs (dropJ L x) = HP.drop (prs L) x := by
  unfold prs dropJ HP.drop
  rw [List.filter_map]
  rfl
theorem prs_ins (x : Jb) : ∀ L : List Jb, prs (insJ x L) = ins (pr x) (prs L)
  | [] => rfl
  | a :: r => by
    have := prs_ins x r
    unfold insJ ltJ
    show _ = ins (pr x) (pr a :: prs r)
    unfold ins
    split
    · rfl
    · show pr a :: prs (insJ x r) = _
      rw [this]
theorem sj_prs {L : List Jb} : SJ L ↔ Sorted (prs L) := by unfold SJ Sorted prs; rw [List.pairwise_map]; rfl

theorem insJ_perm (x : Jb) : ∀ L : List Jb, (insJ x L).Perm (x :: L)
  | [] => List.Perm.refl _
  | a :: r => by
    unfold insJ
    split
    · exact List.Perm.refl _
    · exact (List.Perm.cons a (insJ_perm x r)).trans (List.Perm.swap x a r)
theorem insJ_len (x : Jb) (L : List Jb) : (insJ x L).length = L.length + 1 := (insJ_perm x L).length_eq
theorem dropJ_len (L : List Jb) (x : Int) : (dropJ L x).length ≤ L.length := List.length_filter_le _ _
theorem putL_len (L : List Jb) (j : Jb) : (putL L j).length ≤ L.length + 1 := by
  unfold putL; rw [insJ_len]; have := dropJ_len L j.t; omega
theorem mem_dropJ {L : List Jb} {x : Int} {j : Jb} : j ∈ dropJ L x ↔ j ∈ L ∧ j.t ≠ x := by simp [dropJ]
theorem mem_putL {L : List Jb} {j i : Jb} : i ∈ putL L j ↔ i = j ∨ (i ∈ L ∧ i.t ≠ j.t) := by
  unfold putL
  rw [(insJ_perm _ _).mem_iff, List.mem_cons, mem_dropJ]
theorem tks_drop {L : List Jb} {x : Int} : x ∉ tks (dropJ L x) := by
  intro h
  obtain ⟨e, he, rfl⟩ := List.mem_map.1 h
  exact (mem_dropJ.1 he).2 rfl
theorem nodup_dropJ {L : List Jb} {x : Int} (h : (tks L).Nodup) : (tks (dropJ L x)).Nodup := by
  unfold tks dropJ at *
  exact List.Nodup.sublist (List.Sublist.map _ List.filter_sublist) h
theorem nodup_putL {L : List Jb} {j : Jb} (h : (tks L).Nodup) : (tks (putL L j)).Nodup := by
  have hp : (tks (putL L j)).Perm (j.t :: tks (dropJ L j.t)) := (insJ_perm j _).map _
  exact hp.nodup_iff.2 (List.nodup_cons.2 ⟨tks_drop, nodup_dropJ h⟩)
theorem sj_drop {L : List Jb} {x : Int} (h : SJ L) : SJ (dropJ L x) := List.Pairwise.sublist List.filter_sublist h
theorem sj_put {L : List Jb} {j : Jb} (h : SJ L) : SJ (putL L j) := by
  rw [sj_prs]
  unfold putL
  rw [prs_ins]
  refine ins_sorted _ _ (sj_prs.1 (sj_drop h)) ?_
  rw [ids_prs]
  exact tks_drop
theorem dropJ_none {L : List Jb} {x : Int} (h : x ∉ tks L) : dropJ L x = L := by
  refine List.filter_eq_self.2 fun e he => ?_
  have : e.t ≠ x := fun q => h (by rw [← q]; exact List.mem_map_of_mem he)
  simpa using this
theorem mem_tks {L : List Jb} {x : Int} : x ∈ tks L ↔ ∃ j ∈ L, j.t = x := by simp [tks]
theorem one_of {L : List Jb} (h : (tks L).Nodup) {a b : Jb} (ha : a ∈ L) (hb : b ∈ L) (e : a.t = b.t) : a = b := by
  induction L with
  | nil => simp at ha
  | cons c r ih =>
    have h' : (c.t :: tks r).Nodup := h
    obtain ⟨h1, h2⟩ := List.nodup_cons.1 h'
    rcases List.mem_cons.1 ha with rfl | ha'
    · rcases List.mem_cons.1 hb with rfl | hb'
      · rfl
      · exact absurd (List.mem_map.2 ⟨b, hb', e.symm⟩) h1
    · rcases List.mem_cons.1 hb with rfl | hb'
      · exact absurd (List.mem_map.2 ⟨a, ha', e⟩) h1
      · exact ih h2 ha' hb'
theorem drop_len_iff {L : List Jb} {x : Int} : decide ((dropJ L x).length < L.length) = decide (x ∈ tks L) := by
  rw [decide_eq_decide]
  constructor
  · intro h
    refine Decidable.byContradiction fun q => ?_
    rw [dropJ_none q] at h
    omega
  · intro h
    obtain ⟨j, hj, e⟩ := mem_tks.1 h
    unfold dropJ
    refine Nat.lt_of_le_of_ne (List.length_filter_le _ _) fun q => ?_
    have := List.filter_eq_self.1 (List.Sublist.eq_of_length List.filter_sublist q) j hj
    simp [e] at this

/-- two that are sorted and have the same jobs are the same -/
theorem sj_unique : ∀ {a b : List Jb}, SJ a → SJ b → a.Perm b → a = b
  | [], b, _, _, h => (List.Perm.eq_nil h.symm).symm
  | x :: r, [], _, _, h => by simp at h
  | x :: r, y :: q, ha, hb, h => by
    have h1 := List.pairwise_cons.1 ha
    have h2 := List.pairwise_cons.1 hb
    have e : x = y := by
      rcases List.mem_cons.1 (h.mem_iff.1 (List.mem_cons_self (a := x) (l := r))) with e | m1
      · exact e
      · rcases List.mem_cons.1 (h.mem_iff.2 (List.mem_cons_self (a := y) (l := q))) with e | m2
        · exact e.symm
        · have q1 := h1.1 _ m2
          have q2 := h2.1 _ m1
          rw [ltJ_iff] at q1 q2
          omega
    subst e
    rw [sj_unique h1.2 h2.2 (List.Perm.cons_inv h)]

/-- the last one that was put of a task -/
def putAll (M : List Jb) : List Jb := M.foldl putL []
theorem putAll_snoc (M : List Jb) (y : Jb) : putAll (M ++ [y]) = putL (putAll M) y := by simp [putAll]
theorem putAll_take {M : List Jb} {k : Nat} (h : k < M.length) : putAll (M.take (k + 1)) = putL (putAll (M.take k)) (atJ M k) := by rw [take_snocJ h, putAll_snoc]
theorem putAll_ok (M : List Jb) : ∀ k, k ≤ M.length → SJ (putAll (M.take k)) ∧ (tks (putAll (M.take k))).Nodup ∧ (putAll (M.take k)).length ≤ k
  | 0, _ => by simp [putAll, SJ, tks]
  | k + 1, h => by
    obtain ⟨h1, h2, h3⟩ := putAll_ok M k (by omega)
    rw [putAll_take (by omega)]
    exact ⟨sj_put h1, nodup_putL h2, by have := putL_len (putAll (M.take k)) (atJ M k); omega⟩

/-- the head is the first one of all -/
theorem sj_head {a : Jb} {r : List Jb} (h : SJ (a :: r)) : ∀ y ∈ prs (a :: r), ltB y (pr a) = false := by
  intro y hy
  obtain ⟨j, hj, rfl⟩ := List.mem_map.1 hy
  rcases List.mem_cons.1 hj with rfl | hj
  · exact ltB_irrefl _
  · exact ltB_asymm ((List.pairwise_cons.1 h).1 j hj)

/-- put in from the end -/
theorem sj_ins_at {l post : List Jb} {j : Jb} (h : SJ (l ++ post)) (h1 : ∀ a ∈ post, ltJ j a = true) (h2 : l = [] ∨ ∃ q b, l = q ++ [b] ∧ ltJ b j = true) : SJ (l ++ j :: post) := by
  unfold SJ at *
  rw [List.pairwise_append] at h
  rw [List.pairwise_append]
  refine ⟨h.1, List.pairwise_cons.2 ⟨h1, h.2.1⟩, fun a ha b hb => ?_⟩
  rcases List.mem_cons.1 hb with rfl | hb
  · rcases h2 with rfl | ⟨q, c, rfl, hc⟩
    · simp at ha
    · rcases List.mem_append.1 ha with ha | ha
      · have := (List.pairwise_append.1 h.1).2.2 a ha c (by simp)
        rw [ltJ_iff] at *
        omega
      · simp at ha; subst ha; exact hc
  · exact h.2.2 a ha b hb

/-! ### the cells of a row of jobs -/

def flatJ : List Jb → List Value
  | [] => []
  | e :: r => .int .i64 e.t :: .int .i64 e.r :: .int .i64 e.d :: .int .i64 e.l :: .int .i64 e.x :: .bool e.s :: flatJ r

theorem flatJ_len : ∀ L : List Jb, (flatJ L).length = L.length * 6
  | [] => rfl
  | e :: r => by simp [flatJ, flatJ_len r]; omega
theorem flatJ_append : ∀ (L M : List Jb), flatJ (L ++ M) = flatJ L ++ flatJ M
  | [], M => rfl
  | e :: r, M => by simp [flatJ, flatJ_append r M]
theorem flatJ_get : ∀ (L : List Jb) (i : Nat), i < L.length → (flatJ L)[i * 6]? = some (.int .i64 (atJ L i).t) ∧ (flatJ L)[i * 6 + 1]? = some (.int .i64 (atJ L i).r) ∧ (flatJ L)[i * 6 + 2]? = some (.int .i64 (atJ L i).d) ∧
      (flatJ L)[i * 6 + 3]? = some (.int .i64 (atJ L i).l) ∧ (flatJ L)[i * 6 + 4]? = some (.int .i64 (atJ L i).x) ∧ (flatJ L)[i * 6 + 5]? = some (.bool (atJ L i).s)
  | [], i, h => by simp at h
  | e :: r, 0, _ => by simp [flatJ, atJ]
  | e :: r, i + 1, h => by
    have := flatJ_get r i (by simpa using h)
    rw [show (i + 1) * 6 = i * 6 + 1 + 1 + 1 + 1 + 1 + 1 from by omega]
    simp only [flatJ, List.getElem?_cons_succ]
    simpa [atJ] using this
theorem flatJ_set : ∀ (L : List Jb) (i : Nat) (x : Jb), i < L.length → ((((((flatJ L).set (i * 6) (.int .i64 x.t)).set (i * 6 + 1) (.int .i64 x.r)).set (i * 6 + 2) (.int .i64 x.d)).set (i * 6 + 3) (.int .i64 x.l)).set (i * 6 + 4) (.int .i64 x.x)).set (i * 6 + 5) (.bool x.s) = flatJ (L.set i x)
  | [], i, x, h => by simp at h
  | e :: r, 0, x, _ => by simp [flatJ]
  | e :: r, i + 1, x, h => by
    have := flatJ_set r i x (by simpa using h)
    rw [show (i + 1) * 6 = i * 6 + 1 + 1 + 1 + 1 + 1 + 1 from by omega]
    simp only [flatJ, List.set_cons_succ]
    rw [this]
theorem flatJ_set_left : ∀ (L : List Jb) (i : Nat) (y : Int), i < L.length → (flatJ L).set (i * 6 + 3) (.int .i64 y) = flatJ (L.set i { atJ L i with l := y })
  | [], i, y, h => by simp at h
  | e :: r, 0, y, _ => by simp [flatJ, atJ]
  | e :: r, i + 1, y, h => by
    have := flatJ_set_left r i y (by simpa using h)
    rw [show (i + 1) * 6 + 3 = i * 6 + 3 + 1 + 1 + 1 + 1 + 1 + 1 from by omega]
    simp only [flatJ, List.set_cons_succ]
    rw [this]
    simp [atJ]
theorem flatJ_one : ∀ (L : List Jb) (v : Value), v ∈ flatJ L → v.oneCell' = true
  | [], v, h => by simp [flatJ] at h
  | e :: r, v, h => by
    simp only [flatJ, List.mem_cons] at h
    rcases h with rfl | rfl | rfl | rfl | rfl | rfl | h
    · rfl
    · rfl
    · rfl
    · rfl
    · rfl
    · rfl
    · exact flatJ_one r v h

end Go.Proofs.Ytphaedkmijdphaa.RD
