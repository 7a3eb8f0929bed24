/- What is held, plain: a task, a semaphore and cycles each; lists of them; taken, given, spent, freed. -/
import Derived.Test.YtilafcplijgjjaaRows
import Derived.WalkKit
import Derived.Deep.Slices
import Derived.Laws.AppendOwn
namespace Go.Proofs.Ytilafcplijgjjaa.LK
open Go.RowKit

/-- a semaphore that is held: its task, itself, cycles yet -/
structure Hd where
  t : Int
  s : Int
  l : Int

theorem Hd.same {a b : Hd} (h1 : a.t = b.t) (h2 : a.s = b.s) (h3 : a.l = b.l) : a = b := by
  cases a; cases b; simp at h1 h2 h3; simp [h1, h2, h3]

/-- as a value -/
def Hd.v (h : Hd) : Value := .agg #[.int .i64 h.t, .int .i64 h.s, .int .i64 h.l]

def zH : Hd := ⟨0, 0, 0⟩
def atH (L : List Hd) (i : Nat) : Hd := L.getD i zH

theorem atH_get {L : List Hd} {i : Nat} (h : i < L.length) : atH L i = L[i] := by simp [atH, h]
theorem atH_mem {L : List Hd} {i : Nat} (h : i < L.length) : atH L i ∈ L := by rw [atH_get h]; exact List.getElem_mem h
theorem mem_atH {L : List Hd} {x : Hd} (h : x ∈ L) : ∃ i, i < L.length ∧ atH L i = x := by
  obtain ⟨i, hi, e⟩ := List.getElem_of_mem h
  exact ⟨i, hi, by rw [atH_get hi, e]⟩
theorem atH_append_lt {L M : List Hd} {i : Nat} (h : i < L.length) : atH (L ++ M) i = atH L i := by
  unfold atH; rw [List.getD_eq_getElem?_getD, List.getD_eq_getElem?_getD, List.getElem?_append_left h]
theorem atH_append_eq {L : List Hd} {x : Hd} {M : List Hd} : atH (L ++ x :: M) L.length = x := by simp [atH]
theorem atH_set_same {L : List Hd} {i : Nat} {x : Hd} (h : i < L.length) : atH (L.set i x) i = x := by simp [atH, h]
theorem atH_set_other {L : List Hd} {i j : Nat} {x : Hd} (h : i ≠ j) : atH (L.set i x) j = atH L j := by simp [atH, h]
theorem take_snocH {L : List Hd} {k : Nat} (h : k < L.length) : L.take (k + 1) = L.take k ++ [atH L k] := by
  rw [List.take_succ_eq_append_getElem h, atH_get h]
theorem drop_consH {L : List Hd} {k : Nat} (h : k < L.length) : L.drop k = atH L k :: L.drop (k + 1) := by
  rw [List.drop_eq_getElem_cons h, atH_get h]

/-! ### the cells of a row -/

def flatH : List Hd → List Value
  | [] => []
  | e :: r => .int .i64 e.t :: .int .i64 e.s :: .int .i64 e.l :: flatH r

theorem flatH_len : ∀ L : List Hd, (flatH L).length = L.length * 3
  | [] => rfl
  | e :: r => by simp [flatH, flatH_len r]; omega
theorem flatH_append : ∀ (L M : List Hd), flatH (L ++ M) = flatH L ++ flatH M
  | [], M => rfl
  | e :: r, M => by simp [flatH, flatH_append r M]
theorem flatH_get : ∀ (L : List Hd) (i : Nat), i < L.length → (flatH L)[i * 3]? = some (.int .i64 (atH L i).t) ∧ (flatH L)[i * 3 + 1]? = some (.int .i64 (atH L i).s) ∧ (flatH L)[i * 3 + 2]? = some (.int .i64 (atH L i).l)
  | [], i, h => by simp at h
  | e :: r, 0, _ => by simp [flatH, atH]
  | e :: r, i + 1, h => by
    have := flatH_get r i (by simpa using h)
    rw [show (i + 1) * 3 = i * 3 + 1 + 1 + 1 from by omega]
    simp only [flatH, List.getElem?_cons_succ]
    simpa [atH] using this
theorem flatH_set : ∀ (L : List Hd) (i : Nat) (x : Hd), i < L.length → (((flatH L).set (i * 3) (.int .i64 x.t)).set (i * 3 + 1) (.int .i64 x.s)).set (i * 3 + 2) (.int .i64 x.l) = flatH (L.set i x)
  | [], i, x, h => by simp at h
  | e :: r, 0, x, _ => by simp [flatH]
  | e :: r, i + 1, x, h => by
    have := flatH_set r i x (by simpa using h)
    rw [show (i + 1) * 3 = i * 3 + 1 + 1 + 1 from by omega]
    simp only [flatH, List.set_cons_succ]
    rw [this]
theorem flatH_set_left : ∀ (L : List Hd) (i : Nat) (y : Int), i < L.length → (flatH L).set (i * 3 + 2) (.int .i64 y) = flatH (L.set i { atH L i with l := y })
  | [], i, x, h => by simp at h
  | e :: r, 0, x, _ => by simp [flatH, atH]
  | e :: r, i + 1, x, h => by
    have := flatH_set_left r i x (by simpa using h)
    rw [show (i + 1) * 3 + 2 = i * 3 + 2 + 1 + 1 + 1 from by omega]
    simp only [flatH, List.set_cons_succ]
    rw [this]
    simp [atH]
theorem flatH_take : ∀ (L : List Hd) (n : Nat), (flatH L).take (n * 3) = flatH (L.take n)
  | [], n => by simp [flatH]
  | e :: r, 0 => by simp [flatH]
  | e :: r, n + 1 => by
    rw [show (n + 1) * 3 = n * 3 + 1 + 1 + 1 from by omega]
    simp only [flatH, List.take_succ_cons]
    rw [flatH_take r n]
theorem flatH_drop : ∀ (L : List Hd) (n : Nat), (flatH L).drop (n * 3) = flatH (L.drop n)
  | [], n => by simp [flatH]
  | e :: r, 0 => by simp [flatH]
  | e :: r, n + 1 => by
    rw [show (n + 1) * 3 = n * 3 + 1 + 1 + 1 from by omega]
    simp only [flatH, List.drop_succ_cons]
    rw [flatH_drop r n]
theorem flatH_one : ∀ (L : List Hd), ∀ v ∈ flatH L, v.oneCell' = true
  | [], v, h => by simp [flatH] at h
  | e :: r, v, h => by
    simp only [flatH, List.mem_cons] at h
    rcases h with rfl | rfl | rfl | h
    · rfl
    · rfl
    · rfl
    · exact flatH_one r v h

/-! ### what is looked for -/

/-- one of the first k does -/
def anyH (f : Hd → Bool) (L : List Hd) : Nat → Bool
  | 0 => false
  | k + 1 => anyH f L k || f (atH L k)

theorem anyH_f {f : Hd → Bool} {L : List Hd} : ∀ {k : Nat}, anyH f L k = false ↔ ∀ i, i < k → f (atH L i) = false
  | 0 => by simp [anyH]
  | k + 1 => by
    simp only [anyH, Bool.or_eq_false_iff, anyH_f (k := k)]
    constructor
    · intro h i hi
      by_cases hk : i < k
      · exact h.1 i hk
      · obtain rfl : i = k := by omega
        exact h.2
    · intro h
      exact ⟨fun i hi => h i (by omega), h k (by omega)⟩

theorem anyH_at {f : Hd → Bool} {L : List Hd} {k n : Nat} (hk : k < n) (h : f (atH L k) = true) : anyH f L n = true := by
  cases hq : anyH f L n with
  | true => rfl
  | false => rw [anyH_f.1 hq k hk] at h; cases h

theorem anyH_t {f : Hd → Bool} {L : List Hd} {n : Nat} (h : anyH f L n = true) : ∃ k, k < n ∧ f (atH L k) = true := by
  refine Decidable.byContradiction fun q => ?_
  have : anyH f L n = false := anyH_f.2 fun i hi => by
    cases hf : f (atH L i) with
    | false => rfl
    | true => exact absurd ⟨i, hi, hf⟩ q
  rw [this] at h
  cases h

/-- the first place of the first n at which f holds, or -1 -/
def Fst (f : Hd → Bool) (L : List Hd) (n : Nat) (x : Int) : Prop :=
  (x = -1 ∧ ∀ i, i < n → f (atH L i) = false) ∨ ∃ k : Nat, x = k ∧ k < n ∧ f (atH L k) = true ∧ ∀ i, i < k → f (atH L i) = false

theorem Fst.any {f : Hd → Bool} {L : List Hd} {n : Nat} {x : Int} (h : Fst f L n x) : decide (0 ≤ x) = anyH f L n := by
  rcases h with ⟨rfl, h⟩ | ⟨k, rfl, hk, hf, _⟩
  · rw [anyH_f.2 h]; rfl
  · rw [anyH_at hk hf]; simp

/-- the last place of the first k that is t's -/
def lastI (L : List Hd) (t : Int) : Nat → Int
  | 0 => -1
  | k + 1 => if (atH L k).t = t then (k : Int) else lastI L t k

theorem lastI_hit {L : List Hd} {t : Int} {k : Nat} (h : (atH L k).t = t) : lastI L t (k + 1) = k := by simp [lastI, h]
theorem lastI_miss {L : List Hd} {t : Int} {k : Nat} (h : (atH L k).t ≠ t) : lastI L t (k + 1) = lastI L t k := by simp [lastI, h]
theorem lastI_cases {L : List Hd} {t : Int} : ∀ n : Nat, (lastI L t n = -1 ∧ ∀ i, i < n → (atH L i).t ≠ t) ∨ ∃ k : Nat, lastI L t n = k ∧ k < n ∧ (atH L k).t = t ∧ ∀ i, k < i → i < n → (atH L i).t ≠ t
  | 0 => .inl ⟨rfl, fun i hi => by omega⟩
  | n + 1 => by
    by_cases h : (atH L n).t = t
    · exact .inr ⟨n, lastI_hit h, by omega, h, fun i h1 h2 => by omega⟩
    · rw [lastI_miss h]
      rcases lastI_cases n with ⟨h1, h2⟩ | ⟨k, h1, h2, h3, h4⟩
      · exact .inl ⟨h1, fun i hi => by
          by_cases hn : i = n
          · rw [hn]; exact h
          · exact h2 i (by omega)⟩
      · exact .inr ⟨k, h1, by omega, h3, fun i g1 g2 => by
          by_cases hn : i = n
          · rw [hn]; exact h
          · exact h4 i g1 (by omega)⟩

/-- is s held? -/
def heldB (L : List Hd) (s : Int) : Bool := anyH (fun h => h.s == s) L L.length
/-- one more -/
def takeL (L : List Hd) (h : Hd) : List Hd := bif heldB L h.s then L else L ++ [h]
/-- may t give s? -/
def giveB (L : List Hd) (t s : Int) : Bool := decide (0 ≤ lastI L t L.length) && ((atH L (lastI L t L.length).toNat).s == s)
/-- one less -/
def cutH (L : List Hd) (k : Nat) : List Hd := L.take k ++ L.drop (k + 1)
def giveL (L : List Hd) (t s : Int) : List Hd := bif giveB L t s then cutH L (lastI L t L.length).toNat else L
/-- a cycle less -/
def sp1 (t : Int) (h : Hd) : Hd := if h.t = t then { h with l := wrap64 (h.l - 1) } else h
def spendL (L : List Hd) (t : Int) : List Hd := L.map (sp1 t)
def overB (L : List Hd) (t : Int) : Bool := anyH (fun h => (h.t == t) && decide (h.l ≤ 0)) L L.length
/-- all that are not so -/
def keep (f : Hd → Bool) (L : List Hd) : List Hd := L.filter fun h => !f h
def freeL (L : List Hd) (t : Int) : List Hd := keep (fun h => h.t == t) L

theorem cutH_len {L : List Hd} {k : Nat} (h : k < L.length) : (cutH L k).length = L.length - 1 := by
  unfold cutH; simp; omega
theorem keep_len (f : Hd → Bool) (L : List Hd) : (keep f L).length ≤ L.length := List.length_filter_le _ _
theorem keep_hit {f : Hd → Bool} {L : List Hd} {k : Nat} (h : k < L.length) (hf : f (atH L k) = true) : keep f (L.take (k + 1)) = keep f (L.take k) := by
  rw [take_snocH h]; unfold keep; rw [List.filter_append]; simp [hf]
theorem keep_miss {f : Hd → Bool} {L : List Hd} {k : Nat} (h : k < L.length) (hf : f (atH L k) = false) : keep f (L.take (k + 1)) = keep f (L.take k) ++ [atH L k] := by
  rw [take_snocH h]; unfold keep; rw [List.filter_append]; simp [hf]
theorem keep_all {f : Hd → Bool} {L : List Hd} {k : Nat} (hk : k ≤ L.length) (h : ∀ i, i < k → f (atH L i) = false) : keep f (L.take k) = L.take k := by
  unfold keep
  refine List.filter_eq_self.2 fun x hx => ?_
  obtain ⟨i, hi, rfl⟩ := mem_atH hx
  have hik : i < k := by rw [List.length_take] at hi; omega
  have e : atH (L.take k) i = atH L i := by simp [atH, hik]
  rw [e, h i hik]; rfl
theorem keep_take_len (f : Hd → Bool) (L : List Hd) (k : Nat) : (keep f (L.take k)).length ≤ k := by
  have := keep_len f (L.take k)
  have h2 := List.length_take_le k L
  omega
theorem spendL_len (L : List Hd) (t : Int) : (spendL L t).length = L.length := by simp [spendL]
theorem takeL_len (L : List Hd) (h : Hd) : (takeL L h).length ≤ L.length + 1 := by
  unfold takeL; cases heldB L h.s <;> simp
theorem giveL_len (L : List Hd) (t s : Int) : (giveL L t s).length ≤ L.length := by
  unfold giveL
  cases giveB L t s
  · exact Nat.le_refl _
  · unfold cutH; simp; omega
theorem freeL_len (L : List Hd) (t : Int) : (freeL L t).length ≤ L.length := keep_len _ _

end Go.Proofs.Ytilafcplijgjjaa.LK
