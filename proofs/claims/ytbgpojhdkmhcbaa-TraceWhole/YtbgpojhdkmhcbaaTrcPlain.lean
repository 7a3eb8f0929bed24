/- Intervals, plain: six numbers each; which two are one; a list of them to which one is added. -/
import Derived.Test.YtbgpojhdkmhcbaaRows
import Derived.WalkKit
import Derived.ProofKit
import Derived.OpenShut
namespace Go.Proofs.Ytbgpojhdkmhcbaa.TC
open Go.RowKit

/-- an interval: Kind, From, Len, Arg, Task, Cycles -/
structure I6 where
  k : Int
  f : Int
  l : Int
  a : Int
  t : Int
  c : Int

/-- as a value -/
abbrev I6.v (x : I6) : Value := .agg #[.int .i64 x.k, .int .i64 x.f, .int .i64 x.l, .int .i64 x.a, .int .i64 x.t, .int .i64 x.c]

def zI : I6 := ⟨0, 0, 0, 0, 0, 0⟩
def at6 (L : List I6) (i : Nat) : I6 := L.getD i zI

theorem at6_get {L : List I6} {i : Nat} (h : i < L.length) : at6 L i = L[i] := by simp [at6, h]
theorem at6_append_lt {L M : List I6} {i : Nat} (h : i < L.length) : at6 (L ++ M) i = at6 L i := by
  unfold at6; rw [List.getD_eq_getElem?_getD, List.getD_eq_getElem?_getD, List.getElem?_append_left h]
theorem at6_append_eq {L : List I6} {x : I6} : at6 (L ++ [x]) L.length = x := by simp [at6]
theorem at6_set_same {L : List I6} {i : Nat} {x : I6} (h : i < L.length) : at6 (L.set i x) i = x := by simp [at6, h]
theorem at6_set_other {L : List I6} {i j : Nat} {x : I6} (h : i ≠ j) : at6 (L.set i x) j = at6 L j := by simp [at6, h]
theorem take_snoc6 {L : List I6} {k : Nat} (h : k < L.length) : L.take (k + 1) = L.take k ++ [at6 L k] := by
  rw [List.take_succ_eq_append_getElem h, at6_get h]

/-- the cells of a row of intervals -/
def flat6 : List I6 → List Value
  | [] => []
  | e :: r => .int .i64 e.k :: .int .i64 e.f :: .int .i64 e.l :: .int .i64 e.a :: .int .i64 e.t :: .int .i64 e.c :: flat6 r

theorem flat6_len : ∀ L : List I6, (flat6 L).length = L.length * 6
  | [] => rfl
  | e :: r => by simp [flat6, flat6_len r]; omega
theorem flat6_append : ∀ (L M : List I6), flat6 (L ++ M) = flat6 L ++ flat6 M
  | [], M => rfl
  | e :: r, M => by simp [flat6, flat6_append r M]
theorem flat6_get : ∀ (L : List I6) (i : Nat), i < L.length → (flat6 L)[i * 6]? = some (.int .i64 (at6 L i).k) ∧ (flat6 L)[i * 6 + 1]? = some (.int .i64 (at6 L i).f) ∧ (flat6 L)[i * 6 + 2]? = some (.int .i64 (at6 L i).l) ∧
      (flat6 L)[i * 6 + 3]? = some (.int .i64 (at6 L i).a) ∧ (flat6 L)[i * 6 + 4]? = some (.int .i64 (at6 L i).t) ∧ (flat6 L)[i * 6 + 5]? = some (.int .i64 (at6 L i).c)
  | [], i, h => by simp at h
  | e :: r, 0, _ => by simp [flat6, at6]
  | e :: r, i + 1, h => by
    have := flat6_get r i (by simpa using h)
    rw [show (i + 1) * 6 = i * 6 + 1 + 1 + 1 + 1 + 1 + 1 from by omega]
    simp only [flat6, List.getElem?_cons_succ]
    simpa [at6] using this
theorem flat6_set : ∀ (L : List I6) (i : Nat) (x : I6), i < L.length → ((((((flat6 L).set (i * 6) (.int .i64 x.k)).set (i * 6 + 1) (.int .i64 x.f)).set (i * 6 + 2) (.int .i64 x.l)).set (i * 6 + 3) (.int .i64 x.a)).set (i * 6 + 4) (.int .i64 x.t)).set (i * 6 + 5) (.int .i64 x.c) = flat6 (L.set i x)
  | [], i, x, h => by simp at h
  | e :: r, 0, x, _ => by simp [flat6]
  | e :: r, i + 1, x, h => by
    have := flat6_set r i x (by simpa using h)
    rw [show (i + 1) * 6 = i * 6 + 1 + 1 + 1 + 1 + 1 + 1 from by omega]
    simp only [flat6, List.set_cons_succ]
    rw [this]
theorem flat6_set_len : ∀ (L : List I6) (i : Nat) (y : Int), i < L.length → (flat6 L).set (i * 6 + 2) (.int .i64 y) = flat6 (L.set i { at6 L i with l := y })
  | [], i, y, h => by simp at h
  | e :: r, 0, y, _ => by simp [flat6, at6]
  | e :: r, i + 1, y, h => by
    have := flat6_set_len r i y (by simpa using h)
    rw [show (i + 1) * 6 + 2 = i * 6 + 2 + 1 + 1 + 1 + 1 + 1 + 1 from by omega]
    simp only [flat6, List.set_cons_succ]
    rw [this]
    simp [at6]
theorem flat6_set_cyc : ∀ (L : List I6) (i : Nat) (y : Int), i < L.length → (flat6 L).set (i * 6 + 5) (.int .i64 y) = flat6 (L.set i { at6 L i with c := y })
  | [], i, y, h => by simp at h
  | e :: r, 0, y, _ => by simp [flat6, at6]
  | e :: r, i + 1, y, h => by
    have := flat6_set_cyc r i y (by simpa using h)
    rw [show (i + 1) * 6 + 5 = i * 6 + 5 + 1 + 1 + 1 + 1 + 1 + 1 from by omega]
    simp only [flat6, List.set_cons_succ]
    rw [this]
    simp [at6]
theorem flat6_one : ∀ (L : List I6) (v : Value), v ∈ flat6 L → v.oneCell' = true
  | [], v, h => by simp [flat6] at h
  | e :: r, v, h => by
    simp only [flat6, List.mem_cons] at h
    rcases h with rfl | rfl | rfl | rfl | rfl | rfl | h
    · rfl
    · rfl
    · rfl
    · rfl
    · rfl
    · rfl
    · exact flat6_one r v h

/-- a Kind that can go on for longer -/
def Lasts (k : Int) : Prop := k = 1 ∨ k = 2 ∨ k = 5
def decLasts (k : Int) : Decidable (Lasts k) := by unfold Lasts; exact inferInstance
def lastsB (k : Int) : Bool := @decide (Lasts k) (decLasts k)
theorem lastsB_t {k : Int} : lastsB k = true ↔ Lasts k := by simp [lastsB]
theorem lastsB_f {k : Int} : lastsB k = false ↔ ¬ Lasts k := by simp [lastsB]

/-- the moment at which an interval ends -/
def en (x : I6) : Int := wrap64 (x.f + x.l)

/-- two that are one -/
def Jo (x y : I6) : Prop := (x.k = y.k ∧ x.a = y.a ∧ x.t = y.t) ∧ Lasts x.k ∧ y.f = en x
def decJo (x y : I6) : Decidable (Jo x y) := by
  unfold Jo
  have := decLasts x.k
  exact inferInstance
def joB (x y : I6) : Bool := @decide (Jo x y) (decJo x y)
theorem joB_t {x y : I6} : joB x y = true ↔ Jo x y := by simp [joB]
theorem joB_f {x y : I6} : joB x y = false ↔ ¬ Jo x y := by simp [joB]

/-- which one -/
def jn (x y : I6) : I6 := ⟨x.k, x.f, wrap64 (x.l + y.l), x.a, x.t, wrap64 (x.c + y.c)⟩

/-- what Join answers -/
def joined (x y : I6) : I6 := if joB x y = true then jn x y else zI

/-- one more -/
def addL (L : List I6) (y : I6) : List I6 :=
  if 0 < L.length ∧ joB (at6 L (L.length - 1)) y = true then L.set (L.length - 1) (jn (at6 L (L.length - 1)) y) else L ++ [y]

theorem addL_nil (y : I6) : addL [] y = [y] := rfl
theorem addL_join {L : List I6} {y : I6} (h : 0 < L.length) (hj : joB (at6 L (L.length - 1)) y = true) : addL L y = L.set (L.length - 1) (jn (at6 L (L.length - 1)) y) := if_pos ⟨h, hj⟩
theorem addL_more {L : List I6} {y : I6} (hj : joB (at6 L (L.length - 1)) y = false) : addL L y = L ++ [y] := if_neg (fun q => by rw [hj] at q; exact Bool.noConfusion q.2)
theorem addL_len (L : List I6) (y : I6) : (addL L y).length ≤ L.length + 1 := by
  unfold addL
  split <;> simp
theorem addL_pos (L : List I6) (y : I6) : 0 < (addL L y).length := by
  unfold addL
  split
  · rename_i h; simpa using h.1
  · simp

/-- all that come, one behind the other -/
def addAll (M : List I6) : List I6 := M.foldl addL []
theorem addAll_nil : addAll [] = [] := rfl
theorem addAll_snoc (M : List I6) (y : I6) : addAll (M ++ [y]) = addL (addAll M) y := by simp [addAll]
theorem addAll_len : ∀ (n : Nat) (M : List I6), n ≤ M.length → (addAll (M.take n)).length ≤ n
  | 0, M, _ => by simp [addAll]
  | n + 1, M, h => by
    rw [take_snoc6 (by omega), addAll_snoc]
    have h1 := addL_len (addAll (M.take n)) (at6 M n)
    have h2 := addAll_len n M (by omega)
    omega

end Go.Proofs.Ytbgpojhdkmhcbaa.TC
