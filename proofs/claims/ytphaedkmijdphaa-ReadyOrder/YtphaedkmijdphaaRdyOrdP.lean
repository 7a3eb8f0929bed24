/- Which job of a task a set has, whatever was put: the one that was put last. -/
import Derived.Test.YtphaedkmijdphaaRdyPlain
namespace Go.Proofs.Ytphaedkmijdphaa.RD
open Go.Proofs.Ytphaedkmijdphaa.HP

theorem putAll_mem {M : List Jb} : ∀ k, k ≤ M.length → ∀ c ∈ putAll (M.take k), ∃ n, n < k ∧ atJ M n = c ∧ ∀ m, n < m → m < k → (atJ M m).t ≠ c.t
  | 0, _, c, hc => by simp [putAll] at hc
  | k + 1, hk, c, hc => by
    rw [putAll_take (by omega)] at hc
    rcases mem_putL.1 hc with rfl | ⟨h1, h2⟩
    · exact ⟨k, by omega, rfl, fun m a b => by omega⟩
    · obtain ⟨n, a, b, e⟩ := putAll_mem (M := M) k (by omega) c h1
      refine ⟨n, by omega, b, fun m q r => ?_⟩
      by_cases e2 : m = k
      · subst e2; exact fun e3 => h2 e3.symm
      · exact e m q (by omega)

theorem putAll_has {M : List Jb} : ∀ k, k ≤ M.length → ∀ n, n < k → (atJ M n).t ∈ tks (putAll (M.take k))
  | 0, _, n, hn => by omega
  | k + 1, hk, n, hn => by
    rw [putAll_take (by omega)]
    by_cases e : n = k
    · subst e
      exact mem_tks.2 ⟨_, mem_putL.2 (.inl rfl), rfl⟩
    · obtain ⟨c, h1, h2⟩ := mem_tks.1 (putAll_has (M := M) k (by omega) n (by omega))
      by_cases q : c.t = (atJ M k).t
      · exact mem_tks.2 ⟨_, mem_putL.2 (.inl rfl), by rw [← q, h2]⟩
      · exact mem_tks.2 ⟨c, mem_putL.2 (.inr ⟨h1, q⟩), h2⟩

/-- a is the place of the last one of that task among the first m, or -1 -/
def Lat (M : List Jb) (t : Int) (m : Nat) (a : Int) : Prop := (a = -1 ∧ ∀ p, p < m → (atJ M p).t ≠ t) ∨ ∃ p, p < m ∧ a = (p : Int) ∧ (atJ M p).t = t ∧ ∀ q, p < q → q < m → (atJ M q).t ≠ t

theorem lat_start (M : List Jb) (t : Int) : Lat M t 0 (-1) := .inl ⟨rfl, fun p h => by omega⟩
theorem lat_hit {M : List Jb} {t : Int} {m : Nat} (h : (atJ M m).t = t) : Lat M t (m + 1) (m : Int) := .inr ⟨m, by omega, rfl, h, fun q a b => by omega⟩
theorem lat_miss {M : List Jb} {t : Int} {m : Nat} {a : Int} (h : (atJ M m).t ≠ t) (k : Lat M t m a) : Lat M t (m + 1) a := by
  rcases k with ⟨e, k⟩ | ⟨p, hp, e, h1, h2⟩
  · refine .inl ⟨e, fun p hp => ?_⟩
    by_cases q : p = m
    · subst q; exact h
    · exact k p (by omega)
  · refine .inr ⟨p, by omega, e, h1, fun q a b => ?_⟩
    by_cases r : q = m
    · subst r; exact h
    · exact h2 q a (by omega)
theorem lat_end {M : List Jb} {c : Jb} {m n : Nat} {a : Int} (k : Lat M c.t m a) (hn : n < m) (hc : atJ M n = c) (hl : ∀ q, n < q → q < m → (atJ M q).t ≠ c.t) : a = (n : Int) := by
  rcases k with ⟨_, k⟩ | ⟨p, hp, e, h1, h2⟩
  · exact absurd (by rw [hc]) (k n hn)
  · rcases Nat.lt_trichotomy p n with q | q | q
    · exact absurd (by rw [hc]) (h2 n q hn)
    · rw [e, q]
    · exact absurd h1 (hl p q hp)

theorem sj_at {L : List Jb} (h : SJ L) {r : Nat} (hr : r + 1 < L.length) : (atJ L r).d < (atJ L (r + 1)).d ∨ ((atJ L r).d = (atJ L (r + 1)).d ∧ (atJ L r).t < (atJ L (r + 1)).t) := by
  have := List.pairwise_iff_getElem.1 h r (r + 1) (by omega) hr (by omega)
  rw [atJ_get (by omega), atJ_get hr]
  exact ltJ_iff.1 this

end Go.Proofs.Ytphaedkmijdphaa.RD
