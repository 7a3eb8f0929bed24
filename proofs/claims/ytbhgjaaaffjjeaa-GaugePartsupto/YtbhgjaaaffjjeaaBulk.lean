/- What the second form's bound gives: no list is longer than it. -/
import Derived.Test.YtbhgjaaaffjjeaaRows
namespace Go.Proofs.Ytbhgjaaaffjjeaa.BK

theorem pos {H : Type} (d : DataW H) : 1 ≤ Rows.uptoBulk d := by
  match d with
  | .lit l => cases l <;> simp [Rows.uptoBulk]
  | .nil | .ptr _ | .slice _ _ | .agg _ | .iface _ _ | .map _ | .held _ => simp [Rows.uptoBulk]

theorem len_all {H : Type} : ∀ l : List (DataW H), l.length ≤ Rows.uptoBulkAll l
  | [] => Nat.zero_le _
  | d :: l => by have := pos d; have := len_all l; simp only [Rows.uptoBulkAll, List.length_cons]; omega

theorem mem_all {H : Type} : ∀ (l : List (DataW H)) (d : DataW H), d ∈ l → Rows.uptoBulk d ≤ Rows.uptoBulkAll l
  | x :: l, d, h => by
    simp only [Rows.uptoBulkAll]
    rcases List.mem_cons.1 h with rfl | h
    · omega
    · have := mem_all l d h; omega

/-- a list among what came in -/
theorem len_le {H : Type} {l : List (DataW H)} {elems sp : List (DataW H)} (hk : Rows.uptoSmall H l = true) (h : DataW.slice elems sp ∈ l) : elems.length ≤ 1048576 := by
  have a := of_decide_eq_true hk
  have b := mem_all _ _ h
  have c := len_all elems
  simp only [Rows.uptoBulk] at b
  omega

end Go.Proofs.Ytbhgjaaaffjjeaa.BK
