/- A trace beside a list of the same intervals. -/
import Derived.Test.YtbgpojhdkmhcbaaTrcSame
namespace Go.Proofs.Ytbgpojhdkmhcbaa.TC
open Go.ChangeShapes Go.WideShapes Go.ChangeAt Go.RowKit Go.Proofs.Ytbgpojhdkmhcbaa.AR

/-- a trace and a list, both made since w, apart from one another -/
structure Twin (w W : World) (tb : Nat) (v1 v2 : Value) (L1 L2 : List I6) : Prop where
  kp : Kp w W
  tr : Tr W tb w.heap.size v1 L1
  ls : Ls W w.heap.size v2 L2
  tb0 : w.heap.size ≤ tb
  dj : ∀ g, v1.ownBlock = some g → v2.ownBlock ≠ some g

theorem Twin.still {w W W' : World} {tb : Nat} {v1 v2 : Value} {L1 L2 : List I6} (h : Twin w W tb v1 v2 L1 L2) (k : Kp W W') : Twin w W' tb v1 v2 L1 L2 := ⟨h.kp.trans k, h.tr.kp k, h.ls.kp k, h.tb0, h.dj⟩
theorem Twin.base {w W : World} {tb : Nat} {v1 v2 : Value} {L1 L2 : List I6} (h : Twin w W tb v1 v2 L1 L2) : w.heap.size ≤ W.heap.size := h.kp.size

theorem Twin.addT {w W W' : World} {tb : Nat} {v1 v2 : Value} {L1 L2 M : List I6} (h : Twin w W tb v1 v2 L1 L2) (a : Added W tb w.heap.size v1 M W') : ∃ v1', Twin w W' tb v1' v2 M L2 := by
  obtain ⟨v', t, s, o⟩ := a
  have hne := row_ne h.ls h.tr.blk
  have low := fun g e => (h.tr.ls.row.lt g e).1
  refine ⟨v', Step.trans_new h.kp s (fun i hi q => ?_), t, h.ls.kept s (fun k hk q => ?_), h.tb0, fun g hg hg2 => ?_⟩
  · rcases q with q | q
    · have := h.tb0; omega
    · have := low i q; omega
  · rcases q with q | q
    · subst q; exact hne hk
    · exact h.dj k q hk
  · rcases o with o | o
    · exact h.dj g (o ▸ hg) hg2
    · have := o g hg
      have := (h.ls.row.lt g hg2).2
      omega

theorem Twin.addL {w W W' : World} {tb : Nat} {v1 v2 v2' : Value} {L1 L2 M : List I6} (h : Twin w W tb v1 v2 L1 L2) (p : Put W w.heap.size v2 M v2' W') : Twin w W' tb v1 v2' L1 M := by
  obtain ⟨l, s, o⟩ := p
  have hne := row_ne h.ls h.tr.blk
  refine ⟨Step.trans_new h.kp s (fun i hi q => ?_), h.tr.kept s (fun q => hne q) (fun k hk q => h.dj k hk q), l, h.tb0, fun g hg hg2 => ?_⟩
  · have := (h.ls.row.lt i q).1; omega
  · rcases o with o | o
    · exact h.dj g hg (o ▸ hg2)
    · have := o g hg2
      have := (h.tr.ls.row.lt g hg).2
      omega

theorem endOf_last {L : List I6} {n : Nat} (hn : L.length - 1 = n) (hp : 0 < L.length) : endOf L = IntKind.i64.wrap ((at6 L n).f + (at6 L n).l) := by
  unfold endOf en wrap64
  rw [if_pos hp, hn, IntKind.wrap_i64]

end Go.Proofs.Ytbgpojhdkmhcbaa.TC
