/- A set made since, and its jobs: what the statements' loops keep; a list of jobs that came in, one by one. -/
import Derived.Test.YtphaedkmijdphaaRdyAns
import Derived.Test.YtphaedkmijdphaaRdyArgs
import Derived.Test.YtphaedkmijdphaaRdyRef
namespace Go.Proofs.Ytphaedkmijdphaa.RD
open Go.ChangeShapes Go.WideShapes Go.ChangeAt Go.RowKit Go.Proofs.Ytphaedkmijdphaa.AR Go.Proofs.Ytphaedkmijdphaa.HP Go.Maps Go.Proofs.Ytphaedkmijdphaa.HM Go.Proofs.Ytphaedkmijdphaa.HW

theorem SRep.clip {w : World} {sb : Nat} {A : Nat → Prop} {L : List Jb} (h : SRep w sb A L) : SRep w sb (fun k => A k ∧ k < w.heap.size) L := by
  refine ⟨⟨h.1, h.lt⟩, ?_⟩
  rcases h.2 with q | ⟨hb, bm, B, D, m, am, aB⟩
  · exact .inl q
  · exact .inr ⟨hb, bm, _, D, m.clip, ⟨am, m.ltB⟩, fun k q => ⟨aB k q.1, q.2⟩⟩

/-- a set that was made since w -/
structure SetOf (w W : World) (sb : Nat) (A : Nat → Prop) (L : List Jb) : Prop where
  rep : SRep W sb A L
  kp : Kp w W
  lo : ∀ k, A k → w.heap.size ≤ k ∧ k < W.heap.size

theorem SetOf.of_new {w W : World} (r : SRep W w.heap.size (fun k => k = w.heap.size) []) (k : Kp w W) : SetOf w W w.heap.size (fun k => k = w.heap.size) [] :=
  ⟨r, k, fun i e => by have := r.lt; omega⟩
theorem SetOf.went {w W w' : World} {sb : Nat} {A : Nat → Prop} {L L' : List Jb} (h : SetOf w W sb A L) (s : SWent W sb A L' w') : ∃ A', SetOf w w' sb A' L' := by
  obtain ⟨A', r, m⟩ := s
  refine ⟨_, r.clip, Step.trans_new h.kp m.stp (fun i hi q => ?_), fun k q => ⟨?_, q.2⟩⟩
  · have := h.lo i q; omega
  · by_cases e : k < W.heap.size
    · exact (h.lo k (m.own k e q.1)).1
    · have := h.kp.size; omega
theorem SetOf.still {w W w' : World} {sb : Nat} {A : Nat → Prop} {L : List Jb} (h : SetOf w W sb A L) (k : Kp W w') : SetOf w w' sb A L :=
  ⟨h.rep.kp k, Step.trans h.kp k, fun i q => by have := h.lo i q; have := k.size; omega⟩
/-- a store elsewhere -/
theorem SetOf.aside {w W w' : World} {sb g : Nat} {A : Nat → Prop} {L : List Jb} (h : SetOf w W sb A L) (s : Step (fun k => k = g) W w') (hA : ¬ A g) (hg : w.heap.size ≤ g) : SetOf w w' sb A L :=
  ⟨h.rep.kept s (fun k _ q e => hA (e ▸ q)), Step.trans_new h.kp s (fun i hi e => by omega), fun i q => by have := h.lo i q; have := s.size; omega⟩

theorem JobsAt.one {w : World} {ao : Option Addr} {len : Nat} {M : List Jb} (h : JobsAt w ao len M) {k : Nat} (hk : k < len) :
    ∃ b off, ao = some ⟨b, off, none⟩ ∧ b < w.heap.size ∧ WJ (atJ M k) ∧ ∀ W', Kp w W' → C6 W' b (off + k * 6) (atJ M k) := by
  rcases h.row with h0 | ⟨b, off, e, hb, hc⟩
  · omega
  · exact ⟨b, off, e, hb, h.wf _ (atJ_mem (by rw [h.ln]; exact hk)), fun W' kp => (hc k hk).kept kp (fun q => q)⟩

theorem all_len {len : Nat} {M : List Jb} (hl : M.length = len) {k : Nat} (hk : k ≤ len) : SJ (putAll (M.take k)) ∧ (tks (putAll (M.take k))).Nodup ∧ (putAll (M.take k)).length ≤ k := putAll_ok M k (by omega)
theorem all_done {len : Nat} {M : List Jb} (hl : M.length = len) : putAll (M.take len) = putAll M := by rw [← hl, List.take_length]

end Go.Proofs.Ytphaedkmijdphaa.RD
