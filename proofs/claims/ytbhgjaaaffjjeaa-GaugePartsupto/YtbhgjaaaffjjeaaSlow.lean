/- What slowingPays answers. -/
import Derived.Test.YtbhgjaaaffjjeaaDev
import Derived.Deep.RegionHeld3
namespace Go.Proofs.Ytbhgjaaaffjjeaa.TB
open Go.ChangeShapes Go.WideShapes Go.ChangeAt Go.RowKit Go.Proofs.Ytbhgjaaaffjjeaa.AR

theorem fd_in {w wr : World} {b off len n : Nat} {rows : List (List Int)} {k : Nat} (h : RecAt w n (some ⟨b, off, none⟩) len rows) (hk : k < len) (hb : Kp w wr) :
    b < wr.heap.size ∧ ∀ j, j < n → wr.cell? ⟨b, off + k * n + j, none⟩ = some (.int .i64 (fd rows k j)) := by
  obtain ⟨b', off', e, h1, h2⟩ := fd_at h hk hb
  simp only [Option.some.injEq, Addr.mk.injEq, and_true] at e
  obtain ⟨rfl, rfl⟩ := e
  exact ⟨h1, h2⟩

theorem kp_drew (w : World) : Kp w w.drew := (Kp.refl w).drew

theorem wrapI {x : Int} (h : -9223372036854775808 ≤ x ∧ x ≤ 9223372036854775807) : IntKind.i64.wrap x = x := by rw [IntWalk.i64_left]; exact IntWalk.wrap64_in x h

end Go.Proofs.Ytbhgjaaaffjjeaa.TB
