/- What a job takes at a level, and which part that is: the program's and the document's own, walked. -/
import Derived.Test.YtilafcplijgjjaaAdmPlain
import Derived.Test.YtilafcplijgjjaaFxWalks
import Derived.Test.YtilafcplijgjjaaTskUse
namespace Go.Proofs.Ytilafcplijgjjaa.AD
open Go.ChangeShapes Go.WideShapes Go.ChangeAt Go.RowKit Go.Proofs.Ytilafcplijgjjaa.AR Go.Proofs.Ytilafcplijgjjaa.TB Go.Proofs.Ytilafcplijgjjaa.TK Go.Proofs.Ytilafcplijgjjaa.FX

/-- a machine's box -/
theorem one_box (w : World) (m : Mc) : ∃ W0, Hid (W0 = w.alloc (.cells #[.slice m.aL m.lL m.cL, .slice m.aS m.lS m.cS, .slice m.aD m.lD m.cD, .int .i64 m.idle, .int .i64 m.crit, .int .i64 m.sw, .int .i64 m.swe, .int .i64 m.sems, .int .i64 m.hor] 26)) ∧ Kp w W0 ∧ B9 W0 w.heap.size m :=
  ⟨_, rfl, (Kp.refl _).alloc _, b9_new w m⟩

theorem Mc.At.lev {w : World} {m : Mc} (h : m.At w) : RecAt w 2 m.aL m.lL m.rL := h.1

/-- the P of a level lies there -/
theorem lev_at {w wr : World} {m : Mc} (h : m.At w) {k : Nat} (hk : k < m.lL) (hb : Kp w wr) : ∃ b off, m.aL = some ⟨b, off, none⟩ ∧ b < wr.heap.size ∧ wr.cell? ⟨b, off + k * 2, none⟩ = some (.int .i64 (fd m.rL k 0)) := by
  obtain ⟨b, off, e, hlt, hc⟩ := fd_at h.lev hk hb
  exact ⟨b, off, e, hlt, by have := hc 0 (by omega); simpa using this⟩

theorem run_max2 (ts : Array TypeId) (t : TypeId) (a b : Int) (w : World) : (Builtin.max_ ts t #[.int .i64 a, .int .i64 b]).run Try.prog w = .ok (.int .i64 (mx a b)) w := by
  unfold mx
  simp [Builtin.max_, Builtin.max2]

theorem rmax_at (a b : Int) (w : World) :
    Calls Try.prog 12 #[.int .i64 a, .int .i64 b] w fun e w' => e = .returned (.int .i64 (mx a b)) ∧ w = w' := by
  by_cases h : a < b
  · rw [mx_lt h]
    go_enter Try.func12, Try.ntmps12
    go_wp2
    go_ret
    exact ⟨rfl, rfl⟩
  · rw [mx_ge h]
    by_cases h2 : b < a
    · go_enter Try.func12, Try.ntmps12
      go_wp2
      go_ret
      exact ⟨rfl, rfl⟩
    · obtain rfl : a = b := by omega
      go_enter Try.func12, Try.ntmps12
      go_wp2
      go_ret
      exact ⟨rfl, rfl⟩

/-- is there such a level? -/
def isB (m : Mc) (lev : Int) : Bool := decide (0 ≤ lev ∧ lev < m.lL)

end Go.Proofs.Ytilafcplijgjjaa.AD
