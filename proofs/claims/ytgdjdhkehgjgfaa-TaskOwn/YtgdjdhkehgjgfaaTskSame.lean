/- Are two tasks the same? Of such as are. -/
import Derived.Test.YtgdjdhkehgjgfaaTskRow
namespace Go.Proofs.Ytgdjdhkehgjgfaa.TK
open Go.ChangeShapes Go.WideShapes Go.ChangeAt Go.RowKit Go.Proofs.Ytgdjdhkehgjgfaa.AR Go.Proofs.Ytgdjdhkehgjgfaa.TB

theorem two_task (w : World) (a0 a1 a2 a3 b0 b1 b2 b3 : Value) : ∃ W0, Hid (W0 = (w.alloc (.cells #[a0, a1, a2, a3] 29)).alloc (.cells #[b0, b1, b2, b3] 29)) ∧ Kp w W0 ∧ B4 W0 w.heap.size a0 a1 a2 a3 ∧ B4 W0 (w.heap.size + 1) b0 b1 b2 b3 := by
  refine ⟨_, rfl, ((Kp.refl _).alloc _).alloc _, b4_new ((Kp.refl _).alloc _), ?_⟩
  have := b4_new (w := w.alloc (.cells #[a0, a1, a2, a3] 29)) (a := b0) (b := b1) (c := b2) (d := b3) (Kp.refl _)
  rw [World.size_alloc] at this
  exact this

set_option maxHeartbeats 8000000 in
theorem same_any (p c : Int) (sa sa' : Option Addr) (sl sc sc' : Nat) (sz : List Int) (da da' : Option Addr) (dl dc dc' : Nat) (dz : List Int) (w : World) (s1 : NAt w sa sl sz) (d1 : NAt w da dl dz) (s2 : NAt w sa' sl sz) (d2 : NAt w da' dl dz) :
    Calls Try.prog 17 #[.agg #[.int .i64 p, .int .i64 c, .slice sa sl sc, .slice da dl dc], .agg #[.int .i64 p, .int .i64 c, .slice sa' sl sc', .slice da' dl dc']] w fun e w' => e = .returned (.bool true) ∧ Kp w w' := by
  obtain ⟨W0, HW, K0, A0, B0⟩ := two_task w (.int .i64 p) (.int .i64 c) (.slice sa sl sc) (.slice da dl dc) (.int .i64 p) (.int .i64 c) (.slice sa' sl sc') (.slice da' dl dc')
  have hsy := s1.by'
  have hdy := d1.by'
  have HA : Hid (∀ W, Kp W0 W → B4 W w.heap.size (.int .i64 p) (.int .i64 c) (.slice sa sl sc) (.slice da dl dc)) := fun W k => A0.kp k
  have HB : Hid (∀ W, Kp W0 W → B4 W (w.heap.size + 1) (.int .i64 p) (.int .i64 c) (.slice sa' sl sc') (.slice da' dl dc')) := fun W k => B0.kp k
  obtain ⟨x0, x1, x2, x3⟩ := A0.all
  obtain ⟨y0, y1, y2, y3⟩ := B0.all
  go_enter Try.func17, Try.ntmps17
  try dsimp only [List.append]
  go_wp2
  rw [← HW.out]
  go_loopw [5] (fun i wr => ∃ (k : Nat), k ≤ sl ∧ i = .int .i64 k ∧ Kp W0 wr) (fun i _ => sl - (intOf i).toNat)
  case atStart => exact ⟨0, Nat.zero_le _, rfl, Kp.refl _⟩
  case round =>
    obtain ⟨k, hk, rfl, hkp⟩ := hrel
    clear x0 x1 x2 x3 y0 y1 y2 y3
    obtain ⟨x0, x1, x2, x3⟩ := (HA.out _ hkp).all
    obtain ⟨y0, y1, y2, y3⟩ := (HB.out _ hkp).all
    by_cases hlt : k < sl
    · have hlt' : (k : Int) < (sl : Int) := by omega
      obtain ⟨b, off, hsa, hb, hc⟩ := (s1.kept (K0.trans hkp)).one hlt
      obtain ⟨b', off', hsa', hb', hc'⟩ := (s2.kept (K0.trans hkp)).one hlt
      rw [hsa] at x2
      rw [hsa'] at y2
      generalize sz.getD k 0 = x at *
      have hne : (x != x) = false := by simp
      go_wp2_with fail
      go_quiet (fail)
      go_wp2
      go_roundw
      case rel => exact ⟨k + 1, by omega, by go_num, hkp.trans (tkp_drewN _ _)⟩
      case measure => simp [intOf]; omega
    · have hlt' : ¬ (k : Int) < (sl : Int) := by omega
      go_wp2
      go_loopw [6] (fun i wr => ∃ (k : Nat), k ≤ dl ∧ i = .int .i64 k ∧ Kp W0 wr) (fun i _ => dl - (intOf i).toNat)
      case atStart => exact ⟨0, Nat.zero_le _, rfl, hkp⟩
      case round =>
        clear x0 x1 x2 x3 y0 y1 y2 y3 hlt hlt' hkp hk
        obtain ⟨k, hk, rfl, hkp⟩ := hrel
        obtain ⟨x0, x1, x2, x3⟩ := (HA.out _ hkp).all
        obtain ⟨y0, y1, y2, y3⟩ := (HB.out _ hkp).all
        by_cases hlt : k < dl
        · have hlt' : (k : Int) < (dl : Int) := by omega
          obtain ⟨b, off, hda, hb, hc⟩ := (d1.kept (K0.trans hkp)).one hlt
          obtain ⟨b', off', hda', hb', hc'⟩ := (d2.kept (K0.trans hkp)).one hlt
          rw [hda] at x3
          rw [hda'] at y3
          generalize dz.getD k 0 = x at *
          have hne : (x != x) = false := by simp
          go_wp2_with fail
          go_quiet (fail)
          go_wp2
          go_roundw
          case rel => exact ⟨k + 1, by omega, by go_num, hkp.trans (tkp_drewN _ _)⟩
          case measure => simp [intOf]; omega
        · have hlt' : ¬ (k : Int) < (dl : Int) := by omega
          go_wp2
          go_ret
          exact ⟨rfl, K0.trans hkp⟩

end Go.Proofs.Ytgdjdhkehgjgfaa.TK
