/- What is looked for in a list of numbers by a function literal: slices.IndexFunc, slices.ContainsFunc; what a task needs. -/
import Derived.Test.YtilafcplijgjjaaTskUse
import Derived.Shelf.Abstract
namespace Go.Proofs.Ytilafcplijgjjaa.TK
open Go.ChangeShapes Go.WideShapes Go.ChangeAt Go.RowKit Go.Proofs.Ytilafcplijgjjaa.AR Go.Proofs.Ytilafcplijgjjaa.TB

set_option maxHeartbeats 4000000 in
theorem index_any (n : Nat) (cv : Value) (f : Int → Bool) (ao : Option Addr) (len cap : Nat) (zs : List Int) (w : World) (h : NAt w ao len zs) (hn : ∀ (args : Array Value) (w : World), (callFunc n args).run Try.prog w = .ok (.enter n args) w) (hf : Lit1 w n cv f) :
    Calls Try.prog 29 #[.slice ao len cap, .func (.func n) #[] #[cv]] w
      fun e w' => (∃ x : Int, e = .returned (.int .i64 x) ∧ (anyB f zs len = true → 0 ≤ x) ∧ (anyB f zs len = false → x = -1)) ∧ Kp w w' := by
  have hby := h.by'
  have HF : Hid (Lit1 w n cv f) := hf
  clear hf
  go_enter Try.func29, Try.ntmps29
  go_wp2
  go_loopw [8] (fun i wr => ∃ k : Nat, k ≤ len ∧ i = .int .i64 k ∧ Hid (∀ i, i < k → f (zs.getD i 0) = false) ∧ Kp w wr) (fun i _ => len - (intOf i).toNat)
  case atStart => exact ⟨0, Nat.zero_le _, rfl, fun i hi => by omega, Kp.refl _⟩
  case round =>
    obtain ⟨k, hk, rfl, HL, hkp⟩ := hrel
    by_cases hlt : k < len
    · have hlt' : (k : Int) < (len : Int) := by omega
      obtain ⟨b, off, rfl, hb, hc⟩ := (h.kept hkp).one hlt
      have HC := HF.out wr (zs.getD k 0) hkp
      cases hq : f (zs.getD k 0) with
      | true =>
        rw [hq] at HC
        have HN : Hid (anyB f zs len = true) := anyB_at hlt hq
        clear hq HL
        generalize zs.getD k 0 = x at *
        go_wp2_with fail
        refine HC.mono ?_
        rintro e w1 ⟨rfl, k1⟩
        go_wp2
        go_ret
        exact ⟨⟨k, rfl, fun _ => by omega, fun q => Bool.noConfusion (HN.out.symm.trans q)⟩, hkp.trans k1⟩
      | false =>
        rw [hq] at HC
        have HN : Hid (∀ i, i < k + 1 → f (zs.getD i 0) = false) := fun i hi => by
          by_cases hik : i < k
          · exact HL.out i hik
          · obtain rfl : i = k := by omega
            exact hq
        clear hq HL
        generalize zs.getD k 0 = x at *
        go_wp2_with fail
        refine HC.mono ?_
        rintro e w1 ⟨rfl, k1⟩
        go_wp2
        go_roundw
        case rel => exact ⟨k + 1, by omega, by go_num, HN, hkp.trans k1⟩
        case measure => simp [intOf]; omega
    · have hlt' : ¬ (k : Int) < (len : Int) := by omega
      have HN : Hid (anyB f zs len = false) := anyB_f.2 (fun i hi => HL.out i (by omega))
      go_wp2
      go_ret
      exact ⟨⟨-1, rfl, fun q => Bool.noConfusion (HN.out.symm.trans q), fun _ => rfl⟩, hkp⟩

theorem contains_any (n : Nat) (cv : Value) (f : Int → Bool) (ao : Option Addr) (len cap : Nat) (zs : List Int) (w : World) (h : NAt w ao len zs) (hn : ∀ (args : Array Value) (w : World), (callFunc n args).run Try.prog w = .ok (.enter n args) w) (hf : Lit1 w n cv f) :
    Calls Try.prog 27 #[.slice ao len cap, .func (.func n) #[] #[cv]] w
      fun e w' => e = .returned (.bool (anyB f zs len)) ∧ Kp w w' := by
  have HI := index_any n cv f ao len cap zs w h hn hf
  cases hq : anyB f zs len with
  | true =>
    go_enter Try.func27, Try.ntmps27
    go_wp2_with fail
    refine HI.mono ?_
    rintro e w1 ⟨⟨x, rfl, hx, _⟩, k1⟩
    have hx' := hx hq
    go_wp2
    go_ret
    exact ⟨by simp_all, k1⟩
  | false =>
    go_enter Try.func27, Try.ntmps27
    go_wp2_with fail
    refine HI.mono ?_
    rintro e w1 ⟨⟨x, rfl, _, hx⟩, k1⟩
    have hx' := hx hq
    subst hx'
    go_wp2
    go_ret
    exact ⟨by simp_all, k1⟩

/-! ### Needs -/

/-- does t need d? -/
def ndB (t : Tk) (d : Int) : Bool := anyB (fun x => x == d) t.dz t.dl

theorem needs_lit (d : Int) (B : Nat) (w : World) (hb : B < w.heap.size) (hc : w.cell? ⟨B, 0, none⟩ = some (.int .i64 d)) :
    Lit1 w 28 (.pointer (some ⟨B, 0, none⟩)) (fun x => x == d) := by
  intro w' x hk
  have hc' := (hk.cell (p := ⟨B, 0, none⟩) hb).trans hc
  simp only
  cases hq : x == d with
  | true =>
    go_enter Try.func28, Try.ntmps28
    go_wp2
    go_ret
    exact ⟨by simp_all, Kp.refl _⟩
  | false =>
    go_enter Try.func28, Try.ntmps28
    go_wp2
    go_ret
    exact ⟨by simp_all, Kp.refl _⟩

theorem needs_any (t : Tk) (d : Int) (w : World) (h : TAt w t) :
    Calls Try.prog 25 #[t.v, .int .i64 d] w fun e w' => e = .returned (.bool (ndB t d)) ∧ Kp w w' := by
  have hmf : ∀ (fn : Fn) (first cap : Array Value) (w : World), (Instr.makeFunc fn first cap).run Try.prog w = .ok (.func fn first cap) w := fun _ _ _ _ => rfl
  have HC : Hid (∀ W, Kp w W → w.heap.size + 1 < W.heap.size → W.cell? ⟨w.heap.size + 1, 0, none⟩ = some (.int .i64 d) → Calls Try.prog 27 #[.slice t.da t.dl t.dc, .func (.func 28) #[] #[.pointer (some ⟨w.heap.size + 1, 0, none⟩)]] W
      fun e w' => e = .returned (.bool (ndB t d)) ∧ Kp W w') := fun W k hs hc => contains_any _ _ _ _ _ _ _ W (h.d.kept k) (enters_of Try.func28 (by kernel_rfl) rfl) (needs_lit d _ W hs hc)
  unfold Tk.v
  go_enter Try.func25, Try.ntmps25
  go_wp2_with fail
  refine (HC.out _ (((Kp.refl _).alloc _).alloc _) (by simp) (by simp)).mono ?_
  rintro e w1 ⟨rfl, k1⟩
  go_wp2
  go_ret
  exact ⟨rfl, (((Kp.refl _).alloc _).alloc _).trans k1⟩

set_option maxHeartbeats 4000000 in
theorem rneeds_any (t : Tk) (d : Int) (w : World) (h : TAt w t) :
    Calls Try.prog 10 #[t.v, .int .i64 d] w fun e w' => e = .returned (.bool (ndB t d)) ∧ Kp w w' := by
  have hby := h.d.by'
  obtain ⟨res, hres⟩ : ∃ res, ndB t d = res := ⟨_, rfl⟩
  rw [hres]
  have HR : Hid (ndB t d = res) := hres
  clear hres
  have hd := h.d
  unfold Tk.v
  go_enter Try.func10, Try.ntmps10
  go_wp2
  go_loopw [5] (fun i wr => ∃ k : Nat, k ≤ t.dl ∧ i = .int .i64 k ∧ Hid (∀ i, i < k → (t.dz.getD i 0 == d) = false) ∧ Kp w wr ∧ wr.cell? ⟨w.heap.size, 3, none⟩ = some (.slice t.da t.dl t.dc)) (fun i _ => t.dl - (intOf i).toNat)
  case atStart => exact ⟨0, Nat.zero_le _, rfl, fun i hi => by omega, (Kp.refl _).alloc _, by simp⟩
  case round =>
    obtain ⟨k, hk, rfl, HL, hkp, hc3⟩ := hrel
    by_cases hlt : k < t.dl
    · have hlt' : (k : Int) < (t.dl : Int) := by omega
      obtain ⟨b, off, hda, hb, hc⟩ := (hd.kept hkp).one hlt
      rw [hda] at hc3
      cases hq : t.dz.getD k 0 == d with
      | true =>
        have HN : Hid (ndB t d = true) := anyB_at (f := fun x => x == d) hlt hq
        clear HL
        generalize t.dz.getD k 0 = x at *
        go_wp2
        go_ret
        exact ⟨congrArg (fun b => Ending.returned (Value.bool b)) (HN.out.symm.trans HR.out), hkp⟩
      | false =>
        have HN : Hid (∀ i, i < k + 1 → (t.dz.getD i 0 == d) = false) := fun i hi => by
          by_cases hik : i < k
          · exact HL.out i hik
          · obtain rfl : i = k := by omega
            exact hq
        clear HL
        generalize t.dz.getD k 0 = x at *
        go_wp2
        go_roundw
        case rel => exact ⟨k + 1, by omega, by go_num, HN, hkp, by rw [hda]; exact hc3⟩
        case measure => simp [intOf]; omega
    · have hlt' : ¬ (k : Int) < (t.dl : Int) := by omega
      have HN : Hid (ndB t d = false) := anyB_f.2 (fun i hi => HL.out i (by omega))
      go_wp2
      go_ret
      exact ⟨congrArg (fun b => Ending.returned (Value.bool b)) (HN.out.symm.trans HR.out), hkp⟩

end Go.Proofs.Ytilafcplijgjjaa.TK
