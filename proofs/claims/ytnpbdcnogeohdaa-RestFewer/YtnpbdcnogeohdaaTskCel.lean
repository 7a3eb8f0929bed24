/- A semaphore's ceiling: the program's and the document's own, walked. -/
import Derived.Test.YtnpbdcnogeohdaaTskFnd
namespace Go.Proofs.Ytnpbdcnogeohdaa.TK
open Go.ChangeShapes Go.WideShapes Go.ChangeAt Go.RowKit Go.Proofs.Ytnpbdcnogeohdaa.AR Go.Proofs.Ytnpbdcnogeohdaa.TB

/-- the ceiling of the first k -/
def cel (L : List Tk) (s : Int) : Nat → Int
  | 0 => 1099511627776
  | k + 1 => match L[k]? with
    | some t => bif usB t s then (bif decide (t.p < cel L s k) then t.p else cel L s k) else cel L s k
    | none => cel L s k

theorem cel_not {L : List Tk} {s : Int} {k : Nat} {t : Tk} (h : L[k]? = some t) (hu : usB t s = false) : cel L s (k + 1) = cel L s k := by simp [cel, h, hu]
theorem cel_less {L : List Tk} {s : Int} {k : Nat} {t : Tk} (h : L[k]? = some t) (hu : usB t s = true) (hp : t.p < cel L s k) : cel L s (k + 1) = t.p := by simp [cel, h, hu, hp]
theorem cel_stay {L : List Tk} {s : Int} {k : Nat} {t : Tk} (h : L[k]? = some t) (hp : ¬ t.p < cel L s k) : cel L s (k + 1) = cel L s k := by
  cases hu : usB t s <;> simp [cel, h, hu, hp]

/-- it does not rise -/
theorem cel_fall {L : List Tk} {s : Int} (k : Nat) : cel L s (k + 1) ≤ cel L s k := by
  cases h : L[k]? with
  | none => simp [cel, h]
  | some t =>
    cases hu : usB t s with
    | false => rw [cel_not h hu]; exact Int.le_refl _
    | true =>
      by_cases hp : t.p < cel L s k
      · rw [cel_less h hu hp]; omega
      · rw [cel_stay h hp]; exact Int.le_refl _

/-- a function literal over tasks that answers f, wherever it is called from w on -/
def LitT (w : World) (n : Nat) (cap : Value) (f : Tk → Bool) : Prop :=
  ∀ w' t, Kp w w' → TAt w' t → Calls Try.prog n #[t.v, cap] w' fun e w'' => e = .returned (.bool (f t)) ∧ Kp w' w''

theorem ceiling_lit (s : Int) (B : Nat) (w : World) (hb : B < w.heap.size) (hc : w.cell? ⟨B, 0, none⟩ = some (.int .i64 s)) :
    LitT w 60 (.pointer (some ⟨B, 0, none⟩)) (fun t => usB t s) := by
  intro w' t hk ht
  have hc' := (hk.cell (p := ⟨B, 0, none⟩) hb).trans hc
  have hb' : B < w'.heap.size := Nat.lt_of_lt_of_le hb hk.size
  have HU : Hid (∀ W, Kp w' W → Calls Try.prog 61 #[.agg #[.int .i64 t.p, .int .i64 t.c, .slice t.sa t.sl t.sc, .slice t.da t.dl t.dc], .int .i64 s] W fun e w'' => e = .returned (.bool (usB t s)) ∧ Kp W w'') := fun W k => uses_any t s W (ht.kept k)
  have HK : Hid (∀ o, Kp w' (w'.alloc o)) := fun o => (Kp.refl _).alloc o
  clear hk hc hb ht
  unfold Tk.v
  simp only
  generalize usB t s = u at *
  go_enter Try.func60, Try.ntmps60
  go_wp2_with fail
  refine (HU.out _ (HK.out _)).mono ?_
  rintro e w1 ⟨rfl, k1⟩
  go_wp2
  go_ret
  exact ⟨rfl, (HK.out _).trans k1⟩

set_option maxHeartbeats 4000000 in
theorem least_any (n : Nat) (cv : Value) (s : Int) (ao : Option Addr) (len cap : Nat) (L : List Tk) (w : World) (h : LAt w ao len L) (hn : ∀ (args : Array Value) (w : World), (callFunc n args).run Try.prog w = .ok (.enter n args) w) (hf : LitT w n cv (fun t => usB t s)) :
    Calls Try.prog 59 #[.slice ao len cap, .func (.func n) #[] #[cv]] w
      fun e w' => e = .returned (.int .i64 (cel L s len)) ∧ Kp w w' := by
  have hby := h.by'
  have HF : Hid (LitT w n cv (fun t => usB t s)) := hf
  clear hf
  obtain ⟨res, hres⟩ : ∃ res, cel L s len = res := ⟨_, rfl⟩
  rw [hres]
  have HR : Hid (cel L s len = res) := hres
  clear hres
  go_enter Try.func59, Try.ntmps59
  go_wp2
  go_loopw [5, 10] (fun l i wr => ∃ (k : Nat) (lv : Int), k ≤ len ∧ i = .int .i64 k ∧ l = .int .i64 lv ∧ Hid (cel L s k = lv) ∧ Kp w wr) (fun _ i _ => len - (intOf i).toNat)
  case atStart => exact ⟨0, _, Nat.zero_le _, rfl, rfl, rfl, Kp.refl _⟩
  case round =>
    obtain ⟨k, lv, hk, rfl, rfl, HL, hkp⟩ := hrel
    by_cases hlt : k < len
    · have hlt' : (k : Int) < (len : Int) := by omega
      obtain ⟨b, off, t, rfl, hb, hg, ht, c0, c1, c2, c3⟩ := (h.kept hkp).one hlt
      have HC : Hid (∀ W, Kp wr W → Calls Try.prog n #[.agg #[.int .i64 t.p, .int .i64 t.c, .slice t.sa t.sl t.sc, .slice t.da t.dl t.dc], cv] W fun e w'' => e = .returned (.bool (usB t s)) ∧ Kp W w'') := fun W q => HF.out W t (hkp.trans q) (ht.kept q)
      have HK : Hid (∀ o, Kp wr (wr.alloc o)) := fun o => (Kp.refl _).alloc o
      have hsz : wr.heap.size < wr.heap.size + 1 := Nat.lt_succ_self _
      have HB : Hid (∀ W', Kp (wr.alloc (.cells #[.int .i64 t.p, .int .i64 t.c, .slice t.sa t.sl t.sc, .slice t.da t.dl t.dc] 38)) W' → W'.cell? ⟨wr.heap.size, 0, none⟩ = some (.int .i64 t.p)) := fun W' q => (q.cell (by simp)).trans (by simp)
      cases hu : usB t s with
      | false =>
        rw [hu] at HC
        have HN : Hid (cel L s (k + 1) = lv) := (cel_not hg hu).trans HL.out
        clear hu HL HF ht hg
        go_wp2_with fail
        refine (HC.out _ (HK.out _)).mono ?_
        rintro e w1 ⟨rfl, k1⟩
        go_wp2
        go_roundw
        case rel => exact ⟨k + 1, lv, by omega, by go_num, rfl, HN, (hkp.trans (HK.out _)).trans k1⟩
        case measure => simp [intOf]; omega
      | true =>
        rw [hu] at HC
        by_cases hp : t.p < lv
        · have hp' : ¬ lv ≤ t.p := by omega
          have HN : Hid (cel L s (k + 1) = t.p) := cel_less hg hu (by rw [HL.out]; exact hp)
          clear hu HL HF ht hg
          go_wp2_with fail
          refine (HC.out _ (HK.out _)).mono ?_
          rintro e w1 ⟨rfl, k1⟩
          have z0 := HB.out _ k1
          go_wp2
          go_roundw
          case rel => exact ⟨k + 1, t.p, by omega, by go_num, by first | rfl | (simp; omega), HN, (hkp.trans (HK.out _)).trans k1⟩
          case measure => simp [intOf]; omega
        · have hp' : lv ≤ t.p := by omega
          have HN : Hid (cel L s (k + 1) = lv) := (cel_stay hg (by rw [HL.out]; exact hp)).trans HL.out
          clear hu HL HF ht hg
          go_wp2_with fail
          refine (HC.out _ (HK.out _)).mono ?_
          rintro e w1 ⟨rfl, k1⟩
          have z0 := HB.out _ k1
          go_wp2
          go_roundw
          case rel => exact ⟨k + 1, lv, by omega, by go_num, by first | rfl | (simp; omega), HN, (hkp.trans (HK.out _)).trans k1⟩
          case measure => simp [intOf]; omega
    · have hlt' : ¬ (k : Int) < (len : Int) := by omega
      obtain rfl : k = len := by omega
      have HN : Hid (lv = res) := HL.out.symm.trans HR.out
      clear HL HR
      go_wp2
      go_ret
      exact ⟨by rw [HN.out]; rfl, hkp⟩

theorem ceiling_any (ao : Option Addr) (len cap : Nat) (L : List Tk) (s : Int) (w : World) (h : LAt w ao len L) :
    Calls Try.prog 53 #[.slice ao len cap, .int .i64 s] w fun e w' => e = .returned (.int .i64 (cel L s len)) ∧ Kp w w' := by
  have hmf : ∀ (fn : Fn) (first cap : Array Value) (w : World), (Instr.makeFunc fn first cap).run Try.prog w = .ok (.func fn first cap) w := fun _ _ _ _ => rfl
  have HC : Hid (∀ W, Kp w W → w.heap.size < W.heap.size → W.cell? ⟨w.heap.size, 0, none⟩ = some (.int .i64 s) → Calls Try.prog 59 #[.slice ao len cap, .func (.func 60) #[] #[.pointer (some ⟨w.heap.size, 0, none⟩)]] W
      fun e w' => e = .returned (.int .i64 (cel L s len)) ∧ Kp W w') := fun W k hs hc => least_any _ _ s _ _ _ _ W (h.kept k) (enters_of Try.func60 (by kernel_rfl) rfl) (ceiling_lit s _ W hs hc)
  go_enter Try.func53, Try.ntmps53
  go_wp2_with fail
  refine (HC.out _ ((Kp.refl _).alloc _) (by simp) (by simp)).mono ?_
  rintro e w1 ⟨rfl, k1⟩
  go_wp2
  go_ret
  exact ⟨rfl, ((Kp.refl _).alloc _).trans k1⟩

set_option maxHeartbeats 4000000 in
theorem rceiling_any (ao : Option Addr) (len cap : Nat) (L : List Tk) (s : Int) (w : World) (h : LAt w ao len L) :
    Calls Try.prog 49 #[.slice ao len cap, .int .i64 s] w fun e w' => e = .returned (.int .i64 (cel L s len)) ∧ Kp w w' := by
  have hby := h.by'
  obtain ⟨res, hres⟩ : ∃ res, cel L s len = res := ⟨_, rfl⟩
  rw [hres]
  have HR : Hid (cel L s len = res) := hres
  clear hres
  go_enter Try.func49, Try.ntmps49
  go_wp2
  go_loopw [5, 6] (fun l i wr => ∃ (k : Nat) (lv : Int), k ≤ len ∧ i = .int .i64 k ∧ l = .int .i64 lv ∧ Hid (cel L s k = lv) ∧ Kp w wr) (fun _ i _ => len - (intOf i).toNat)
  case atStart => exact ⟨0, _, Nat.zero_le _, rfl, rfl, rfl, Kp.refl _⟩
  case round =>
    obtain ⟨k, lv, hk, rfl, rfl, HL, hkp⟩ := hrel
    by_cases hlt : k < len
    · have hlt' : (k : Int) < (len : Int) := by omega
      obtain ⟨b, off, t, rfl, hb, hg, ht, c0, c1, c2, c3⟩ := (h.kept hkp).one hlt
      have HC : Hid (Calls Try.prog 57 #[.agg #[.int .i64 t.p, .int .i64 t.c, .slice t.sa t.sl t.sc, .slice t.da t.dl t.dc], .int .i64 s] wr fun e w'' => e = .returned (.bool (usB t s)) ∧ Kp wr w'') := ruses_any t s wr ht
      have HB : Hid (∀ W', Kp wr W' → W'.cell? ⟨b, off + k * 4, none⟩ = some (.int .i64 t.p)) := fun W' q => (q.cell (by exact hb)).trans c0
      cases hu : usB t s with
      | false =>
        rw [hu] at HC
        have HN : Hid (cel L s (k + 1) = lv) := (cel_not hg hu).trans HL.out
        clear hu HL ht hg
        go_wp2_with fail
        refine HC.out.mono ?_
        rintro e w1 ⟨rfl, k1⟩
        go_wp2
        go_roundw
        case rel => exact ⟨k + 1, lv, by omega, by go_num, rfl, HN, hkp.trans k1⟩
        case measure => simp [intOf]; omega
      | true =>
        rw [hu] at HC
        by_cases hp : t.p < lv
        · have HN : Hid (cel L s (k + 1) = t.p) := cel_less hg hu (by rw [HL.out]; exact hp)
          clear hu HL ht hg
          go_wp2_with fail
          refine HC.out.mono ?_
          rintro e w1 ⟨rfl, k1⟩
          have z0 := HB.out _ k1
          go_wp2
          go_roundw
          case rel => exact ⟨k + 1, t.p, by omega, by go_num, rfl, HN, hkp.trans k1⟩
          case measure => simp [intOf]; omega
        · have HN : Hid (cel L s (k + 1) = lv) := (cel_stay hg (by rw [HL.out]; exact hp)).trans HL.out
          clear hu HL ht hg
          go_wp2_with fail
          refine HC.out.mono ?_
          rintro e w1 ⟨rfl, k1⟩
          have z0 := HB.out _ k1
          go_wp2
          go_roundw
          case rel => exact ⟨k + 1, lv, by omega, by go_num, rfl, HN, hkp.trans k1⟩
          case measure => simp [intOf]; omega
    · have hlt' : ¬ (k : Int) < (len : Int) := by omega
      obtain rfl : k = len := by omega
      have HN : Hid (lv = res) := HL.out.symm.trans HR.out
      clear HL HR
      go_wp2
      go_ret
      exact ⟨by rw [HN.out]; rfl, hkp⟩

end Go.Proofs.Ytnpbdcnogeohdaa.TK
