/- The ceiling of all that is held: the program's and the document's own. -/
import Derived.Test.YtlcbgkicooeklaaLckOps2
namespace Go.Proofs.Ytlcbgkicooeklaa.LK
open Go.ChangeShapes Go.WideShapes Go.ChangeAt Go.RowKit Go.Proofs.Ytlcbgkicooeklaa.AR

/-- the least ceiling of the first k -/
def sysK (L : List Hd) (T : List TK.Tk) (len : Nat) : Nat → Int
  | 0 => 1099511627776
  | k + 1 => min (sysK L T len k) (TK.cel T (atH L k).s len)

theorem sysK_less {L : List Hd} {T : List TK.Tk} {len k : Nat} (h : TK.cel T (atH L k).s len < sysK L T len k) : sysK L T len (k + 1) = TK.cel T (atH L k).s len := by
  show min _ _ = _
  omega
theorem sysK_stay {L : List Hd} {T : List TK.Tk} {len k : Nat} (h : ¬ TK.cel T (atH L k).s len < sysK L T len k) : sysK L T len (k + 1) = sysK L T len k := by
  show min _ _ = _
  omega

set_option maxHeartbeats 4000000 in
theorem lceil_any (lb : Nat) (A : Nat → Prop) (L : List Hd) (ao : Option Addr) (len cap : Nat) (T : List TK.Tk) (w : World) (h : LRep w lb A L) (ht : TK.LAt w ao len T) :
    Calls Try.prog 21 #[.pointer (some ⟨lb, 0, none⟩), .slice ao len cap] w fun e w' => e = .returned (.int .i64 (sysK L T len L.length)) ∧ Kp w w' := by
  obtain ⟨v, hv, _⟩ := h.mem
  obtain ⟨bo, c2, rfl, hl'⟩ := hv.ls.lies
  have h0 := hv.c
  have hlen := h.len
  have HH : Hid (HsAt w bo L.length L) := hl'
  have HT : Hid (TK.LAt w ao len T) := ht
  obtain ⟨res, hres⟩ : ∃ res, sysK L T len L.length = res := ⟨_, rfl⟩
  rw [hres]
  have HR : Hid (sysK L T len L.length = res) := hres
  obtain ⟨n, hn⟩ : ∃ n, L.length = n := ⟨_, rfl⟩
  rw [hn] at h0 hlen HH HR
  clear hres hl' hv h ht hn
  go_enter Try.func21, Try.ntmps21
  go_wp2
  go_loopw [5, 16] (fun l i wr => ∃ (k : Nat) (lv : Int), k ≤ n ∧ i = .int .i64 k ∧ l = .int .i64 lv ∧ Hid (sysK L T len k = lv) ∧ Kp w wr) (fun _ i _ => n - (intOf i).toNat)
  case atStart => exact ⟨0, _, Nat.zero_le _, rfl, rfl, rfl, Step.refl _ _⟩
  case round =>
    obtain ⟨k, lv, hk, rfl, rfl, HL, hkp⟩ := hrel
    by_cases hlt : k < n
    · have hlt' : (k : Int) < (n : Int) := by omega
      obtain ⟨b, off, rfl, hb, c0, c1, c2', _⟩ := (HH.out.kp hkp).one hlt
      have HC : Hid (∀ W, Kp wr W → Calls Try.prog 33 #[.slice ao len cap, .int .i64 (atH L k).s] W fun e w' => e = .returned (.int .i64 (TK.cel T (atH L k).s len)) ∧ Kp W w') := fun W q => (TK.ceiling_any ao len cap T (atH L k).s W (HT.out.kept (Kp.tb (hkp.trans q)))).mono (fun e w' ⟨h1, h2⟩ => ⟨h1, kp_of_tb h2⟩)
      have HK : Hid (∀ o, Kp wr (wr.alloc o)) := fun o => (Step.refl _ _).alloc o
      by_cases hp : TK.cel T (atH L k).s len < lv
      · have HN : Hid (sysK L T len (k + 1) = TK.cel T (atH L k).s len) := sysK_less (by rw [HL.out]; exact hp)
        clear HL
        generalize TK.cel T (atH L k).s len = c at *
        have hp' : ¬ lv ≤ c := by omega
        generalize atH L k = x at *
        go_wp2_with fail
        refine (HC.out _ (HK.out _)).mono ?_
        rintro e w1 ⟨rfl, k1⟩
        go_wp2
        go_roundw
        case rel => exact ⟨k + 1, c, by omega, by go_num, by first | rfl | (simp; omega), HN, (hkp.trans (HK.out _)).trans k1⟩
        case measure => simp [intOf]; omega
      · have HN : Hid (sysK L T len (k + 1) = lv) := (sysK_stay (by rw [HL.out]; exact hp)).trans HL.out
        clear HL
        generalize TK.cel T (atH L k).s len = c at *
        have hp' : lv ≤ c := by omega
        generalize atH L k = x at *
        go_wp2_with fail
        refine (HC.out _ (HK.out _)).mono ?_
        rintro e w1 ⟨rfl, k1⟩
        go_wp2
        go_roundw
        case rel => exact ⟨k + 1, lv, by omega, by go_num, by first | rfl | (simp; omega), HN, (hkp.trans (HK.out _)).trans k1⟩
        case measure => simp [intOf]; omega
    · have hlt' : ¬ (k : Int) < (n : Int) := by omega
      obtain rfl : k = n := by omega
      have HN : Hid (lv = res) := HL.out.symm.trans HR.out
      clear HL HR
      go_wp2
      go_ret
      exact ⟨by rw [HN.out]; rfl, hkp⟩

/-- the least of two -/
theorem rmin_any (a b : Int) (w : World) :
    Calls Try.prog 34 #[.int .i64 a, .int .i64 b] w fun e w' => e = .returned (.int .i64 (min a b)) ∧ w = w' := by
  by_cases hp : a < b
  · have e : min a b = a := by omega
    rw [e]; clear e
    go_enter Try.func34, Try.ntmps34
    go_wp2
    go_ret
    exact ⟨rfl, rfl⟩
  · have e : min a b = b := by omega
    rw [e]; clear e
    go_enter Try.func34, Try.ntmps34
    go_wp2
    go_ret
    exact ⟨rfl, rfl⟩

set_option maxHeartbeats 4000000 in
theorem rsys_any (e : TypeId) (base : Nat) (v : Value) (L : List Hd) (ao : Option Addr) (len cap : Nat) (T : List TK.Tk) (w : World) (h : Ls w e base v L) (ht : TK.LAt w ao len T) :
    Calls Try.prog 22 #[v, .slice ao len cap] w fun e w' => e = .returned (.int .i64 (sysK L T len L.length)) ∧ Kp w w' := by
  obtain ⟨bo, c2, rfl, hl'⟩ := h.lies
  have hlen := h.len
  have HH : Hid (HsAt w bo L.length L) := hl'
  have HT : Hid (TK.LAt w ao len T) := ht
  obtain ⟨res, hres⟩ : ∃ res, sysK L T len L.length = res := ⟨_, rfl⟩
  rw [hres]
  have HR : Hid (sysK L T len L.length = res) := hres
  obtain ⟨n, hn⟩ : ∃ n, L.length = n := ⟨_, rfl⟩
  rw [hn] at hlen HH HR ⊢
  clear hres hl' h ht hn
  go_enter Try.func22, Try.ntmps22
  go_wp2
  go_loopw [5, 6] (fun l i wr => ∃ (k : Nat) (lv : Int), k ≤ n ∧ i = .int .i64 k ∧ l = .int .i64 lv ∧ Hid (sysK L T len k = lv) ∧ Kp w wr) (fun _ i _ => n - (intOf i).toNat)
  case atStart => exact ⟨0, _, Nat.zero_le _, rfl, rfl, rfl, Step.refl _ _⟩
  case round =>
    obtain ⟨k, lv, hk, rfl, rfl, HL, hkp⟩ := hrel
    by_cases hlt : k < n
    · have hlt' : (k : Int) < (n : Int) := by omega
      obtain ⟨b, off, rfl, hb, c0, c1, c2', _⟩ := (HH.out.kp hkp).one hlt
      have HC : Hid (∀ W, Kp wr W → Calls Try.prog 35 #[.slice ao len cap, .int .i64 (atH L k).s] W fun e w' => e = .returned (.int .i64 (TK.cel T (atH L k).s len)) ∧ Kp W w') := fun W q => (TK.rceiling_any ao len cap T (atH L k).s W (HT.out.kept (Kp.tb (hkp.trans q)))).mono (fun e w' ⟨h1, h2⟩ => ⟨h1, kp_of_tb h2⟩)
      have HN : Hid (sysK L T len (k + 1) = min lv (TK.cel T (atH L k).s len)) := by show _ = _; rw [← HL.out]; rfl
      clear HL
      generalize TK.cel T (atH L k).s len = c at *
      have HM : Hid (∀ W, Calls Try.prog 34 #[.int .i64 lv, .int .i64 c] W fun e w' => e = .returned (.int .i64 (min lv c)) ∧ W = w') := fun W => rmin_any lv c W
      generalize min lv c = m at *
      generalize atH L k = x at *
      go_wp2_with fail
      refine (HC.out _ (Step.refl _ _)).mono ?_
      rintro e w1 ⟨rfl, k1⟩
      go_wp2_with fail
      refine (HM.out _).mono ?_
      rintro e w2 ⟨rfl, rfl⟩
      go_wp2
      go_roundw
      case rel => exact ⟨k + 1, m, by omega, by go_num, by first | rfl | (simp; omega), HN, hkp.trans k1⟩
      case measure => simp [intOf]; omega
    · have hlt' : ¬ (k : Int) < (n : Int) := by omega
      obtain rfl : k = n := by omega
      have HN : Hid (lv = res) := HL.out.symm.trans HR.out
      clear HL HR
      go_wp2
      go_ret
      exact ⟨by rw [HN.out]; rfl, hkp⟩

end Go.Proofs.Ytlcbgkicooeklaa.LK
