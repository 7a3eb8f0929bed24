/- Semaphores made since a world; what a program that does nothing does not answer. -/
import Derived.Test.YtlcbgkicooeklaaLckRTk
namespace Go.Proofs.Ytlcbgkicooeklaa.LK
open Go.ChangeShapes Go.WideShapes Go.ChangeAt Go.RowKit Go.Proofs.Ytlcbgkicooeklaa.AR

/-- semaphores that were made since w -/
structure LkOf (w W : World) (lb : Nat) (A : Nat → Prop) (L : List Hd) : Prop where
  rep : LRep W lb A L
  kp : Kp w W
  lo : ∀ k, A k → w.heap.size ≤ k

theorem LkOf.went {w W W' : World} {lb : Nat} {A : Nat → Prop} {L L' : List Hd} (h : LkOf w W lb A L) (q : LWent W lb A L' W') : ∃ B, LkOf w W' lb B L' := by
  obtain ⟨B, r, s, o⟩ := q
  refine ⟨B, r, Step.trans_new h.kp s (fun i hi e => by have := h.lo i e; omega), fun k hk => ?_⟩
  by_cases hl : k < W.heap.size
  · exact h.lo k (o k hl hk)
  · have := h.kp.size; omega
theorem LkOf.still {w W W' : World} {lb : Nat} {A : Nat → Prop} {L : List Hd} (h : LkOf w W lb A L) (k : Kp W W') : LkOf w W' lb A L := ⟨h.rep.kp k, h.kp.trans k, h.lo⟩
theorem LkOf.as {w W : World} {lb : Nat} {A : Nat → Prop} {L L' : List Hd} (h : LkOf w W lb A L) (e : L = L') : LkOf w W lb A L' := e ▸ h
theorem lkOf_new {w W : World} (h : LRep W w.heap.size (fun k => k = w.heap.size) []) (k : Kp w W) : LkOf w W w.heap.size (fun k => k = w.heap.size) [] := ⟨h, k, fun q e => by omega⟩

theorem lat_none (w : World) : TK.LAt w none 0 [] := ⟨rfl, fun t ht => by simp at ht, .inl rfl, by omega⟩

def aL1 : List Hd := [⟨1, 0, 2⟩]
def aL2 : List Hd := [⟨1, 0, 2⟩, ⟨1, 3, 1⟩]
def aL3 : List Hd := [⟨1, 0, 1⟩, ⟨1, 3, 0⟩]

set_option maxHeartbeats 4000000 in
theorem answers_any (w : World) :
    Calls Try.prog 9 #[] w fun e w' => e = .returned (.bool true) ∧ Kp w w' := by
  have e1 : takeL [] ⟨1, 0, 2⟩ = aL1 := rfl
  have e2 : takeL aL1 ⟨1, 3, 1⟩ = aL2 := rfl
  have e3 : giveL aL2 1 0 = aL2 := rfl
  have e4 : spendL aL2 1 = aL3 := by simp [spendL, aL2, aL3, sp1, wrap64]
  have e5 : takeL aL3 ⟨2, 3, 1⟩ = aL3 := rfl
  have c1 : codeI (!heldB [] 0) = 0 := rfl
  have c2 : codeI (!heldB aL1 3) = 0 := rfl
  have c3 : codeI (giveB aL2 1 0) = 10 := rfl
  have c4 : overB aL3 1 = true := rfl
  have c5 : codeI (!heldB aL3 3) = 10 := rfl
  have c6 : sysK aL3 [] 0 aL3.length = 1099511627776 := rfl
  have l0 : ([] : List Hd).length + 1 ≤ 5864062014805 := by decide
  have l1 : aL1.length + 1 ≤ 5864062014805 := by decide
  have l3 : aL3.length + 1 ≤ 5864062014805 := by decide
  have H1 : Hid (∀ lb A W, LRep W lb A [] → Calls Try.prog 11 #[.pointer (some ⟨lb, 0, none⟩), .int .i64 1, .int .i64 0, .int .i64 2] W fun e w' => e = .returned (.int .i64 0) ∧ LWent W lb A aL1 w') := fun lb A W h => by
    have := take_any lb A [] 1 0 2 W h l0; rw [e1, c1] at this; exact this
  have H2 : Hid (∀ lb A W, LRep W lb A aL1 → Calls Try.prog 11 #[.pointer (some ⟨lb, 0, none⟩), .int .i64 1, .int .i64 3, .int .i64 1] W fun e w' => e = .returned (.int .i64 0) ∧ LWent W lb A aL2 w') := fun lb A W h => by
    have := take_any lb A aL1 1 3 1 W h l1; rw [e2, c2] at this; exact this
  have H3 : Hid (∀ lb A W, LRep W lb A aL2 → Calls Try.prog 14 #[.pointer (some ⟨lb, 0, none⟩), .int .i64 1, .int .i64 0] W fun e w' => e = .returned (.int .i64 10) ∧ LWent W lb A aL2 w') := fun lb A W h => by
    have := give_any lb A aL2 1 0 W h; rw [e3, c3] at this; exact this
  have H4 : Hid (∀ lb A W, LRep W lb A aL2 → Calls Try.prog 15 #[.pointer (some ⟨lb, 0, none⟩), .int .i64 1] W fun e w' => e = .returned (.tuple #[]) ∧ LWent W lb A aL3 w') := fun lb A W h => by
    have := spend_any lb A aL2 1 W h; rw [e4] at this; exact this
  have H5 : Hid (∀ lb A W, LRep W lb A aL3 → Calls Try.prog 17 #[.pointer (some ⟨lb, 0, none⟩), .int .i64 1] W fun e w' => e = .returned (.bool true) ∧ Kp W w') := fun lb A W h => by
    have := over_any lb A aL3 1 W h; rw [c4] at this; exact this
  have H6 : Hid (∀ lb A W, LRep W lb A aL3 → Calls Try.prog 24 #[.pointer (some ⟨lb, 0, none⟩)] W fun e w' => e = .returned (.slice (some ⟨W.heap.size, 0, none⟩) 2 2) ∧ Kp W w') := fun lb A W h =>
    (list_any lb A aL3 W h).mono (fun e w' ⟨q1, _, q3⟩ => ⟨q1, q3⟩)
  have H7 : Hid (∀ lb A W, LRep W lb A aL3 → Calls Try.prog 11 #[.pointer (some ⟨lb, 0, none⟩), .int .i64 2, .int .i64 3, .int .i64 1] W fun e w' => e = .returned (.int .i64 10) ∧ LWent W lb A aL3 w') := fun lb A W h => by
    have := take_any lb A aL3 2 3 1 W h l3; rw [e5, c5] at this; exact this
  have H8 : Hid (∀ lb A W, LRep W lb A aL3 → Calls Try.prog 21 #[.pointer (some ⟨lb, 0, none⟩), .slice none 0 0] W fun e w' => e = .returned (.int .i64 1099511627776) ∧ Kp W w') := fun lb A W h => by
    have := lceil_any lb A aL3 none 0 0 [] W h (lat_none W); rw [c6] at this; exact this
  clear e1 e2 e3 e4 e5 c1 c2 c3 c4 c5 c6 l0 l1 l3
  go_enter Try.func9, Try.ntmps9
  go_wp2_with fail
  refine (new_any _).mono ?_
  rintro e w1 ⟨rfl, r1, k1⟩
  have G1 := lkOf_new r1 k1
  clear r1 k1
  go_wp2_with fail
  refine (H1.out _ _ _ G1.rep).mono ?_
  rintro e w2 ⟨rfl, q2⟩
  obtain ⟨A2, G2⟩ := G1.went q2
  clear q2 G1
  go_wp2_with fail
  refine (H2.out _ _ _ G2.rep).mono ?_
  rintro e w3 ⟨rfl, q3⟩
  obtain ⟨A3, G3⟩ := G2.went q3
  clear q3 G2
  go_wp2_with fail
  refine (H3.out _ _ _ G3.rep).mono ?_
  rintro e w4 ⟨rfl, q4⟩
  obtain ⟨A4, G4⟩ := G3.went q4
  clear q4 G3
  go_wp2_with fail
  refine (H4.out _ _ _ G4.rep).mono ?_
  rintro e w5 ⟨rfl, q5⟩
  obtain ⟨A5, G5⟩ := G4.went q5
  clear q5 G4
  go_wp2_with fail
  refine (H5.out _ _ _ G5.rep).mono ?_
  rintro e w6 ⟨rfl, k6⟩
  have G6 := G5.still k6
  clear k6 G5
  go_wp2_with fail
  refine (H6.out _ _ _ G6.rep).mono ?_
  rintro e w7 ⟨rfl, k7⟩
  have G7 := G6.still k7
  clear k7
  go_wp2_with fail
  refine (H7.out _ _ _ G7.rep).mono ?_
  rintro e w8 ⟨rfl, q8⟩
  obtain ⟨A8, G8⟩ := G7.went q8
  clear q8 G7
  go_wp2_with fail
  refine (H8.out _ _ _ G8.rep).mono ?_
  rintro e w9 ⟨rfl, k9⟩
  have G9 := G8.still k9
  go_wp2
  go_ret
  exact ⟨rfl, G9.kp⟩

end Go.Proofs.Ytlcbgkicooeklaa.LK
