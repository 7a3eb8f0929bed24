/- Each call, for semaphores beside a list. -/
import Derived.Test.YtlcbgkicooeklaaLckLaw
namespace Go.Proofs.Ytlcbgkicooeklaa.LK
open Go.ChangeShapes Go.WideShapes Go.ChangeAt Go.RowKit Go.Proofs.Ytlcbgkicooeklaa.AR

/-- the semaphores were called -/
def Gone (w W : World) (lb : Nat) (A : Nat → Prop) (L' : List Hd) (v : Value) (M : List Hd) (w' : World) : Prop := ∃ B, Tw w w' lb B L' v M ∧ ∀ b x, ¬ A b → B4 W b x → ¬ B b ∧ B4 w' b x

section
variable {w W : World} {lb : Nat} {A : Nat → Prop} {L M : List Hd} {v : Value}

theorem Tw.take (h : Tw w W lb A L v M) (t s c : Int) (hl : L.length + 1 ≤ 5864062014805) :
    Calls Try.prog 11 #[.pointer (some ⟨lb, 0, none⟩), .int .i64 t, .int .i64 s, .int .i64 c] W fun e w' => e = .returned (.int .i64 (codeI (!heldB L s))) ∧ Gone w W lb A (takeL L ⟨t, s, c⟩) v M w' :=
  (take_any lb A L t s c W h.x.rep hl).mono fun _ _ ⟨h1, h2⟩ => ⟨h1, h.went h2⟩

theorem Tw.give (h : Tw w W lb A L v M) (t s : Int) :
    Calls Try.prog 14 #[.pointer (some ⟨lb, 0, none⟩), .int .i64 t, .int .i64 s] W fun e w' => e = .returned (.int .i64 (codeI (giveB L t s))) ∧ Gone w W lb A (giveL L t s) v M w' :=
  (give_any lb A L t s W h.x.rep).mono fun _ _ ⟨h1, h2⟩ => ⟨h1, h.went h2⟩

theorem Tw.spend (h : Tw w W lb A L v M) (t : Int) :
    Calls Try.prog 15 #[.pointer (some ⟨lb, 0, none⟩), .int .i64 t] W fun e w' => e = .returned (.tuple #[]) ∧ Gone w W lb A (spendL L t) v M w' :=
  (spend_any lb A L t W h.x.rep).mono fun _ _ ⟨h1, h2⟩ => ⟨h1, h.went h2⟩

theorem Tw.free (h : Tw w W lb A L v M) (t : Int) :
    Calls Try.prog 19 #[.pointer (some ⟨lb, 0, none⟩), .int .i64 t] W fun e w' => e = .returned (.tuple #[]) ∧ Gone w W lb A (freeL L t) v M w' :=
  (free_any lb A L t W h.x.rep).mono fun _ _ ⟨h1, h2⟩ => ⟨h1, h.went h2⟩

theorem Tw.rtake (h : Tw w W lb A L v M) (t s c : Int) (hl : M.length + 1 ≤ 5864062014805) :
    Calls Try.prog 10 #[v, .agg #[.int .i64 t, .int .i64 s, .int .i64 c]] W fun e w' => ∃ v', e = .returned (.tuple #[v', .bool (!heldB M s)]) ∧ Tw w w' lb A L v' (takeL M ⟨t, s, c⟩) ∧ Kp W w' :=
  (rtake_any w.heap.size v M ⟨t, s, c⟩ W h.l h.kp.size hl).mono fun _ _ ⟨v', h1, h2, h3, h4⟩ => ⟨v', h1, h.list h3 h2 h4, h3⟩

theorem Tw.rgive (h : Tw w W lb A L v M) (t s : Int) :
    Calls Try.prog 13 #[v, .int .i64 t, .int .i64 s] W fun e w' => ∃ v', e = .returned (.tuple #[v', .bool (giveB M t s)]) ∧ Tw w w' lb A L v' (giveL M t s) ∧ Kp W w' :=
  (rgive_any w.heap.size v M t s W h.l h.kp.size).mono fun _ _ ⟨v', h1, h2, h3, h4⟩ => ⟨v', h1, h.list h3 h2 h4, h3⟩

theorem Tw.rspend (h : Tw w W lb A L v M) (t : Int) :
    Calls Try.prog 16 #[v, .int .i64 t] W fun e w' => ∃ v', e = .returned v' ∧ Tw w w' lb A L v' (spendL M t) ∧ Kp W w' :=
  (rspend_any w.heap.size v M t W h.l).mono fun _ _ ⟨v', h1, h2, h3⟩ => ⟨v', h1, h.list h3 (h2.low h.kp.size) (fun q hq => .inr (h2.own q hq).1), h3⟩

theorem Tw.rfree (h : Tw w W lb A L v M) (t : Int) :
    Calls Try.prog 20 #[v, .int .i64 t] W fun e w' => ∃ v', e = .returned v' ∧ Tw w w' lb A L v' (freeL M t) ∧ Kp W w' :=
  (rfree_any w.heap.size v M t W h.l).mono fun _ _ ⟨v', h1, h2, h3⟩ => ⟨v', h1, h.list h3 (h2.low h.kp.size) (fun q hq => .inr (h2.own q hq).1), h3⟩

/-- all that is held, held against the list -/
theorem Tw.seen (h : Tw w W lb A L v M) :
    Calls Try.prog 24 #[.pointer (some ⟨lb, 0, none⟩)] W fun e w' => ∃ a c, e = .returned (.slice a L.length c) ∧ Ls w' 53 W.heap.size (.slice a L.length c) L ∧ Tw w w' lb A L v M ∧ Kp W w' :=
  (list_any lb A L W h.x.rep).mono fun _ _ ⟨h1, h2, h3⟩ => ⟨_, _, h1, h2, h.still h3, h3⟩

theorem Tw.same (h : Tw w W lb A L v L) {e : TypeId} {b : Nat} {u : Value} (hu : Ls W e b u L) :
    Calls Try.prog 23 #[u, v] W fun e w' => e = .returned (.bool true) ∧ Tw w w' lb A L v L ∧ Kp W w' :=
  (same_any _ _ _ _ u v L W hu h.l).mono fun _ _ ⟨h1, h2⟩ => ⟨h1, h.still h2, h2⟩

end

end Go.Proofs.Ytlcbgkicooeklaa.LK
