/- Lists of calls as arguments; semaphores beside a list of what is held. -/
import Derived.Test.YtlcbgkicooeklaaLckAns
namespace Go.Proofs.Ytlcbgkicooeklaa.LK
open Go.ChangeShapes Go.WideShapes Go.ChangeAt Go.RowKit Go.Proofs.Ytlcbgkicooeklaa.AR

/-- a call: its kind, its task, its semaphore, its cycles -/
structure Op4 where
  k : Int
  t : Int
  s : Int
  c : Int

def opOf (r : List Int) : Op4 := ⟨r.getD 0 0, r.getD 1 0, r.getD 2 0, r.getD 3 0⟩
def atO (rows : List (List Int)) (i : Nat) : Op4 := opOf (rows.getD i [])

/-- a call lies there -/
structure C4 (w : World) (g o : Nat) (x : Op4) : Prop where
  k : w.cell? ⟨g, o, none⟩ = some (.int .i64 x.k)
  t : w.cell? ⟨g, o + 1, none⟩ = some (.int .i64 x.t)
  s : w.cell? ⟨g, o + 2, none⟩ = some (.int .i64 x.s)
  c : w.cell? ⟨g, o + 3, none⟩ = some (.int .i64 x.c)

theorem rec_c4 {w : World} {ao : Option Addr} {len : Nat} {rows : List (List Int)} {k : Nat} (h : RecAt w 4 ao len rows) (hk : k < len) :
    ∃ b off, ao = some ⟨b, off, none⟩ ∧ b < w.heap.size ∧ ∀ W', Kp w W' → b < W'.heap.size ∧ C4 W' b (off + k * 4) (atO rows k) := by
  rcases h.2.2 with h0 | ⟨b, off, e, hb, hc⟩
  · omega
  · refine ⟨b, off, e, hb, fun W' kp => ⟨Nat.lt_of_lt_of_le hb kp.size, ?_⟩⟩
    have q : ∀ j, W'.cell? ⟨b, j, none⟩ = w.cell? ⟨b, j, none⟩ := fun j => kp.cell hb (fun q => q)
    exact ⟨(q _).trans (hc k 0 hk (by omega)), (q _).trans (hc k 1 hk (by omega)), (q _).trans (hc k 2 hk (by omega)), (q _).trans (hc k 3 hk (by omega))⟩

/-- a block with a call -/
structure B4 (w : World) (g : Nat) (x : Op4) : Prop where
  blk : w.heap[g]? = some (.cells #[.int .i64 x.k, .int .i64 x.t, .int .i64 x.s, .int .i64 x.c] 28 (0, 0))
theorem B4.lt {w : World} {g : Nat} {x : Op4} (h : B4 w g x) : g < w.heap.size := lt_blk h.blk
theorem B4.all {w : World} {g : Nat} {x : Op4} (h : B4 w g x) : w.cell? ⟨g, 0, none⟩ = some (.int .i64 x.k) ∧ w.cell? ⟨g, 1, none⟩ = some (.int .i64 x.t) ∧ w.cell? ⟨g, 2, none⟩ = some (.int .i64 x.s) ∧ w.cell? ⟨g, 3, none⟩ = some (.int .i64 x.c) := by simp [World.cell?, h.blk]
theorem B4.kept {A : Nat → Prop} {w w' : World} {g : Nat} {x : Op4} (h : B4 w g x) (k : Step A w w') (hA : ¬ A g) : B4 w' g x := ⟨(k.block g h.lt hA).trans h.blk⟩
theorem B4.kp {w w' : World} {g : Nat} {x : Op4} (h : B4 w g x) (k : Kp w w') : B4 w' g x := h.kept k (fun q => q)
theorem b4_new {w W : World} {x : Op4} (e : W = w.alloc (.cells #[.int .i64 x.k, .int .i64 x.t, .int .i64 x.s, .int .i64 x.c] 28)) : Kp w W ∧ B4 W w.heap.size x := by
  subst e
  exact ⟨(Step.refl _ w).alloc _, ⟨alloc_at w _⟩⟩

/-- semaphores beside a list -/
structure Tw (w W : World) (lb : Nat) (A : Nat → Prop) (L : List Hd) (v : Value) (M : List Hd) : Prop where
  x : LkOf w W lb A L
  l : Ls W 33 w.heap.size v M
  ap : ∀ k, v.ownBlock = some k → ¬ A k

theorem Tw.kp {w W : World} {lb : Nat} {A : Nat → Prop} {L : List Hd} {v : Value} {M : List Hd} (h : Tw w W lb A L v M) : Kp w W := h.x.kp
theorem Tw.still {w W W' : World} {lb : Nat} {A : Nat → Prop} {L : List Hd} {v : Value} {M : List Hd} (h : Tw w W lb A L v M) (k : Kp W W') : Tw w W' lb A L v M := ⟨h.x.still k, h.l.kp k, h.ap⟩
/-- the semaphores were called; a box b beside them stays -/
theorem Tw.went {w W W' : World} {lb : Nat} {A : Nat → Prop} {L L' : List Hd} {v : Value} {M : List Hd} (h : Tw w W lb A L v M) (q : LWent W lb A L' W') : ∃ B, Tw w W' lb B L' v M ∧ ∀ b x, ¬ A b → B4 W b x → ¬ B b ∧ B4 W' b x := by
  obtain ⟨B, r, s, o⟩ := q
  have hl : Ls W' 33 w.heap.size v M := h.l.kept s h.ap
  refine ⟨B, ⟨⟨r, Step.trans_new h.x.kp s (fun i hi e => by have := h.x.lo i e; omega), fun k hk => ?_⟩, hl, fun k hk q => h.ap k hk (o k (h.l.own k hk).2 q)⟩, fun b x hb hx => ⟨fun q => hb (o b hx.lt q), hx.kept s hb⟩⟩
  by_cases hlt : k < W.heap.size
  · exact h.x.lo k (o k hlt hk)
  · have := h.x.kp.size; omega
/-- another list -/
theorem Tw.list {w W W' : World} {lb : Nat} {A : Nat → Prop} {L : List Hd} {v v' : Value} {M M' : List Hd} (h : Tw w W lb A L v M) (k : Kp W W') (l : Ls W' 33 w.heap.size v' M') (o : ∀ q, v'.ownBlock = some q → v.ownBlock = some q ∨ W.heap.size ≤ q) : Tw w W' lb A L v' M' := by
  refine ⟨h.x.still k, l, fun q hq hA => ?_⟩
  rcases o q hq with e | e
  · exact h.ap q e hA
  · have := h.x.rep.lt q hA; omega
theorem Tw.as {w W : World} {lb : Nat} {A : Nat → Prop} {L L' : List Hd} {v : Value} {M M' : List Hd} (h : Tw w W lb A L v M) (e : L = L') (e' : M = M') : Tw w W lb A L' v M' := e ▸ e' ▸ h
theorem tw_new {w W : World} {lb : Nat} {A : Nat → Prop} {L : List Hd} (h : LkOf w W lb A L) : Tw w W lb A L (.slice none 0 0) [] := ⟨h, ls_nil _ _ _, fun k hk => by simp [Value.ownBlock] at hk⟩

end Go.Proofs.Ytlcbgkicooeklaa.LK
