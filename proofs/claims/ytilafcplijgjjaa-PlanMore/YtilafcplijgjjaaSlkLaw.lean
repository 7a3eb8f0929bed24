/- What the statements ask of every program, and their own functions: walked. -/
import Derived.Test.YtilafcplijgjjaaSlkRAt
import Derived.Test.YtilafcplijgjjaaAdmAns
namespace Go.Proofs.Ytilafcplijgjjaa.SK
open Go.ChangeShapes Go.WideShapes Go.ChangeAt Go.RowKit Go.Proofs.Ytilafcplijgjjaa.AR Go.Proofs.Ytilafcplijgjjaa.TB Go.Proofs.Ytilafcplijgjjaa.TK Go.Proofs.Ytilafcplijgjjaa.JB Go.Proofs.Ytilafcplijgjjaa.FX Go.Proofs.Ytilafcplijgjjaa.AD
open Go.Proofs.Ytilafcplijgjjaa.LK (Hd atH HsAt C3)

/-! ### the same, wherever what is held lies -/

section
variable {v : Vw} {ao : Option Addr} {c : Nat}
theorem tsksB_setH {h : Hd} {a : Int} : ∀ {k : Nat}, tsksB (v.setH ao v.hl c v.H) h a k = tsksB v h a k
  | 0 => rfl
  | k + 1 => by
    have e : tskB (v.setH ao v.hl c v.H) h a k = tskB v h a k := rfl
    simp only [tsksB, tsksB_setH (k := k), e]
theorem cntB_setH {h : Hd} {a : Int} : cntB (v.setH ao v.hl c v.H) h a = cntB v h a := by
  have e : lateB (v.setH ao v.hl c v.H) h a = lateB v h a := rfl
  have e2 : (v.setH ao v.hl c v.H).tl = v.tl := rfl
  simp only [cntB, e, e2, tsksB_setH]
theorem lng_setH {a : Int} : ∀ {k : Nat}, lng (v.setH ao v.hl c v.H) a k = lng v a k
  | 0 => rfl
  | k + 1 => by
    have e : (v.setH ao v.hl c v.H).H = v.H := rfl
    simp only [lng, lng_setH (k := k), e, cntB_setH]
theorem hnI_setH {a : Int} : hnI (v.setH ao v.hl c v.H) a = hnI v a := by
  have e : (v.setH ao v.hl c v.H).hl = v.hl := rfl
  have e2 : (v.setH ao v.hl c v.H).m = v.m := rfl
  simp only [hnI, e, e2, lng_setH]
theorem qs_setH {a : Int} : ∀ {k : Nat}, qs (v.setH ao v.hl c v.H) a k = qs v a k
  | 0 => rfl
  | k + 1 => by
    have e : (v.setH ao v.hl c v.H).J = v.J := rfl
    have e2 : (v.setH ao v.hl c v.H).m = v.m := rfl
    simp only [qs, qs_setH (k := k), e, e2]
theorem toc_setH {a : Int} : ∀ {k : Nat}, toc (v.setH ao v.hl c v.H) a k = toc v a k
  | 0 => rfl
  | k + 1 => by
    have e : (v.setH ao v.hl c v.H).T = v.T := rfl
    have e2 : ptI (v.setH ao v.hl c v.H) k = ptI v k := rfl
    have e3 : coI (v.setH ao v.hl c v.H) k = coI v k := rfl
    simp only [toc, toc_setH (k := k), e, e2, e3]
theorem atI_setH {a : Int} : atI (v.setH ao v.hl c v.H) a = atI v a := by
  have e : (v.setH ao v.hl c v.H).tl = v.tl := rfl
  have e2 : (v.setH ao v.hl c v.H).jl = v.jl := rfl
  have e3 : (v.setH ao v.hl c v.H).now = v.now := rfl
  simp only [atI, qnI, e, e2, e3, hnI_setH, qs_setH, toc_setH]
theorem dts_setH : ∀ {k : Nat}, dts (v.setH ao v.hl c v.H) k = dts v k
  | 0 => rfl
  | k + 1 => by
    have e : (v.setH ao v.hl c v.H).T = v.T := rfl
    have e3 : ndI (v.setH ao v.hl c v.H) k = ndI v k := rfl
    simp only [dts, dts_setH (k := k), e, e3]
theorem lsI_setH {f : Int} : lsI (v.setH ao v.hl c v.H) f = lsI v f := by
  have e : (v.setH ao v.hl c v.H).tl = v.tl := rfl
  have e2 : djs (v.setH ao v.hl c v.H) (v.setH ao v.hl c v.H).jl = djs v v.jl := rfl
  have e4 : (fun (x d : Int) => if f ≤ d then mn x (atI (v.setH ao v.hl c v.H) d) else x) = fun (x d : Int) => if f ≤ d then mn x (atI v d) else x := by
    funext x d
    rw [atI_setH]
  simp only [lsI, lsM, dls, e, e2, dts_setH, e4]
theorem VG.setH (g : VG v) : VG (v.setH ao v.hl c v.H) := ⟨g.b, g.n, g.nl, g.tk, g.now, g.nx, g.jb, g.jo, g.jn, g.hd⟩
theorem VL.setH {w : World} (h : VL w v) (q : HsAt w ao v.hl v.H) : VL w (v.setH ao v.hl c v.H) := ⟨h.m, h.t, h.n, h.j, q, h.hy⟩
end

/-! ### what is held, as the program's -/

theorem ls_more {w W W1 W' : World} {e : TypeId} {v v' : Value} {L L' : List Hd} (h : LK.Ls W e w.heap.size v L) (k : Kp w W) (k1 : Kp W W1) (hr : W'.ownsRow w.heap.size e 3 v' L'.length (LK.flatH L')) (hl : L'.length ≤ 5864062014805) (hg : W1.grownBy W' v.ownBlock) : LK.Ls W' e w.heap.size v' L' ∧ Kp w W' := by
  have hs : LK.Step (fun q => v.ownBlock = some q) W W' := (LK.kp_of_tb k1).any.grown hg (fun q hq => hq)
  exact ⟨⟨hr, hl⟩, (LK.Step.trans_new (LK.kp_of_tb k) hs (fun i hi q => by have := (h.own i q).1; omega)).tb⟩

theorem take_snocH {L : List Hd} {k : Nat} (h : k < L.length) : L.take (k + 1) = L.take k ++ [atH L k] := by
  rw [List.take_succ_eq_append_getElem h, LK.atH_get h]

/-- a list of its own, with the same that is held -/
def HldR (w : World) (hl : Nat) (H : List Hd) (e : Ending) (w' : World) : Prop := ∃ ao cap, e = .returned (.slice ao hl cap) ∧ HsAt w' ao hl H ∧ Kp w w'

/-! ### what is asked of every program -/

abbrev sT : Tk := ⟨4, 1, none, 0, 0, [], none, 0, 0, []⟩
/-- a machine with a task that may come at 0; one without a task -/
abbrev vA (h t n : Nat) : Vw := ⟨aM h, some ⟨t, 0, none⟩, 1, 1, [sT], some ⟨n, 0, none⟩, 1, 1, [0], none, 0, 0, [], none, 0, 0, [], 0⟩
abbrev vB (h : Nat) : Vw := ⟨aM h, none, 0, 0, [], none, 0, 0, [], none, 0, 0, [], none, 0, 0, [], 0⟩

theorem va_least (h t n : Nat) : lsI (vA h t n) 0 = 12884901888 := by rfl
theorem va_at (h t n : Nat) : atI (vA h t n) 8 = 25769803776 := by rfl
theorem vb_least (h : Nat) : lsI (vB h) 0 = 4611686018427387904 := by rfl

theorem va_good (h t n : Nat) : VG (vA h t n) := by
  refine ⟨ans_bd h, by simp, rfl, fun x hx => ?_, by simp, fun k hk => ?_, fun j hj => by simp at hj, fun i k x y hi => by simp at hi, by simp, fun x hx => by simp at hx⟩
  · simp only [List.mem_cons, List.not_mem_nil, or_false] at hx
    subst hx
    exact ⟨⟨by simp, fun k hk => by simp at hk⟩, by simp, by simp, by simp⟩
  · obtain rfl : k = 0 := by simp at hk; omega
    simp
theorem vb_good (h : Nat) : VG (vB h) := ⟨ans_bd h, by simp, rfl, fun x hx => by simp at hx, by simp, fun k hk => by simp at hk, fun j hj => by simp at hj, fun i k x y hi => by simp at hi, by simp, fun x hx => by simp at hx⟩

/-- the blocks that are made -/
structure Asl (h : Nat) (W : World) : Prop where
  l : W.heap[h]? = some (.cells #[.int .i64 1, .int .i64 0] 56 (0, 0))
  p : B9 W (h + 1) (aM h)
  t : W.heap[h + 1 + 1]? = some (.cells #[.int .i64 4, .int .i64 1, .slice none 0 0, .slice none 0 0] 39 (0, 0))
theorem Asl.kp {h : Nat} {W W' : World} (a : Asl h W) (k : Kp W W') : Asl h W' := ⟨kp_block a.l k, a.p.kp k, kp_block a.t k⟩

theorem asl_new (w : World) : ∃ W0, Hid (W0 = ((w.alloc (.cells #[.int .i64 1, .int .i64 0] 56)).alloc (.cells #[.slice (some ⟨w.heap.size, 0, none⟩) 1 1, .slice none 0 0, .slice none 0 0, .int .i64 0, .int .i64 0, .int .i64 0, .int .i64 0, .int .i64 0, .int .i64 50] 26)).alloc
      (.cells #[.int .i64 4, .int .i64 1, .slice none 0 0, .slice none 0 0] 39)) ∧ Asl w.heap.size W0 ∧ Kp w W0 := by
  refine ⟨_, rfl, ⟨kp_block (heap_alloc_at _ _) (((Kp.refl _).alloc _).alloc _), ⟨kp_block (w := (w.alloc (.cells #[.int .i64 1, .int .i64 0] 56)).alloc (.cells #[.slice (some ⟨w.heap.size, 0, none⟩) 1 1, .slice none 0 0, .slice none 0 0, .int .i64 0, .int .i64 0, .int .i64 0, .int .i64 0, .int .i64 0, .int .i64 50] 26)) (alloc2_at _ _ _) ((Kp.refl _).alloc _)⟩, ?_⟩, (((Kp.refl _).alloc _).alloc _).alloc _⟩
  have h := heap_alloc_at ((w.alloc (.cells #[.int .i64 1, .int .i64 0] 56)).alloc (.cells #[.slice (some ⟨w.heap.size, 0, none⟩) 1 1, .slice none 0 0, .slice none 0 0, .int .i64 0, .int .i64 0, .int .i64 0, .int .i64 0, .int .i64 0, .int .i64 50] 26)) (.cells #[.int .i64 4, .int .i64 1, .slice none 0 0, .slice none 0 0] 39)
  rw [World.size_alloc, World.size_alloc] at h
  exact h

theorem no_hs (W : World) : HsAt W none 0 [] := ⟨rfl, .inl rfl⟩
theorem no_js (W : World) : JsAt W none 0 [] := ⟨rfl, fun j hj => by simp at hj, .inl rfl, by omega⟩
theorem no_ts (W : World) : LAt W none 0 [] := ⟨rfl, fun j hj => by simp at hj, .inl rfl, by omega⟩

theorem va_lies {h : Nat} {W : World} (a : Asl h W) (o : Obj) (e : o = .cells #[.int .i64 0] 3) : VL (W.alloc o) (vA h (h + 1 + 1) W.heap.size) := by
  subst e
  have k : Kp W (W.alloc (.cells #[.int .i64 0] 3)) := (Kp.refl _).alloc _
  refine ⟨an_at (a.kp k).l, RW.lat_block (a.kp k).t rfl rfl (fun t ht => ?_) (by simp), RW.nat_block (heap_alloc_at _ _) rfl rfl (fun z hz => ?_) (by simp), no_js _, no_hs _, by simp⟩
  · simp only [List.mem_cons, List.not_mem_nil, or_false] at ht
    subst ht
    exact ⟨RW.no_nums _ _, RW.no_nums _ _⟩
  · simp only [List.mem_cons, List.not_mem_nil, or_false] at hz
    subst hz
    unfold I64; omega
theorem vb_lies {h : Nat} {W : World} (a : Asl h W) : VL W (vB h) := ⟨an_at a.l, no_ts _, RW.no_nums _ _, no_js _, no_hs _, by simp⟩

end Go.Proofs.Ytilafcplijgjjaa.SK
