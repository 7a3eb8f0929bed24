/- Two copies of a task beside it: what lies where, and what stays when one of them is written to. -/
import Derived.Test.YtgdjdhkehgjgfaaTskAns
import Derived.Test.YtgdjdhkehgjgfaaTskSame
namespace Go.Proofs.Ytgdjdhkehgjgfaa.TK
open Go.ChangeShapes Go.WideShapes Go.ChangeAt Go.RowKit Go.Proofs.Ytgdjdhkehgjgfaa.AR Go.Proofs.Ytgdjdhkehgjgfaa.TB

theorem apart_of {w1 w2 : World} {b1 b2 : Nat} {sa da : Option Addr} {sl dl : Nat} {sz dz : List Int} (rS : Row w1 b1 sa sl sz) (rD : Row w2 b2 da dl dz) (hb : w1.heap.size ≤ b2) : Apt sa sl da dl := by
  rcases rS.lie with h0 | ⟨g, e, _, hg⟩
  · exact .inl h0
  · rcases rD.lie with h0 | ⟨g', e', hb', hg'⟩
    · exact .inr (.inl h0)
    · exact .inr (.inr ⟨g, g', e, e', by have := lt_blk hg; omega⟩)

theorem Apt.sym {sa da : Option Addr} {sl dl : Nat} (h : Apt sa sl da dl) : Apt da dl sa sl := by
  rcases h with h | h | ⟨g, g', e, e', n⟩
  · exact .inr (.inl h)
  · exact .inl h
  · exact .inr (.inr ⟨g', g, e', e, Ne.symm n⟩)

/-- a task's block is none of a list's: a store into it leaves the list -/
theorem Row.past {w : World} {base : Nat} {ao : Option Addr} {len : Nat} {zs : List Int} (h : Row w base ao len zs) {g : Nat} {a b c d : Value} (u : B4 w g a b c d) (x y z v : Value) :
    Row ((((w.setCell ⟨g, 0, none⟩ x).setCell ⟨g, 1, none⟩ y).setCell ⟨g, 2, none⟩ z).setCell ⟨g, 3, none⟩ v) base ao len zs := by
  refine ⟨h.ln, h.ok, h.by', h.lie.imp (fun q => q) (fun ⟨g', e, h1, hg⟩ => ⟨g', e, h1, ?_⟩)⟩
  have hne : g' ≠ g := by
    rintro rfl
    have := hg.symm.trans u.blk
    simp at this
  rw [set_other _ ⟨g, 3, none⟩ _ hne, set_other _ ⟨g, 2, none⟩ _ hne, set_other _ ⟨g, 1, none⟩ _ hne, set_other _ ⟨g, 0, none⟩ _ hne]
  exact hg

theorem B4.past {w : World} {g h : Nat} {a b c d : Value} (k : B4 w h a b c d) (hne : h ≠ g) (x y z v : Value) :
    B4 ((((w.setCell ⟨g, 0, none⟩ x).setCell ⟨g, 1, none⟩ y).setCell ⟨g, 2, none⟩ z).setCell ⟨g, 3, none⟩ v) h a b c d :=
  (((k.other (p := ⟨g, 0, none⟩) hne x).other (p := ⟨g, 1, none⟩) hne y).other (p := ⟨g, 2, none⟩) hne z).other (p := ⟨g, 3, none⟩) hne v

theorem kp_four {w V : World} (k : Kp w V) {g : Nat} (hg : w.heap.size ≤ g) (x y z v : Value) : Kp w ((((V.setCell ⟨g, 0, none⟩ x).setCell ⟨g, 1, none⟩ y).setCell ⟨g, 2, none⟩ z).setCell ⟨g, 3, none⟩ v) :=
  (((k.setCell (p := ⟨g, 0, none⟩) hg x).setCell (p := ⟨g, 1, none⟩) hg y).setCell (p := ⟨g, 2, none⟩) hg z).setCell (p := ⟨g, 3, none⟩) hg v

/-- a list's numbers, one of them turned -/
theorem Row.set {w : World} {base : Nat} {ao : Option Addr} {len : Nat} {zs : List Int} (h : Row w base ao len zs) {g k : Nat} (e : ao = some ⟨g, 0, none⟩) {v : Int} (hv : I64 v) : Row (w.setCell ⟨g, k, none⟩ (.int .i64 v)) base ao len (zs.set k v) := by
  refine ⟨by rw [List.length_set]; exact h.ln, ?_, h.by', h.lie.imp (fun q => q) (fun ⟨g', e', h1, hg⟩ => ⟨g', e', h1, ?_⟩)⟩
  · intro z hz
    rcases List.mem_or_eq_of_mem_set hz with q | q
    · exact h.ok z q
    · subst q; exact hv
  · have : g' = g := by rw [e] at e'; cases e'; rfl
    subst this
    rw [heap_setCell_same w g' k _ _ _ hg]
    congr 2
    apply Array.ext'
    simp [List.map_set]

theorem Row.turn {w : World} {base : Nat} {ao ao' : Option Addr} {len len' : Nat} {zs : List Int} (h : Row w base ao len zs) (ap : Apt ao' len' ao len) {g k : Nat} (e : ao' = some ⟨g, 0, none⟩) (hk : k < len') (v : Value) : Row (w.setCell ⟨g, k, none⟩ v) base ao len zs := by
  refine ⟨h.ln, h.ok, h.by', ?_⟩
  rcases ap with q | q | ⟨g1, g2, e1, e2, n⟩
  · omega
  · exact .inl q
  · refine h.lie.imp (fun q => q) (fun ⟨g', e', h1, hg⟩ => ⟨g', e', h1, ?_⟩)
    rw [e] at e1
    cases e1
    rw [e'] at e2
    cases e2
    rw [set_other]
    · exact hg
    · simpa using Ne.symm n

/-- a list's block is none of a task's -/
theorem B4.turn {w : World} {base : Nat} {ao : Option Addr} {len : Nat} {zs : List Int} (r : Row w base ao len zs) {g k h : Nat} {a b c d : Value} (u : B4 w h a b c d) (e : ao = some ⟨g, 0, none⟩) (hk : k < len) (v : Value) : B4 (w.setCell ⟨g, k, none⟩ v) h a b c d := by
  refine u.other ?_ v
  rcases r.lie with h0 | ⟨g', e', _, hg⟩
  · omega
  · rw [e] at e'
    cases e'
    rintro rfl
    have := hg.symm.trans u.blk
    simp at this

/-- the two copies are made, their variables not yet written -/
structure Pre2 (w V : World) (t : Tk) (gu gv : Nat) (sa da sb db : Option Addr) : Prop where
  kp : Kp w V
  x : TB4 V w.heap.size t
  u : B4 V gu (.int .i64 0) (.int .i64 0) (.slice none 0 0) (.slice none 0 0)
  v : B4 V gv (.int .i64 0) (.int .i64 0) (.slice none 0 0) (.slice none 0 0)
  nu : w.heap.size < gu
  nv : w.heap.size < gv
  uv : gu ≠ gv
  us : Row V w.heap.size sa t.sl t.sz
  ud : Row V w.heap.size da t.dl t.dz
  vs : Row V w.heap.size sb t.sl t.sz
  vd : Row V w.heap.size db t.dl t.dz
  a1 : Apt sa t.sl da t.dl
  a2 : Apt sa t.sl sb t.sl
  a3 : Apt sa t.sl db t.dl
  a4 : Apt da t.dl sb t.sl
  a5 : Apt da t.dl db t.dl

/-- two copies beside a task; the first one's numbers are zs, ds -/
structure Own2 (w V : World) (t : Tk) (gu gv : Nat) (sa da sb db : Option Addr) (zs ds : List Int) : Prop where
  kp : Kp w V
  x : TB4 V w.heap.size t
  u : B4 V gu (.int .i64 t.p) (.int .i64 t.c) (.slice sa t.sl t.sl) (.slice da t.dl t.dl)
  v : B4 V gv (.int .i64 t.p) (.int .i64 t.c) (.slice sb t.sl t.sl) (.slice db t.dl t.dl)
  us : Row V w.heap.size sa t.sl zs
  ud : Row V w.heap.size da t.dl ds
  vs : Row V w.heap.size sb t.sl t.sz
  vd : Row V w.heap.size db t.dl t.dz
  a1 : Apt sa t.sl da t.dl
  a2 : Apt sa t.sl sb t.sl
  a3 : Apt sa t.sl db t.dl
  a4 : Apt da t.dl sb t.sl
  a5 : Apt da t.dl db t.dl

theorem Own2.kept {w V V' : World} {t : Tk} {gu gv : Nat} {sa da sb db : Option Addr} {zs ds : List Int} (h : Own2 w V t gu gv sa da sb db zs ds) (k : Kp V V') : Own2 w V' t gu gv sa da sb db zs ds :=
  ⟨h.kp.trans k, h.x.kp k, h.u.kp k, h.v.kp k, h.us.kept k, h.ud.kept k, h.vs.kept k, h.vd.kept k, h.a1, h.a2, h.a3, h.a4, h.a5⟩

/-- the first variable is written -/
theorem Pre2.one {w V : World} {t : Tk} {gu gv : Nat} {sa da sb db : Option Addr} (h : Pre2 w V t gu gv sa da sb db) :
    ∃ V', Hid (V' = (((V.setCell ⟨gu, 0, none⟩ (.int .i64 t.p)).setCell ⟨gu, 1, none⟩ (.int .i64 t.c)).setCell ⟨gu, 2, none⟩ (.slice sa t.sl t.sl)).setCell ⟨gu, 3, none⟩ (.slice da t.dl t.dl)) ∧ TB4 V' w.heap.size t ∧ B4 V' gv (.int .i64 0) (.int .i64 0) (.slice none 0 0) (.slice none 0 0) ∧
      ∃ V'', Hid (V'' = (((V'.setCell ⟨gv, 0, none⟩ (.int .i64 t.p)).setCell ⟨gv, 1, none⟩ (.int .i64 t.c)).setCell ⟨gv, 2, none⟩ (.slice sb t.sl t.sl)).setCell ⟨gv, 3, none⟩ (.slice db t.dl t.dl)) ∧ TB4 V'' w.heap.size t ∧ Own2 w V'' t gu gv sa da sb db t.sz t.dz := by
  have v' := h.v.past (Ne.symm h.uv) (.int .i64 t.p) (.int .i64 t.c) (.slice sa t.sl t.sl) (.slice da t.dl t.dl)
  have x' := h.x.past (Nat.ne_of_lt h.nu) (.int .i64 t.p) (.int .i64 t.c) (.slice sa t.sl t.sl) (.slice da t.dl t.dl)
  have u' := h.u.setAll (.int .i64 t.p) (.int .i64 t.c) (.slice sa t.sl t.sl) (.slice da t.dl t.dl)
  have x'' := x'.past (Nat.ne_of_lt h.nv) (.int .i64 t.p) (.int .i64 t.c) (.slice sb t.sl t.sl) (.slice db t.dl t.dl)
  refine ⟨_, rfl, x', v', _, rfl, x'', kp_four (kp_four h.kp (Nat.le_of_lt h.nu) _ _ _ _) (Nat.le_of_lt h.nv) _ _ _ _, x'', u'.past h.uv _ _ _ _, v'.setAll _ _ _ _, ?_, ?_, ?_, ?_, h.a1, h.a2, h.a3, h.a4, h.a5⟩
  · exact (h.us.past h.u _ _ _ _).past v' _ _ _ _
  · exact (h.ud.past h.u _ _ _ _).past v' _ _ _ _
  · exact (h.vs.past h.u _ _ _ _).past v' _ _ _ _
  · exact (h.vd.past h.u _ _ _ _).past v' _ _ _ _

theorem Own2.setS {w V : World} {t : Tk} {gu gv : Nat} {sa da sb db : Option Addr} {zs ds : List Int} (h : Own2 w V t gu gv sa da sb db zs ds) {g k : Nat} (e : sa = some ⟨g, 0, none⟩) (hk : k < t.sl) {v : Int} (hv : I64 v) : Own2 w (V.setCell ⟨g, k, none⟩ (.int .i64 v)) t gu gv sa da sb db (zs.set k v) ds := by
  have hg : w.heap.size ≤ g := by
    rcases h.us.lie with q | ⟨g', e', hb, _⟩
    · omega
    · rw [e] at e'; cases e'; exact hb
  exact ⟨h.kp.setCell (p := ⟨g, k, none⟩) hg _, B4.turn h.us h.x e hk _, B4.turn h.us h.u e hk _, B4.turn h.us h.v e hk _, h.us.set e hv, h.ud.turn h.a1 e hk _, h.vs.turn h.a2 e hk _, h.vd.turn h.a3 e hk _, h.a1, h.a2, h.a3, h.a4, h.a5⟩

theorem Own2.setD {w V : World} {t : Tk} {gu gv : Nat} {sa da sb db : Option Addr} {zs ds : List Int} (h : Own2 w V t gu gv sa da sb db zs ds) {g k : Nat} (e : da = some ⟨g, 0, none⟩) (hk : k < t.dl) {v : Int} (hv : I64 v) : Own2 w (V.setCell ⟨g, k, none⟩ (.int .i64 v)) t gu gv sa da sb db zs (ds.set k v) := by
  have hg : w.heap.size ≤ g := by
    rcases h.ud.lie with q | ⟨g', e', hb, _⟩
    · omega
    · rw [e] at e'; cases e'; exact hb
  exact ⟨h.kp.setCell (p := ⟨g, k, none⟩) hg _, B4.turn h.ud h.x e hk _, B4.turn h.ud h.u e hk _, B4.turn h.ud h.v e hk _, h.us.turn h.a1.sym e hk _, h.ud.set e hv, h.vs.turn h.a4 e hk _, h.vd.turn h.a5 e hk _, h.a1, h.a2, h.a3, h.a4, h.a5⟩

/-- one of a list's numbers, and that it may be written -/
theorem Row.one {w : World} {base : Nat} {ao : Option Addr} {len : Nat} {zs : List Int} (h : Row w base ao len zs) {k : Nat} (hk : k < len) : ∃ g, ao = some ⟨g, 0, none⟩ ∧ g < w.heap.size ∧ w.cell? ⟨g, k, none⟩ = some (.int .i64 (zs.getD k 0)) ∧ w.frozen? ⟨g, k, none⟩ = false := by
  rcases h.lie with h0 | ⟨g, e, _, hg⟩
  · omega
  · have hl : k < zs.length := by rw [h.ln]; exact hk
    exact ⟨g, e, lt_blk hg, by simp [World.cell?, hg, List.getD_eq_getElem?_getD, List.getElem?_eq_getElem hl], by simp [World.frozen?, hg]⟩

theorem xor_in (x y : Int) : I64 (bits .xor .i64 x y) := by
  have e : bits .xor .i64 x y = IntKind.i64.wrap ((BitVec.ofInt 64 x ^^^ BitVec.ofInt 64 y).toNat : Nat) := rfl
  rw [e, IntKind.wrap_i64]
  unfold I64
  omega

/-- as the region leaves it -/
def Own2R (w V : World) (t : Tk) (a b : Value) : Prop := ∃ gu gv sa da sb db, a = .pointer (some ⟨gu, 0, none⟩) ∧ b = .pointer (some ⟨gv, 0, none⟩) ∧ Own2 w V t gu gv sa da sb db t.sz t.dz

end Go.Proofs.Ytgdjdhkehgjgfaa.TK
