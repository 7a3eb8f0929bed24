/- Timers beside a list: what each call makes of the two. -/
import Derived.Test.YtbicaknenphcbaaTRefDue
namespace Go.Proofs.Ytbicaknenphcbaa.HW
open Go.ChangeShapes Go.WideShapes Go.ChangeAt Go.RowKit Go.Proofs.Ytbicaknenphcbaa.HP Go.Maps Go.Proofs.Ytbicaknenphcbaa.HM Go.Proofs.Ytbicaknenphcbaa.AR

/-- the timers that were made first have the ids L, the slice v the timers l; what was there ahead of them is as it was -/
structure TwA (W w : World) (v : Value) (l L : List T3) (A : Nat → Prop) : Prop where
  rep : TRep w W.heap.size A L
  lst : Lst3 w W.heap.size v l
  own : ∀ k, A k → W.heap.size ≤ k ∧ k < w.heap.size
  far : ∀ k, v.ownBlock = some k → ¬ A k
  bel : Below W.heap.size W w

def Tw (W w : World) (v : Value) (l L : List T3) : Prop := ∃ A, TwA W w v l L A

theorem tw_new {W w : World} (h : TRep w W.heap.size (fun k => k = W.heap.size) []) (hs : Step (fun _ => False) W w) : Tw W w (.slice none 0 0) [] [] :=
  ⟨_, h, lst3_nil _ _, fun k hk => by have := h.lt; omega, fun k hk => by simp [Value.ownBlock] at hk, hs.below (Nat.le_refl _) (fun _ _ q => q)⟩

theorem trep_own {w w' : World} {tb n : Nat} {A A' : Nat → Prop} {L : List T3} (h : TRep w' tb A' L) (hA : ∀ k, A k → n ≤ k) (own : ∀ k, k < w.heap.size → A' k → A k) (hn : n ≤ w.heap.size) : TRep w' tb (fun k => A' k ∧ n ≤ k ∧ k < w'.heap.size) L := by
  have hge : ∀ k, A' k → n ≤ k := fun k hk => by
    by_cases e : k < w.heap.size
    · exact hA k (own k e hk)
    · omega
  refine ⟨⟨h.1, hge _ h.1, h.lt⟩, ?_⟩
  rcases h.2 with h2 | ⟨hb, bm, B, D, m, am, aB⟩
  · exact .inl h2
  · refine .inr ⟨hb, bm, fun k => B k ∧ k < w'.heap.size, D, ⟨m.blk, ?_, m.map, m.ties, fun q => m.off.1 q.1, fun q => m.off.2 q.1⟩, ⟨am, hge _ am, m.ltB⟩, fun k hk => ⟨aB k hk.1, hge k (aB k hk.1), hk.2⟩⟩
    refine ⟨⟨m.rep.1, m.rep.lt⟩, ?_⟩
    rcases m.rep.2 with r2 | ⟨g, cap, bm', D', es, mm, ag, ab, ho, hpe⟩
    · exact .inl r2
    · exact .inr ⟨g, cap, bm', D', es, mm, ⟨ag, mm.ltG⟩, ⟨ab, mm.ltB⟩, ho, hpe⟩

/-- the timers have been called -/
theorem TwA.went {W w w' : World} {v : Value} {l L L' : List T3} {A : Nat → Prop} (h : TwA W w v l L A) (hw : TWent w W.heap.size A L' w') : Tw W w' v l L' := by
  obtain ⟨A', r', m'⟩ := hw
  have hz := h.bel.size
  refine ⟨fun k => A' k ∧ W.heap.size ≤ k ∧ k < w'.heap.size, trep_own r' (fun k hk => (h.own k hk).1) m'.own hz, h.lst.kept m'.stp h.far, fun k hk => hk.2, fun k hk q => ?_, ?_⟩
  · have hlt := (h.lst.row.lt k hk).2
    exact h.far k hk (m'.own k hlt q.1)
  · exact h.bel.trans (m'.stp.below hz (fun k hk q => by have := (h.own k q).1; omega))

/-- nothing has turned -/
theorem TwA.still {W w w' : World} {v : Value} {l L : List T3} {A : Nat → Prop} (h : TwA W w v l L A) (hs : Step (fun _ => False) w w') : TwA W w' v l L A :=
  ⟨h.rep.kept hs (fun _ _ _ q => q), h.lst.kept hs (fun _ _ q => q), fun k hk => ⟨(h.own k hk).1, Nat.lt_of_lt_of_le (h.own k hk).2 hs.size⟩, h.far, h.bel.trans (hs.below h.bel.size (fun _ _ q => q))⟩

theorem Tw.still {W w w' : World} {v : Value} {l L : List T3} (h : Tw W w v l L) (hs : Step (fun _ => False) w w') : Tw W w' v l L := by
  obtain ⟨A, h⟩ := h
  exact ⟨A, h.still hs⟩

/-- another list, in new memory -/
theorem Tw.list {W w w' : World} {v v' : Value} {l l' L : List T3} (h : Tw W w v l L) (hl : Lst3 w' w.heap.size v' l') (hs : Step (fun _ => False) w w') : Tw W w' v' l' L := by
  obtain ⟨A, h⟩ := h
  have h1 := h.still hs
  exact ⟨A, h1.rep, ⟨row_base hl.row h.bel.size, hl.len⟩, h1.own, fun k hk q => by have := (hl.row.lt k hk).1; have := (h.own k q).2; omega, h1.bel⟩

theorem Tw.bel {W w : World} {v : Value} {l L : List T3} (h : Tw W w v l L) : Below W.heap.size W w := by
  obtain ⟨A, h⟩ := h; exact h.bel
theorem Tw.nodup {W w : World} {v : Value} {l L : List T3} (h : Tw W w v l L) : (idt L).Nodup := by
  obtain ⟨A, h⟩ := h; exact h.rep.nodup
theorem Tw.wf {W w : World} {v : Value} {l L : List T3} (h : Tw W w v l L) : ∀ t ∈ L, W64 t.1 ∧ W64 t.2.1 ∧ W64 t.2.2 := by
  obtain ⟨A, h⟩ := h; exact h.rep.wf
theorem Tw.lst {W w : World} {v : Value} {l L : List T3} (h : Tw W w v l L) : Lst3 w W.heap.size v l := by
  obtain ⟨A, h⟩ := h; exact h.lst
theorem Tw.shape {W w : World} {v : Value} {l L : List T3} (h : Tw W w v l L) : ∃ ao cap, v = .slice ao l.length cap := by
  rcases h.lst.cases with ⟨rfl, rfl⟩ | ⟨g, cap, rfl, _⟩
  · exact ⟨none, 0, rfl⟩
  · exact ⟨_, cap, rfl⟩

/-! ### the calls -/

theorem set2 (W w : World) (v : Value) (l L : List T3) (id a ev : Int) (h : Tw W w v l L) (hi : W64 id) (ha : W64 a) (hv : W64 ev) (hl : L.length + 1 ≤ 8796093022208) :
    Calls Try.prog 10 #[.pointer (some ⟨W.heap.size, 0, none⟩), .int .i64 id, .int .i64 a, .int .i64 ev] w fun e w' => e = .returned (.tuple #[]) ∧ Tw W w' v l (setT L id a ev) := by
  obtain ⟨A, h⟩ := h
  refine (tset_any W.heap.size A L id a ev w h.rep hi ha hv hl).mono ?_
  rintro e w' ⟨rfl, hw⟩
  exact ⟨rfl, h.went hw⟩

theorem cancel2 (W w : World) (v : Value) (l L : List T3) (id : Int) (h : Tw W w v l L) (hi : W64 id) :
    Calls Try.prog 13 #[.pointer (some ⟨W.heap.size, 0, none⟩), .int .i64 id] w fun e w' => e = .returned (.bool (decide (id ∈ idt L))) ∧ Tw W w' v l (dropT L id) := by
  obtain ⟨A, h⟩ := h
  refine (tcancel_any W.heap.size A L id w h.rep hi).mono ?_
  rintro e w' ⟨rfl, hw⟩
  exact ⟨rfl, h.went hw⟩

theorem len2 (W w : World) (v : Value) (l L : List T3) (n : Nat) (h : Tw W w v l L) (hn : L.length = n) :
    Calls Try.prog 15 #[.pointer (some ⟨W.heap.size, 0, none⟩)] w fun e w' => e = .returned (.int .i64 n) ∧ w' = w := by
  obtain ⟨A, h⟩ := h
  subst hn
  exact tlen_any W.heap.size A L w h.rep

theorem due2_none (W w : World) (v : Value) (l L : List T3) (now : Int) (h : Tw W w v l L) (hn : ∀ t ∈ L, now < t.2.1) :
    Calls Try.prog 16 #[.pointer (some ⟨W.heap.size, 0, none⟩), .int .i64 now] w fun e w' => e = .returned (.tuple #[.int .i64 0, .int .i64 0, .bool false]) ∧ Tw W w' v l L := by
  obtain ⟨A, h⟩ := h
  refine (tdue_none W.heap.size A L now w h.rep hn).mono ?_
  rintro e w' ⟨rfl, hs⟩
  exact ⟨rfl, A, h.still hs⟩

theorem due2_some (W w : World) (v : Value) (l L : List T3) (t : T3) (now : Int) (h : Tw W w v l L) (ht : Least L t) (hd : t.2.1 ≤ now) (hm : Mom L) (hl : L.length + 1 ≤ 8796093022208) :
    Calls Try.prog 16 #[.pointer (some ⟨W.heap.size, 0, none⟩), .int .i64 now] w fun e w' => e = .returned (.tuple #[.int .i64 t.1, .int .i64 t.2.1, .bool true]) ∧ Tw W w' v l (nextT L t) := by
  obtain ⟨A, h⟩ := h
  refine (tdue_some W.heap.size A L t now w h.rep ht hd hm hl).mono ?_
  rintro e w' ⟨rfl, hw⟩
  exact ⟨rfl, h.went hw⟩

theorem answers2 (W w : World) (v : Value) (l L : List T3) (h : Tw W w v l L) :
    Calls Try.prog 9 #[] w fun e w' => e = .returned (.bool true) ∧ Tw W w' v l L := by
  refine (tanswers_any w).mono ?_
  rintro e w' ⟨rfl, hs⟩
  exact ⟨rfl, h.still hs⟩

theorem refset2 (W w : World) (v : Value) (l L : List T3) (id a ev : Int) (h : Tw W w v l L) (hl : l.length + 1 ≤ 5864062014805) :
    Calls Try.prog 11 #[v, .int .i64 id, .int .i64 a, .int .i64 ev] w fun e w' => ∃ v', e = .returned v' ∧ Tw W w' v' (setT l id a ev) L := by
  refine (refset_any v l id a ev _ w h.lst (by have := dropT_le l id; omega)).mono ?_
  rintro e w' ⟨v', rfl, hl', hst⟩
  exact ⟨v', rfl, h.list hl' hst⟩

theorem without2 (W w : World) (v : Value) (l L : List T3) (id : Int) (h : Tw W w v l L) :
    Calls Try.prog 12 #[v, .int .i64 id] w fun e w' => ∃ v', e = .returned v' ∧ Tw W w' v' (dropT l id) L := by
  refine (without_any v l id _ w h.lst).mono ?_
  rintro e w' ⟨v', rfl, hl', hst⟩
  exact ⟨v', rfl, h.list hl' hst⟩

end Go.Proofs.Ytbicaknenphcbaa.HW
