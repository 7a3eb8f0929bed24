/- A heap beside a list: what each call makes of the two. -/
import Derived.Test.YtldinhemgmnppaaRefPush
import Derived.Test.YtldinhemgmnppaaArgs
namespace Go.Proofs.Ytldinhemgmnppaa.HW
open Go.ChangeShapes Go.WideShapes Go.ChangeAt Go.RowKit Go.Proofs.Ytldinhemgmnppaa.HP Go.Maps Go.Proofs.Ytldinhemgmnppaa.HM Go.Proofs.Ytldinhemgmnppaa.AR

/-- the heap that was made first has the entries lh, the slice v the pairs l; what was there ahead of the heap is as it was -/
structure TwoA (W w : World) (v : Value) (l lh : List E) (A : Nat → Prop) : Prop where
  rep : Rep w W.heap.size A lh
  lst : Lst w W.heap.size v l
  own : ∀ k, A k → W.heap.size ≤ k ∧ k < w.heap.size
  far : ∀ k, v.ownBlock = some k → ¬ A k
  bel : Below W.heap.size W w

def Two (W w : World) (v : Value) (l lh : List E) : Prop := ∃ A, TwoA W w v l lh A

theorem row_base {w : World} {base base' : Nat} {e : TypeId} {size n : Nat} {v : Value} {xs : List Value} (h : w.ownsRow base e size v n xs) (hb : base' ≤ base) : w.ownsRow base' e size v n xs := by
  refine ⟨h.1, ?_⟩
  rcases h.2 with hn | ⟨g, cap, cur, rfl, hbg, r⟩
  · exact .inl hn
  · exact .inr ⟨g, cap, cur, rfl, Nat.le_trans hb hbg, r⟩

theorem two_new {W w : World} (h : Rep w W.heap.size (fun k => k = W.heap.size) []) (hs : Step (fun _ => False) W w) : Two W w (.slice none 0 0) [] [] :=
  ⟨_, h, lst_nil _ _, fun k hk => by have := h.lt; omega, fun k hk => by simp [Value.ownBlock] at hk, hs.below (Nat.le_refl _) (fun _ _ q => q)⟩

/-- the heap has been called -/
theorem TwoA.went {W w w' : World} {v : Value} {l lh lh' : List E} {A : Nat → Prop} (h : TwoA W w v l lh A) (hw : Went w W.heap.size A lh' w') : Two W w' v l lh' := by
  obtain ⟨A', r', m'⟩ := hw
  have hz := h.bel.size
  refine ⟨fun k => A' k ∧ W.heap.size ≤ k ∧ k < w'.heap.size, ?_, h.lst.kept m'.stp h.far, fun k hk => hk.2, fun k hk q => ?_, ?_⟩
  · refine ⟨⟨r'.1, Nat.le_refl _, r'.lt⟩, ?_⟩
    have hge : ∀ k, A' k → W.heap.size ≤ k := fun k hk => by
      by_cases e : k < w.heap.size
      · exact (h.own k (m'.own k e hk)).1
      · omega
    rcases r'.2 with h2 | ⟨g, cap, bm, D, es, m, ag, ab, ho, hpe⟩
    · exact .inl h2
    · exact .inr ⟨g, cap, bm, D, es, m, ⟨ag, hge g ag, m.ltG⟩, ⟨ab, hge bm ab, m.ltB⟩, ho, hpe⟩
  · have hlt := (h.lst.row.lt k hk).2
    exact h.far k hk (m'.own k hlt q.1)
  · exact h.bel.trans (m'.stp.below hz (fun k hk q => by have := (h.own k q).1; omega))

/-- nothing has turned -/
theorem TwoA.still {W w w' : World} {v : Value} {l lh : List E} {A : Nat → Prop} (h : TwoA W w v l lh A) (hs : Step (fun _ => False) w w') : TwoA W w' v l lh A :=
  ⟨h.rep.kept hs (fun _ _ _ q => q), h.lst.kept hs (fun _ _ q => q), fun k hk => ⟨(h.own k hk).1, Nat.lt_of_lt_of_le (h.own k hk).2 hs.size⟩, h.far, h.bel.trans (hs.below h.bel.size (fun _ _ q => q))⟩

theorem Two.still {W w w' : World} {v : Value} {l lh : List E} (h : Two W w v l lh) (hs : Step (fun _ => False) w w') : Two W w' v l lh := by
  obtain ⟨A, h⟩ := h
  exact ⟨A, h.still hs⟩

/-- another list, in new memory -/
theorem Two.list {W w w' : World} {v v' : Value} {l l' lh : List E} (h : Two W w v l lh) (hl : Lst w' w.heap.size v' l') (hs : Step (fun _ => False) w w') : Two W w' v' l' lh := by
  obtain ⟨A, h⟩ := h
  have h1 := h.still hs
  exact ⟨A, h1.rep, ⟨row_base hl.row h.bel.size, hl.len⟩, h1.own, fun k hk q => by have := (hl.row.lt k hk).1; have := (h.own k q).2; omega, h1.bel⟩

theorem Two.perm {W w : World} {v : Value} {l lh lh' : List E} (h : Two W w v l lh) (hp : lh.Perm lh') : Two W w v l lh' := by
  obtain ⟨A, h⟩ := h
  exact ⟨A, h.rep.perm hp, h.lst, h.own, h.far, h.bel⟩

theorem Two.bel {W w : World} {v : Value} {l lh : List E} (h : Two W w v l lh) : Below W.heap.size W w := by
  obtain ⟨A, h⟩ := h; exact h.bel

theorem Two.nodup {W w : World} {v : Value} {l lh : List E} (h : Two W w v l lh) : (ids lh).Nodup := by
  obtain ⟨A, h⟩ := h; exact h.rep.nodup

/-! ### the calls -/

theorem push2 (W w : World) (v : Value) (l lh : List E) (id key : Int) (h : Two W w v l lh) (hwi : W64 id) (hk : W64 key) (hl : lh.length + 1 ≤ 8796093022208) :
    Calls Try.prog 11 #[.pointer (some ⟨W.heap.size, 0, none⟩), .int .i64 id, .int .i64 key] w fun e w' => e = .returned (.tuple #[]) ∧ Two W w' v l ((id, key) :: HP.drop lh id) := by
  obtain ⟨A, h⟩ := h
  refine (push_any W.heap.size A lh id key w h.rep hwi hk hl).mono ?_
  rintro e w' ⟨rfl, hw⟩
  exact ⟨rfl, h.went hw⟩

theorem remove2 (W w : World) (v : Value) (l lh : List E) (id : Int) (h : Two W w v l lh) (hwi : W64 id) :
    Calls Try.prog 13 #[.pointer (some ⟨W.heap.size, 0, none⟩), .int .i64 id] w fun e w' => e = .returned (.bool (decide (id ∈ ids lh))) ∧ Two W w' v l (HP.drop lh id) := by
  obtain ⟨A, h⟩ := h
  refine (remove_any W.heap.size A lh id w h.rep hwi).mono ?_
  rintro e w' ⟨rfl, hw⟩
  exact ⟨rfl, h.went hw⟩

theorem remove2_yes (W w : World) (v : Value) (l lh : List E) (id : Int) (h : Two W w v l lh) (hwi : W64 id) (hi : id ∈ ids lh) :
    Calls Try.prog 13 #[.pointer (some ⟨W.heap.size, 0, none⟩), .int .i64 id] w fun e w' => e = .returned (.bool true) ∧ Two W w' v l (HP.drop lh id) := by
  have := remove2 W w v l lh id h hwi
  rw [decide_eq_true hi] at this
  exact this

theorem remove2_no (W w : World) (v : Value) (l lh : List E) (id : Int) (h : Two W w v l lh) (hwi : W64 id) (hi : id ∉ ids lh) :
    Calls Try.prog 13 #[.pointer (some ⟨W.heap.size, 0, none⟩), .int .i64 id] w fun e w' => e = .returned (.bool false) ∧ Two W w' v l lh := by
  have := remove2 W w v l lh id h hwi
  rw [decide_eq_false hi, drop_none hi] at this
  exact this

theorem len2 (W w : World) (v : Value) (l lh : List E) (n : Nat) (h : Two W w v l lh) (hn : lh.length = n) :
    Calls Try.prog 18 #[.pointer (some ⟨W.heap.size, 0, none⟩)] w fun e w' => e = .returned (.int .i64 n) ∧ w' = w := by
  obtain ⟨A, h⟩ := h
  subst hn
  exact len_any W.heap.size A lh w h.rep

theorem top2_nil (W w : World) (v : Value) (l : List E) (h : Two W w v l []) :
    Calls Try.prog 15 #[.pointer (some ⟨W.heap.size, 0, none⟩)] w fun e w' => e = .returned (.tuple #[.int .i64 0, .int .i64 0, .bool false]) ∧ w' = w := by
  obtain ⟨A, h⟩ := h
  exact top_nil W.heap.size A w h.rep

theorem top2_cons (W w : World) (v : Value) (l : List E) (x : E) (r : List E) (h : Two W w v l (x :: r)) (hs : Sorted (x :: r)) :
    Calls Try.prog 15 #[.pointer (some ⟨W.heap.size, 0, none⟩)] w fun e w' => e = .returned (.tuple #[.int .i64 x.1, .int .i64 x.2, .bool true]) ∧ Two W w' v l (x :: r) := by
  obtain ⟨A, h⟩ := h
  refine (top_cons W.heap.size A x r w h.rep hs).mono ?_
  rintro e w' ⟨rfl, hw⟩
  exact ⟨rfl, A, h.still hw⟩

theorem pop2_nil (W w : World) (v : Value) (l : List E) (h : Two W w v l []) :
    Calls Try.prog 16 #[.pointer (some ⟨W.heap.size, 0, none⟩)] w fun e w' => e = .returned (.tuple #[.int .i64 0, .int .i64 0, .bool false]) ∧ w' = w := by
  obtain ⟨A, h⟩ := h
  exact pop_nil W.heap.size A w h.rep

theorem pop2_cons (W w : World) (v : Value) (l : List E) (x : E) (r : List E) (h : Two W w v l (x :: r)) (hs : Sorted (x :: r)) :
    Calls Try.prog 16 #[.pointer (some ⟨W.heap.size, 0, none⟩)] w fun e w' => e = .returned (.tuple #[.int .i64 x.1, .int .i64 x.2, .bool true]) ∧ Two W w' v l r := by
  obtain ⟨A, h⟩ := h
  refine (pop_cons W.heap.size A x r w h.rep hs).mono ?_
  rintro e w' ⟨rfl, hw⟩
  exact ⟨rfl, h.went hw⟩

theorem key2_yes (W w : World) (v : Value) (l lh : List E) (id k : Int) (h : Two W w v l lh) (hm : (id, k) ∈ lh) :
    Calls Try.prog 17 #[.pointer (some ⟨W.heap.size, 0, none⟩), .int .i64 id] w fun e w' => e = .returned (.tuple #[.int .i64 k, .bool true]) ∧ w' = w := by
  obtain ⟨A, h⟩ := h
  exact key_some W.heap.size A lh id k w h.rep hm

theorem key2_no (W w : World) (v : Value) (l lh : List E) (id : Int) (h : Two W w v l lh) (hm : id ∉ ids lh) (hw : W64 id) :
    Calls Try.prog 17 #[.pointer (some ⟨W.heap.size, 0, none⟩), .int .i64 id] w fun e w' => e = .returned (.tuple #[.int .i64 0, .bool false]) ∧ w' = w := by
  obtain ⟨A, h⟩ := h
  exact key_none W.heap.size A lh id w h.rep hm hw

theorem answers2 (W w : World) (v : Value) (l lh : List E) (h : Two W w v l lh) :
    Calls Try.prog 19 #[] w fun e w' => e = .returned (.bool true) ∧ Two W w' v l lh := by
  refine (answers_any w).mono ?_
  rintro e w' ⟨rfl, hs⟩
  exact ⟨rfl, h.still hs⟩

theorem refpush2 (W w : World) (v : Value) (l lh : List E) (id key : Int) (h : Two W w v l lh) (hs : Sorted l) (hl : l.length + 1 ≤ 8796093022208) :
    Calls Try.prog 12 #[v, .int .i64 id, .int .i64 key] w fun e w' => ∃ v', e = .returned v' ∧ Two W w' v' (ins (id, key) (HP.drop l id)) lh := by
  obtain ⟨A, h'⟩ := h
  refine (refpush_any v l id key _ w h'.lst hs hl).mono ?_
  rintro e w' ⟨v', rfl, hl', hst⟩
  exact ⟨v', rfl, Two.list ⟨A, h'⟩ hl' hst⟩

theorem refdrop2 (W w : World) (v : Value) (l lh : List E) (id : Int) (h : Two W w v l lh) :
    Calls Try.prog 14 #[v, .int .i64 id] w fun e w' => ∃ v', e = .returned v' ∧ Two W w' v' (HP.drop l id) lh := by
  obtain ⟨A, h'⟩ := h
  refine (drop_any v l id _ w h'.lst).mono ?_
  rintro e w' ⟨v', rfl, hl', hst⟩
  exact ⟨v', rfl, Two.list ⟨A, h'⟩ hl' hst⟩

theorem ins_len (x : E) (l : List E) : (ins x l).length = l.length + 1 := by rw [(ins_perm x l).length_eq]; simp
theorem ins_drop_len (x : E) (l : List E) : (ins x (HP.drop l x.1)).length ≤ l.length + 1 := by rw [ins_len]; have := drop_len l x.1; omega

end Go.Proofs.Ytldinhemgmnppaa.HW
