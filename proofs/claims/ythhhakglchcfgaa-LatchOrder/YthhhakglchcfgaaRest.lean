/- What Remove, Top, Pop and Key do. -/
import Derived.Test.YthhhakglchcfgaaPush
namespace Go.Proofs.Ythhhakglchcfgaa.HW
open Go.ChangeShapes Go.WideShapes Go.ChangeAt Go.RowKit Go.Proofs.Ythhhakglchcfgaa.HP Go.Maps Go.Proofs.Ythhhakglchcfgaa.HM

theorem row_less {w : World} {base : Nat} {e : TypeId} {g n m cap : Nat} {es : List E} (h : w.ownsRow base e 2 (.slice (some ⟨g, 0, none⟩) n cap) n (flat es)) (hm : m ≤ n) (hn : n = es.length) : w.ownsRow base e 2 (.slice (some ⟨g, 0, none⟩) m cap) m (flat (es.take m)) := by
  subst hn
  have hl : (flat (es.take m)).length = m * 2 := by rw [flat_len]; simp; omega
  refine ⟨hl, ?_⟩
  rcases h.2 with ⟨h', _⟩ | ⟨g', cap', cur, h', hb, hg, hnc, hcm, hcs, htake⟩
  · simp at h'
  · simp only [Value.slice.injEq, Option.some.injEq, Addr.mk.injEq, and_true, true_and] at h'
    obtain ⟨rfl, rfl⟩ := h'
    refine .inr ⟨g, cap, cur, rfl, hb, hg, by omega, hcm, hcs, ?_⟩
    rw [← flat_take, ← htake, List.take_take]
    congr 1
    omega

theorem mem_pop {w w3 : World} {hb g cap bm n k : Nat} {D : DataW Unit} {es : List E} {id : Int} (m : Mem w hb g cap bm D es) (hl : es.length = n + 1) (hid : (at' es n).1 = id)
    (ho : w3.ownsMap Try.prog 3 (plainElem Try.prog 3) bm k (D.del (ky id))) (hg : (w.setCell ⟨hb, 0, none⟩ (.slice (some ⟨g, 0, none⟩) n cap)).grownBy w3 (some bm)) :
    Mem w3 hb g cap bm (D.del (ky id)) (es.take n) ∧ Step (fun k => k = hb ∨ k = g ∨ k = bm) w w3 := by
  subst hid
  have h1 : Step (fun k => k = hb) w (w.setCell ⟨hb, 0, none⟩ (.slice (some ⟨g, 0, none⟩) n cap)) := (Step.refl (fun k => k = hb) w).setCell (p := ⟨hb, 0, none⟩) rfl _
  have h2 : Step (fun k => k = bm) (w.setCell ⟨hb, 0, none⟩ (.slice (some ⟨g, 0, none⟩) n cap)) w3 := (Step.refl _ _).grown hg (fun k hk => by simp at hk; exact hk.symm)
  have gh := m.gh
  have bh := m.bh
  have bg := m.bg
  have hlen : (es.take n).length = n := by simp; omega
  have blk1 : (w.setCell ⟨hb, 0, none⟩ (.slice (some ⟨g, 0, none⟩) n cap)).heap[hb]? = some (.cells #[.slice (some ⟨g, 0, none⟩) n cap, .map (some bm)] 50 (0, 0)) := by
    rw [heap_setCell_same w hb 0 _ _ _ m.blk]; rfl
  have ht := m.ties.pop (by omega)
  rw [show es.length - 1 = n from by omega] at ht
  refine ⟨⟨?_, ?_, ?_, fun e he => m.wf e (List.mem_of_mem_take he), ht, ?_⟩, (h1.mono (fun _ _ h => Or.inl h)).trans (h2.mono (fun _ _ h => Or.inr (Or.inr h)))⟩
  · rw [hlen, h2.block hb (lt_of_block blk1) (fun e => bh e.symm)]; exact blk1
  · rw [hlen]
    refine row_kept h2 (row_kept h1 (row_less m.row (by omega) rfl) (fun k hk => ?_)) (fun k hk => ?_)
    · simp [Value.ownBlock] at hk; omega
    · simp [Value.ownBlock] at hk; omega
  · exact own_to ho ht.size
  · rw [hlen]; have := m.len; omega

set_option maxHeartbeats 2000000 in
theorem remove_hit (hb g cap bm n : Nat) (D : DataW Unit) (es : List E) (id : Int) (w : World) (m : Mem w hb g cap bm D es) (ho : Ord es) (i : Nat) (hi : i < es.length) (hid : (at' es i).1 = id) (hn : es.length = n + 1) :
    Calls Try.prog 22 #[.pointer (some ⟨hb, 0, none⟩), .int .i64 id] w fun e w' => e = .returned (.bool true) ∧ ∃ w1, Step (fun b => b = hb ∨ b = g ∨ b = bm) w w1 ∧ Sunk w1 hb g cap bm ((swp es i n).take n) w' := by
  have h0 := m.h0
  have h1 := m.h1
  have hlen := m.len
  have hw : W64 id := hid ▸ (m.wfi hi).1
  have hhas := (m.ties.get i hi).1
  have hat := (m.ties.get i hi).2
  rw [hid] at hhas hat
  have HAT : Hid (D.atKey (ky id) (di 0) = di i) := hat
  have HHAS : Hid (Maps.has D (ky id) = true) := hhas
  have HL : Hid ((at' (swp es i n) n).1 = id) := by
    show (at' (swp es i n) n).1 = id
    rw [at_swp hi (by omega), if_pos rfl]; exact hid
  have HPr : Hid (i < n → Pre ((swp es i n).take n) i) := fun h => by
    have := pre_remove (es := es) (p := i) (by omega) ho
    rw [show es.length - 1 = n from by omega] at this; exact this
  have HO : Hid (i = n → Ord ((swp es i n).take n)) := fun h => by
    subst h; rw [swp_self hi]; exact ord_take (by omega) ho
  clear hid hat hhas
  have hkey := keyOf_int_mk Try.underlying3 hw.wf
  have HN : Hid (es.length = n + 1) := hn
  have HSL : Hid ((swp es i n).length = n + 1) := (swp_len es i n).trans hn
  have hnl : n < es.length := by omega
  have hin : i ≤ n := by omega
  rw [hn] at h0 hlen
  clear hn
  by_cases hlt : i < n
  · have hlt' : (i : Int) < (n : Int) := by omega
    go_enter Try.func22, Try.ntmps22
    go_wp2_with (first
      | (at_lookup; refine wpList_lookup_hit _ rfl _ _ rfl bm _ D rfl m.map id rfl hw i HHAS.out HAT.out ?_)
      | fail)
    refine (swap_i hb g cap bm i n i n D es _ rfl rfl m hi hnl).mono ?_
    rintro e w1 ⟨rfl, ⟨D1, m1⟩, hs1⟩
    have g0 := m1.h0
    have g1 := m1.h1
    have gf := m1.f0 0
    rw [HSL.out] at g0
    have hcap : n + 1 ≤ cap := by
      rcases m1.row.2 with ⟨h', _⟩ | ⟨g', cap', cur, h', _, _, hnc, _⟩
      · simp at h'
      · simp only [Value.slice.injEq, Option.some.injEq, Addr.mk.injEq, and_true, true_and] at h'
        obtain ⟨_, rfl⟩ := h'; rw [HSL.out] at hnc; exact hnc
    go_wp2_with (first
      | (at_delete; refine wpList_delete_own _ rfl _ _ 40 3 rfl 3 law3 Try.underlying40 _ bm _ D1 rfl (by exact m1.map.setCell m1.bh _) _ _ rfl hkey ?_; intro w3 ho3 ht3)
      | fail)
    have M3 := mem_pop m1 HSL.out HL.out ho3 ht3.grown
    refine (settle_any hb g cap bm i _ _ _ M3.1 (by have := HSL.out; simp; omega) (HPr.out hlt)).mono ?_
    rintro e w4 ⟨rfl, hs4⟩
    go_wp2
    go_ret
    exact ⟨rfl, _, (hs1.mono (fun _ _ h => Or.inr h)).trans M3.2, hs4⟩
  · have hlt' : ¬ (i : Int) < (n : Int) := by omega
    go_enter Try.func22, Try.ntmps22
    go_wp2_with (first
      | (at_lookup; refine wpList_lookup_hit _ rfl _ _ rfl bm _ D rfl m.map id rfl hw i HHAS.out HAT.out ?_)
      | fail)
    refine (swap_i hb g cap bm i n i n D es _ rfl rfl m hi hnl).mono ?_
    rintro e w1 ⟨rfl, ⟨D1, m1⟩, hs1⟩
    have g0 := m1.h0
    have g1 := m1.h1
    have gf := m1.f0 0
    rw [HSL.out] at g0
    have hcap : n + 1 ≤ cap := by
      rcases m1.row.2 with ⟨h', _⟩ | ⟨g', cap', cur, h', _, _, hnc, _⟩
      · simp at h'
      · simp only [Value.slice.injEq, Option.some.injEq, Addr.mk.injEq, and_true, true_and] at h'
        obtain ⟨_, rfl⟩ := h'; rw [HSL.out] at hnc; exact hnc
    go_wp2_with (first
      | (at_delete; refine wpList_delete_own _ rfl _ _ 40 3 rfl 3 law3 Try.underlying40 _ bm _ D1 rfl (by exact m1.map.setCell m1.bh _) _ _ rfl hkey ?_; intro w3 ho3 ht3)
      | fail)
    have M3 := mem_pop m1 HSL.out HL.out ho3 ht3.grown
    go_ret
    exact ⟨rfl, _, (hs1.mono (fun _ _ h => Or.inr h)).trans M3.2, _, _, M3.1, HO.out (by omega), List.Perm.refl _, Step.refl _ _⟩

theorem remove_miss (hb g cap bm : Nat) (D : DataW Unit) (es : List E) (id : Int) (w : World) (m : Mem w hb g cap bm D es) (hid : id ∉ ids es) (hw : W64 id) :
    Calls Try.prog 22 #[.pointer (some ⟨hb, 0, none⟩), .int .i64 id] w fun e w' => e = .returned (.bool false) ∧ w' = w := by
  have h1 := m.h1
  have hhas : Maps.has D (ky id) = false := by
    cases q : Maps.has D (ky id) with
    | false => rfl
    | true => exact absurd ((m.ties.mem id).1 q) hid
  have HHAS : Hid (Maps.has D (ky id) = false) := hhas
  clear hhas hid
  go_enter Try.func22, Try.ntmps22
  go_wp2_with (first
    | (at_lookup; refine wpList_lookup_miss _ rfl _ _ rfl bm _ D rfl m.map id rfl hw HHAS.out ?_)
    | fail)
  go_ret
  exact ⟨rfl, rfl⟩

theorem remove_fresh (hb : Nat) (id : Int) (w : World) (blk : w.heap[hb]? = some (.cells #[.slice none 0 0, .map none] 50 (0, 0))) (hw : W64 id) :
    Calls Try.prog 22 #[.pointer (some ⟨hb, 0, none⟩), .int .i64 id] w fun e w' => e = .returned (.bool false) ∧ w' = w := by
  have h1 : w.cell? ⟨hb, 1, none⟩ = some (.map none) := by simp [World.cell?, blk]
  have hrun := look_nil (w := w) true law3 Try.underlying40 (zero3 _) (keyOf_int_mk Try.underlying3 hw.wf)
  go_enter Try.func22, Try.ntmps22
  go_wp2
  go_ret
  exact ⟨rfl, rfl⟩

theorem Went.refl {w : World} {hb : Nat} {A : Nat → Prop} {l : List E} (h : Rep w hb A l) : Went w hb A l w := ⟨A, h, Step.refl _ _, fun _ _ h => h⟩

/-- Remove, whatever there is -/
theorem remove_any (hb : Nat) (A : Nat → Prop) (l : List E) (id : Int) (w : World) (h : Rep w hb A l) (hw : W64 id) :
    Calls Try.prog 22 #[.pointer (some ⟨hb, 0, none⟩), .int .i64 id] w fun e w' => e = .returned (.bool (decide (id ∈ ids l))) ∧ Went w hb A (HP.drop l id) w' := by
  rcases h.2 with ⟨rfl, h2⟩ | ⟨g, cap, bm, D, es, m, ag, ab, ho, hpe⟩
  · refine (remove_fresh hb id w h2 hw).mono ?_
    rintro e w' ⟨rfl, rfl⟩
    exact ⟨by simp [ids], Went.refl h⟩
  · by_cases hi : id ∈ ids es
    · obtain ⟨i, hi', e1⟩ := m.ties.back id ((m.ties.mem id).2 hi)
      refine (remove_hit hb g cap bm (es.length - 1) D es id w m ho i hi' e1 (by omega)).mono ?_
      rintro e w' ⟨rfl, w1, hs, hsk⟩
      refine ⟨by rw [decide_eq_true (show id ∈ ids l from (hpe.map _).mem_iff.1 hi)], went_sunk (A' := A) ⟨hs.mono (fun k _ e => by rcases e with rfl | rfl | rfl; exact h.1; exact ag; exact ab), fun k _ hA => hA⟩ h.1 ag ab hsk ?_⟩
      refine (remove_perm hi' m.ties.nodup).trans ?_
      rw [e1]
      exact hpe.filter _
    · refine (remove_miss hb g cap bm D es id w m hi hw).mono ?_
      rintro e w' ⟨rfl, rfl⟩
      have hi' : id ∉ ids l := fun q => hi ((hpe.map _).mem_iff.2 q)
      exact ⟨by rw [decide_eq_false hi'], by rw [drop_none hi']; exact Went.refl h⟩

set_option maxHeartbeats 1000000 in
theorem top_some (hb g cap bm : Nat) (D : DataW Unit) (es : List E) (w : World) (m : Mem w hb g cap bm D es) (h : Rep w hb (fun _ => True) es) (hl : 0 < es.length) :
    Calls Try.prog 19 #[.pointer (some ⟨hb, 0, none⟩)] w fun e w' => e = .returned (.tuple #[.int .i64 (at' es 0).1, .int .i64 (at' es 0).2, .bool true]) ∧ Step (fun _ => False) w w' := by
  have h0 := m.h0
  have c0 := m.c0 hl
  have c1 := m.c1 hl
  simp only [Nat.zero_mul, Nat.zero_add] at c0 c1
  have hlen := m.len
  have iA : (0 : Int) < (es.length : Int) := by omega
  have hne : ((es.length : Int) == 0) = false := beq_eq_false_iff_ne.2 (by omega)
  have hs : ∀ o, Step (fun _ => False) w (w.alloc o).drew := fun o => ((Step.refl _ w).alloc o).drew
  have hs2 : ∀ o n, Step (fun _ => False) w ((w.alloc o).drewN n) := fun o n => ⟨rfl, rfl, rfl, by simp, fun k hk _ => Below.heap_alloc _ _ _ hk⟩
  go_enter Try.func19, Try.ntmps19
  go_wp2_with (go_at_call 18; refine (len_any hb _ es _ h).mono ?_; rintro e w1 ⟨rfl, rfl⟩)
  go_quiet (fail)
  go_wp2
  go_ret3
  exact ⟨rfl, hs2 _ _⟩

theorem top_nil (hb : Nat) (A : Nat → Prop) (w : World) (h : Rep w hb A []) :
    Calls Try.prog 19 #[.pointer (some ⟨hb, 0, none⟩)] w fun e w' => e = .returned (.tuple #[.int .i64 0, .int .i64 0, .bool false]) ∧ w' = w := by
  go_enter Try.func19, Try.ntmps19
  go_wp2_with (go_at_call 18; refine (len_any hb A [] _ h).mono ?_; rintro e w1 ⟨rfl, rfl⟩)
  go_ret3
  exact ⟨rfl, rfl⟩

theorem top_cons (hb : Nat) (A : Nat → Prop) (x : E) (r : List E) (w : World) (h : Rep w hb A (x :: r)) (hs : Sorted (x :: r)) :
    Calls Try.prog 19 #[.pointer (some ⟨hb, 0, none⟩)] w fun e w' => e = .returned (.tuple #[.int .i64 x.1, .int .i64 x.2, .bool true]) ∧ Step (fun _ => False) w w' := by
  rcases h.2 with ⟨h1, _⟩ | ⟨g, cap, bm, D, es, m, ag, ab, ho, hpe⟩
  · cases h1
  · have hl : 0 < es.length := by rw [hpe.length_eq]; simp
    have hx := sorted_first hs ho hpe hl
    simp only [List.tail_cons, List.cons.injEq, and_true] at hx
    rw [hx]
    exact top_some hb g cap bm D es w m ⟨trivial, .inr ⟨g, cap, bm, D, es, m, trivial, trivial, ho, List.Perm.refl _⟩⟩ hl

theorem drop_cons {x : E} {r : List E} (h : (ids (x :: r)).Nodup) : HP.drop (x :: r) x.1 = r := by
  have h' : x.1 ∉ ids r := (List.nodup_cons.1 h).1
  have := drop_none h'
  unfold HP.drop at *
  rw [List.filter_cons, if_neg (by simp)]
  exact this

theorem pop_nil (hb : Nat) (A : Nat → Prop) (w : World) (h : Rep w hb A []) :
    Calls Try.prog 20 #[.pointer (some ⟨hb, 0, none⟩)] w fun e w' => e = .returned (.tuple #[.int .i64 0, .int .i64 0, .bool false]) ∧ w' = w := by
  go_enter Try.func20, Try.ntmps20
  go_wp2_with (go_at_call 19; refine (top_nil hb A _ h).mono ?_; rintro e w1 ⟨rfl, rfl⟩)
  go_ret3
  exact ⟨rfl, rfl⟩

theorem pop_cons (hb : Nat) (A : Nat → Prop) (x : E) (r : List E) (w : World) (h : Rep w hb A (x :: r)) (hs : Sorted (x :: r)) :
    Calls Try.prog 20 #[.pointer (some ⟨hb, 0, none⟩)] w fun e w' => e = .returned (.tuple #[.int .i64 x.1, .int .i64 x.2, .bool true]) ∧ Went w hb A r w' := by
  have hw := (h.wf x (by simp)).1
  have hd := drop_cons h.nodup
  have HD : Hid (HP.drop (x :: r) x.1 = r) := hd
  clear hd
  go_enter Try.func20, Try.ntmps20
  go_wp2_with (go_at_call 19; refine (top_cons hb A x r _ h hs).mono ?_; rintro e w1 ⟨rfl, hs1⟩)
  have h1 : Rep w1 hb A (x :: r) := h.kept hs1 (fun _ _ _ q => q)
  refine (remove_any hb A (x :: r) x.1 _ h1 hw).mono ?_
  rintro e w2 ⟨rfl, A2, h2, m2⟩
  go_wp2
  go_ret3
  refine ⟨rfl, A2, HD.out ▸ h2, (hs1.mono (fun _ _ q => q.elim)).trans m2.stp, fun k hk hA => m2.own k (Nat.lt_of_lt_of_le hk hs1.size) hA⟩

theorem len_none (w : World) :
    Calls Try.prog 18 #[.pointer none] w fun e w' => e = .returned (.int .i64 0) ∧ w' = w := by
  go_enter Try.func18, Try.ntmps18
  go_wp2
  go_ret
  exact ⟨rfl, rfl⟩

theorem push_none (id key : Int) (w : World) :
    Calls Try.prog 17 #[.pointer none, .int .i64 id, .int .i64 key] w fun e w' => e = .returned (.tuple #[]) ∧ w' = w := by
  go_enter Try.func17, Try.ntmps17
  go_wp2
  exact bodyPost_ret (v := .tuple #[]) (by simp [results, Try.results17, go_sem]) rfl ⟨rfl, rfl⟩

theorem remove_none (id : Int) (w : World) :
    Calls Try.prog 22 #[.pointer none, .int .i64 id] w fun e w' => e = .returned (.bool false) ∧ w' = w := by
  go_enter Try.func22, Try.ntmps22
  go_wp2
  go_ret
  exact ⟨rfl, rfl⟩

theorem top_none (w : World) :
    Calls Try.prog 19 #[.pointer none] w fun e w' => e = .returned (.tuple #[.int .i64 0, .int .i64 0, .bool false]) ∧ w' = w := by
  go_enter Try.func19, Try.ntmps19
  go_wp2_with (go_at_call 18; refine (len_none _).mono ?_; rintro e w1 ⟨rfl, rfl⟩)
  go_ret3
  exact ⟨rfl, rfl⟩

theorem pop_none (w : World) :
    Calls Try.prog 20 #[.pointer none] w fun e w' => e = .returned (.tuple #[.int .i64 0, .int .i64 0, .bool false]) ∧ w' = w := by
  go_enter Try.func20, Try.ntmps20
  go_wp2_with (go_at_call 19; refine (top_none _).mono ?_; rintro e w1 ⟨rfl, rfl⟩)
  go_ret3
  exact ⟨rfl, rfl⟩

end Go.Proofs.Ythhhakglchcfgaa.HW
