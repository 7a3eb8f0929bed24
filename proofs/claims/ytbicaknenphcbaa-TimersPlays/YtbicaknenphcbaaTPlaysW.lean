/- Whatever is set, cancelled, and due: all answers. -/
import Derived.Test.YtbicaknenphcbaaTAgainW
namespace Go.Proofs.Ytbicaknenphcbaa.HW
open Go.ChangeShapes Go.WideShapes Go.ChangeAt Go.RowKit Go.Proofs.Ytbicaknenphcbaa.HP Go.Maps Go.Proofs.Ytbicaknenphcbaa.HM Go.Proofs.Ytbicaknenphcbaa.AR

/-- nothing is due, or one is the first -/
theorem due_or {L : List T3} (now : Int) : (∀ t ∈ L, now < t.2.1) ∨ ∃ t, Least L t ∧ t.2.1 ≤ now := by
  by_cases hz : L = []
  · subst hz; exact .inl (fun t ht => by simp at ht)
  · obtain ⟨t, ht⟩ := exists_least hz
    by_cases c : t.2.1 ≤ now
    · exact .inr ⟨t, ht, c⟩
    · refine .inl (fun u hu => ?_)
      have := ht.2 u hu
      rw [ltB_false] at this
      simp only [pr] at this
      omega

/-- what a Due makes of both -/
def Dued (W : World) (L : List T3) (v' : Value) (w' : World) : Prop := ∃ L', Tw W w' v' L' L' ∧ L'.length ≤ L.length ∧ Mom L'

set_option maxHeartbeats 4000000 in
theorem lawdue_any (W w : World) (v : Value) (L : List T3) (now : Int) (h : Tw W w v L L) (hm : Mom L) (hl : L.length + 1 ≤ 8796093022208) :
    Calls Try.prog 14 #[.pointer (some ⟨W.heap.size, 0, none⟩), v, .int .i64 now] w fun e w' => ∃ v', e = .returned (.tuple #[v', .bool true]) ∧ Dued W L v' w' := by
  have hn := h.nodup
  have hwf := h.wf
  have hs2 : ∀ (a : World) o n, Step (fun _ => False) a ((a.alloc o).drewN n) := fun a o n => ⟨rfl, rfl, rfl, by simp, fun k hk _ => Below.heap_alloc _ _ _ hk⟩
  rcases due_or (L := L) now with hnone | ⟨t, ht, hd⟩
  · go_enter Try.func14, Try.ntmps14
    go_wp2_with fail
    refine (due2_none W _ _ _ L now h hnone).mono ?_
    rintro e w1 ⟨rfl, T1⟩
    go_wp2_with fail
    refine (refdue_any v L now _ _ T1.lst hn hm hwf).mono ?_
    intro e w2 hor
    have hq : DueNone L now w1 v e w2 := hor.resolve_right (fun q => by
      obtain ⟨_, t, _, ht, hd, _⟩ := q
      have := hnone t ht.1
      omega)
    obtain ⟨rfl, _, s2⟩ := hq
    have T2 := T1.still s2
    clear hor hnone
    go_wp2_with fail
    go_quiet (fail)
    go_wp2
    go_ret2
    exact ⟨_, rfl, L, T2.still (hs2 _ _ _), Nat.le_refl _, hm⟩
  · have HN : Hid ((nextT L t).length ≤ L.length ∧ Mom (nextT L t)) := ⟨nextT_le hn ht, mom_next hm ht.1⟩
    go_enter Try.func14, Try.ntmps14
    go_wp2_with fail
    refine (due2_some W _ _ _ L t now h ht hd hm hl).mono ?_
    rintro e w1 ⟨rfl, T1⟩
    go_wp2_with fail
    refine (refdue_any v L now _ _ T1.lst hn hm hwf).mono ?_
    intro e w2 hor
    have hq : DueSome L now w1 e w2 := hor.resolve_left (fun q => by
      have := q.2.1 t ht.1
      omega)
    obtain ⟨v', t', rfl, ht', _, l2, s2⟩ := hq
    obtain rfl := Least.uniq hn ht ht'
    have T2 := T1.list l2 s2
    clear hor ht ht'
    obtain ⟨t1, t2, t3⟩ := t
    have b1 : (t1 == t1) = true := by simp
    have b2 : (t2 == t2) = true := by simp
    go_wp2_with fail
    go_quiet (fail)
    go_wp2
    go_ret2
    exact ⟨_, rfl, _, T2.still (hs2 _ _ _), HN.out.1, HN.out.2⟩

/-- the number j of the record k -/
def fld (rows : List (List Int)) (k j : Nat) : Int := (rows.getD k []).getD j 0

theorem fld_wf {w : World} {ao : Option Addr} {len n : Nat} {rows : List (List Int)} {k : Nat} (h : RecAt w n ao len rows) (hk : k < len) (j : Nat) : W64 (fld rows k j) := by
  have hl := h.1
  have hm : rows.getD k [] ∈ rows := by simp [List.getD_eq_getElem?_getD, show k < rows.length by omega]
  obtain ⟨_, h2⟩ := h.2.1 _ hm
  unfold fld
  by_cases hj : j < (rows.getD k []).length
  · exact h2 _ (by rw [List.getD_eq_getElem?_getD (l := rows.getD k []), List.getElem?_eq_getElem hj]; exact List.getElem_mem hj)
  · rw [List.getD_eq_getElem?_getD (l := rows.getD k []), List.getElem?_eq_none (by omega)]; exact ⟨by decide, by decide⟩

theorem fld_at {w wr : World} {ao : Option Addr} {len n : Nat} {rows : List (List Int)} {k : Nat} (h : RecAt w n ao len rows) (hk : k < len) (hb : Below w.heap.size w wr) : ∃ b off, ao = some ⟨b, off, none⟩ ∧ ∀ j, j < n → wr.cell? ⟨b, off + k * n + j, none⟩ = some (.int .i64 (fld rows k j)) := by
  rcases h.2.2 with h0 | ⟨b, off, e, hlt, hc⟩
  · omega
  · exact ⟨b, off, e, fun j hj => by rw [hb.cell (by exact hlt)]; exact hc k j hk hj⟩

/-- .. and a block of another one's, which stays -/
def TwB (W w : World) (v : Value) (l L : List T3) (b : Nat) (o : Obj) : Prop := ∃ A, TwA W w v l L A ∧ w.heap[b]? = some o ∧ ¬ A b

theorem twB_alloc {W w : World} {v : Value} {l L : List T3} (h : Tw W w v l L) (c : Array Value) (t : TypeId) : TwB W (w.alloc (.cells c t)) v l L w.heap.size (.cells c t (0, 0)) := by
  obtain ⟨A, h⟩ := h
  exact ⟨A, h.still ((Step.refl _ w).alloc _), heap_alloc_new w _, fun q => by have := (h.own _ q).2; omega⟩

theorem TwB.two {W w : World} {v : Value} {l L : List T3} {b : Nat} {o : Obj} (h : TwB W w v l L b o) : Tw W w v l L := by
  obtain ⟨A, h, _⟩ := h; exact ⟨A, h⟩

theorem TwB.blk {W w : World} {v : Value} {l L : List T3} {b : Nat} {o : Obj} (h : TwB W w v l L b o) : w.heap[b]? = some o := by
  obtain ⟨A, _, h, _⟩ := h; exact h

theorem TwB.cell {W w : World} {v : Value} {l L : List T3} {b : Nat} {c : Array Value} {t : TypeId} (h : TwB W w v l L b (.cells c t (0, 0))) (j : Nat) : w.cell? ⟨b, j, none⟩ = c[j]? := by
  simp [World.cell?, h.blk]

theorem set2b (W w : World) (v : Value) (l L : List T3) (id a ev : Int) (b : Nat) (o : Obj) (h : TwB W w v l L b o) (hi : W64 id) (ha : W64 a) (hv : W64 ev) (hl : L.length + 1 ≤ 8796093022208) :
    Calls Try.prog 10 #[.pointer (some ⟨W.heap.size, 0, none⟩), .int .i64 id, .int .i64 a, .int .i64 ev] w fun e w' => e = .returned (.tuple #[]) ∧ Tw W w' v l (setT L id a ev) ∧ w'.heap[b]? = some o := by
  obtain ⟨A, h, hb, hn⟩ := h
  refine (tset_any W.heap.size A L id a ev w h.rep hi ha hv hl).mono ?_
  rintro e w' ⟨rfl, hw⟩
  refine ⟨rfl, h.went hw, ?_⟩
  obtain ⟨A', _, m'⟩ := hw
  rw [m'.stp.block b (lt_of_block hb) hn]; exact hb

theorem without2b (W w : World) (v : Value) (l L : List T3) (id : Int) (b : Nat) (o : Obj) (h : TwB W w v l L b o) :
    Calls Try.prog 12 #[v, .int .i64 id] w fun e w' => ∃ v', e = .returned v' ∧ Tw W w' v' (dropT l id) L ∧ w'.heap[b]? = some o := by
  have ht := h.two
  have hb := h.blk
  refine (without_any v l id _ w ht.lst).mono ?_
  rintro e w' ⟨v', rfl, hl', hst⟩
  exact ⟨v', rfl, ht.list hl' hst, by rw [hst.block b (lt_of_block hb) (fun q => q)]; exact hb⟩

set_option maxHeartbeats 8000000 in
set_option maxRecDepth 100000 in
theorem timersPlays_walk (ao : Option Addr) (len cap : Nat) (rows : List (List Int)) (w : World) (ra : RecAt w 4 ao len rows) (lb : len * 32 ≤ 140737488351232) :
    Calls Try.prog 3 #[.slice ao len cap] w fun e w' => e = .returned (.bool true) ∧ Below w.heap.size w w' := by
  go_enter Try.func3, Try.ntmps3
  go_wp2_with fail
  refine (tnew_any _).mono ?_
  rintro e w0 ⟨rfl, r0, s0⟩
  have T0 := tw_new r0 s0
  clear r0 s0
  go_wp2_with fail
  go_loopw [4, 5] (fun v i wr => ∃ (k : Nat) (L : List T3), k ≤ len ∧ i = .int .i64 k ∧ L.length ≤ k ∧ Hid (Mom L) ∧ Tw w wr v L L) (fun _ i _ => len - (intOf i).toNat)
  case atStart => exact ⟨0, [], Nat.zero_le _, rfl, Nat.le_refl _, mom_nil, T0⟩
  case round =>
    obtain ⟨k, L, hk, rfl, hll, hmo, T⟩ := hrel
    by_cases hlt : k < len
    · have wk := fld_wf ra hlt
      obtain ⟨bk, off, rfl, c⟩ := fld_at ra hlt T.bel
      have c0 := c 0 (by omega)
      have c1 := c 1 (by omega)
      have c2 := c 2 (by omega)
      have c3 := c 3 (by omega)
      clear c
      rw [Nat.add_zero] at c0
      have hlt' : (k : Int) < (len : Int) := by omega
      have wid : W64 (fld rows k 1) := wk 1
      have wat : W64 (fld rows k 2) := wk 2
      have wev : W64 (fld rows k 3) := wk 3
      clear wk
      generalize fld rows k 0 = kd at c0
      generalize fld rows k 1 = id at c1 wid
      generalize fld rows k 2 = a at c2 wat
      generalize fld rows k 3 = ev at c3 wev
      obtain ⟨ao2, cap2, rfl⟩ := T.shape
      have B1 := twB_alloc T #[.int .i64 kd, .int .i64 id, .int .i64 a, .int .i64 ev] 27
      by_cases ca : a < -1099511627776
      · go_wp2_with fail
        refine (answers2 w _ _ _ _ B1.two).mono ?_
        rintro e w6 ⟨rfl, T6⟩
        go_wp2
        go_ret
        exact ⟨rfl, T6.bel⟩
      · by_cases h0 : kd = 0
        · subst h0
          have HM : Hid (Mom (setT L id a ev)) := mom_set hmo.out id ev (by omega)
          have HL : Hid ((setT L id a ev).length ≤ L.length + 1) := setT_le L id a ev
          go_wp2_with (go_at_call 10; refine (set2b w _ _ _ L id a ev _ _ B1 wid wat wev (by omega)).mono ?_; rintro e w3 ⟨rfl, T3, b3⟩; have e1 : w3.cell? ⟨wr.heap.size, 1, none⟩ = some (.int .i64 id) := (by simp [World.cell?, b3]); have e2 : w3.cell? ⟨wr.heap.size, 2, none⟩ = some (.int .i64 a) := (by simp [World.cell?, b3]); have e3 : w3.cell? ⟨wr.heap.size, 3, none⟩ = some (.int .i64 ev) := (by simp [World.cell?, b3]))
          refine (refset2 w _ _ _ _ id a ev T3 (by omega)).mono ?_
          rintro e w4 ⟨v4, rfl, T4⟩
          obtain ⟨ao4, cap4, rfl⟩ := T4.shape
          go_wp2_with fail
          refine (len2 w _ _ _ _ (setT L id a ev).length T4 rfl).mono ?_
          rintro e w5 ⟨rfl, rfl⟩
          have bq : (((setT L id a ev).length : Int) == ((setT L id a ev).length : Int)) = true := by simp
          go_wp2
          go_roundw
          case rel => exact ⟨k + 1, _, by omega, by go_num, by have := HL.out; omega, HM, T4⟩
          case measure => simp [intOf]; omega
        · have n0 : (kd == 0) = false := by simpa using h0
          by_cases h1 : kd = 1
          · subst h1
            have HM : Hid (Mom (dropT L id)) := mom_drop hmo.out id
            have HL : Hid ((dropT L id).length ≤ L.length) := dropT_le L id
            by_cases hin : id ∈ idt L
            · have hd : decide (id ∈ idt L) = true := decide_eq_true hin
              have hcmp : ((dropT L id).length : Int) < (L.length : Int) := by have := dropT_lt.2 hin; omega
              clear hin
              go_wp2_with (go_at_call 12; refine (without2b w _ _ _ L id _ _ B1).mono ?_; rintro e w3 ⟨v3, rfl, T3, b3⟩; obtain ⟨ao3, cap3, rfl⟩ := T3.shape; have e1 : w3.cell? ⟨wr.heap.size, 1, none⟩ = some (.int .i64 id) := (by simp [World.cell?, b3]))
              refine (cancel2 w _ _ _ _ id T3 wid).mono ?_
              rintro e w4 ⟨rfl, T4⟩
              rw [hd]
              go_wp2_with fail
              refine (len2 w _ _ _ _ (dropT L id).length T4 rfl).mono ?_
              rintro e w5 ⟨rfl, rfl⟩
              have bq : (((dropT L id).length : Int) == ((dropT L id).length : Int)) = true := by simp
              go_wp2
              go_roundw
              case rel => exact ⟨k + 1, _, by omega, by go_num, by have := HL.out; omega, HM, T4⟩
              case measure => simp [intOf]; omega
            · have hd : decide (id ∈ idt L) = false := decide_eq_false hin
              have hcn : ¬ (dropT L id).length < L.length := fun q => hin (dropT_lt.1 q)
              have hcmp : ¬ ((dropT L id).length : Int) < (L.length : Int) := by omega
              clear hcn
              clear hin
              go_wp2_with (go_at_call 12; refine (without2b w _ _ _ L id _ _ B1).mono ?_; rintro e w3 ⟨v3, rfl, T3, b3⟩; obtain ⟨ao3, cap3, rfl⟩ := T3.shape; have e1 : w3.cell? ⟨wr.heap.size, 1, none⟩ = some (.int .i64 id) := (by simp [World.cell?, b3]))
              refine (cancel2 w _ _ _ _ id T3 wid).mono ?_
              rintro e w4 ⟨rfl, T4⟩
              rw [hd]
              go_wp2_with fail
              refine (len2 w _ _ _ _ (dropT L id).length T4 rfl).mono ?_
              rintro e w5 ⟨rfl, rfl⟩
              have bq : (((dropT L id).length : Int) == ((dropT L id).length : Int)) = true := by simp
              go_wp2
              go_roundw
              case rel => exact ⟨k + 1, _, by omega, by go_num, by have := HL.out; omega, HM, T4⟩
              case measure => simp [intOf]; omega
          · have n1 : (kd == 1) = false := by simpa using h1
            by_cases h2 : kd = 2
            · subst h2
              go_wp2_with (go_at_call 14; refine (lawdue_any w _ _ L a B1.two hmo.out (by omega)).mono ?_; rintro e w3 ⟨v3, rfl, L3, T3, hl3, hm3⟩; obtain ⟨ao3, cap3, rfl⟩ := T3.shape)
              refine (len2 w _ _ _ _ L3.length T3 rfl).mono ?_
              rintro e w5 ⟨rfl, rfl⟩
              have bq : ((L3.length : Int) == (L3.length : Int)) = true := by simp
              go_wp2
              go_roundw
              case rel => exact ⟨k + 1, L3, by omega, by go_num, by omega, hm3, T3⟩
              case measure => simp [intOf]; omega
            · have n2 : (kd == 2) = false := by simpa using h2
              go_wp2_with (go_at_call 15; refine (len2 w _ _ _ _ L.length B1.two rfl).mono ?_; rintro e w5 ⟨rfl, rfl⟩)
              go_roundw
              case rel => exact ⟨k + 1, L, by omega, by go_num, by omega, hmo, B1.two⟩
              case measure => simp [intOf]; omega
    · have hlt' : ¬ (k : Int) < (len : Int) := by omega
      go_wp2_with fail
      refine (answers2 w _ _ _ _ T).mono ?_
      rintro e w6 ⟨rfl, T6⟩
      go_wp2
      go_ret
      exact ⟨rfl, T6.bel⟩

end Go.Proofs.Ytbicaknenphcbaa.HW
