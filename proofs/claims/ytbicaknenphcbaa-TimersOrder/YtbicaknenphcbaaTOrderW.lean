/- What is due by a moment comes in order, of one moment by id, each that is set once just once. -/
import Derived.Test.YtbicaknenphcbaaTAgainW
namespace Go.Proofs.Ytbicaknenphcbaa.HW
open Go.ChangeShapes Go.WideShapes Go.ChangeAt Go.RowKit Go.Proofs.Ytbicaknenphcbaa.HP Go.Maps Go.Proofs.Ytbicaknenphcbaa.HM Go.Proofs.Ytbicaknenphcbaa.AR

/-! ### plain facts -/

/-- how many are due behind now -/
def waitN (L : List T3) (now : Int) : Nat := (L.filter fun t => decide (now < t.2.1)).length

theorem waitN_le (L : List T3) (now : Int) : waitN L now ≤ L.length := List.length_filter_le _ _

theorem waitN_all {L : List T3} {now : Int} (h : ∀ t ∈ L, now < t.2.1) : waitN L now = L.length := by
  unfold waitN
  rw [List.filter_eq_self.2 (fun t ht => by simpa using h t ht)]

theorem waitN_drop {L : List T3} {now : Int} (hn : (idt L).Nodup) {t : T3} (ht : t ∈ L) (hd : t.2.1 ≤ now) : waitN (dropT L t.1) now = waitN L now := by
  unfold waitN dropT
  rw [List.filter_filter]
  congr 1
  apply List.filter_congr
  intro e he
  by_cases c : now < e.2.1
  · have hne : e.1 ≠ t.1 := fun q => by
      have := eq_of_id hn he ht q
      rw [this] at c; omega
    simp [c, hne]
  · simp [c]

theorem waitN_take {L : List T3} {now : Int} {k : Nat} (h : k < L.length) : waitN (L.take (k + 1)) now = waitN (L.take k) now + (if now < (at3 L k).2.1 then 1 else 0) := by
  unfold waitN
  rw [take_snoc3 h, List.filter_append, List.length_append, List.filter_cons, List.filter_nil]
  by_cases c : now < (at3 L k).2.1 <;> simp [c]

/-- none is due again -/
def Once (L : List T3) : Prop := ∀ t ∈ L, t.2.2 = 0

theorem once_nil : Once [] := fun t h => by simp at h
theorem once_drop {L : List T3} (h : Once L) (id : Int) : Once (dropT L id) := fun t ht => h t (mem_dropT.1 ht).1
theorem once_set {L : List T3} (h : Once L) (id a : Int) : Once (setT L id a 0) := by
  intro t ht
  rcases List.mem_append.1 ht with ht | ht
  · exact once_drop h id t ht
  · simp at ht; subst ht; rfl
theorem once_next {L : List T3} (h : Once L) {t : T3} (ht : t ∈ L) : nextT L t = dropT L t.1 := by
  unfold nextT; rw [if_neg (by rw [h t ht]; decide)]

/-- what has come, of which the last one was x at the moment y; M waits -/
structure Come (l M : List T3) (now : Int) (n : Nat) (x y : Int) : Prop where
  once : Once M
  mom : Mom M
  cnt : n + M.length = l.length
  wait : waitN M now = waitN l now
  ord : 0 < n → ∀ u ∈ M, ltB (x, y) (pr u) = true

theorem come_start {l : List T3} {now : Int} (h1 : Once l) (h2 : Mom l) : Come l l now 0 0 0 := ⟨h1, h2, by omega, rfl, fun h => by omega⟩

theorem Come.next {l M : List T3} {now : Int} {n : Nat} {x y : Int} (h : Come l M now n x y) (hn : (idt M).Nodup) {t : T3} (ht : Least M t) (hd : t.2.1 ≤ now) : Come l (dropT M t.1) now (n + 1) t.1 t.2.1 := by
  have hl := dropT_len hn (least_mem ht)
  have hc := h.cnt
  refine ⟨once_drop h.once _, mom_drop h.mom _, by omega, (waitN_drop hn ht.1 hd).trans h.wait, fun _ u hu => ?_⟩
  obtain ⟨h1, h2⟩ := mem_dropT.1 hu
  have h3 := ht.2 u h1
  rw [ltB_false] at h3
  rw [ltB_iff]
  simp only [pr] at h3 ⊢
  omega

theorem Come.done {l M : List T3} {now : Int} {n : Nat} {x y : Int} (h : Come l M now n x y) (ha : ∀ t ∈ M, now < t.2.1) : M.length = waitN l now ∧ n + waitN l now = l.length := by
  have h1 := waitN_all ha
  have h2 := h.wait
  have h3 := h.cnt
  omega

/-! ### timers beside a list and a block of another one's, which is stored into -/

structure TwCA (W w : World) (v : Value) (l L : List T3) (b : Nat) (x y : Int) (A : Nat → Prop) : Prop where
  two : TwA W w v l L A
  blk : w.heap[b]? = some (.cells #[.int .i64 x, .int .i64 y, .int .i64 0] 41 (0, 0))
  off : ¬ A b
  ge : W.heap.size ≤ b
  far : v.ownBlock ≠ some b

def TwC (W w : World) (v : Value) (l L : List T3) (b : Nat) (x y : Int) : Prop := ∃ A, TwCA W w v l L b x y A

theorem TwA.went2 {W w w' : World} {v : Value} {l L L' : List T3} {A : Nat → Prop} (h : TwA W w v l L A) (hw : TWent w W.heap.size A L' w') : ∃ A', TwA W w' v l L' A' ∧ Moved A w A' w' := by
  obtain ⟨A', r', m'⟩ := hw
  have hz := h.bel.size
  refine ⟨fun k => A' k ∧ W.heap.size ≤ k ∧ k < w'.heap.size, ⟨trep_own r' (fun k hk => (h.own k hk).1) m'.own hz, h.lst.kept m'.stp h.far, fun k hk => hk.2, fun k hk q => ?_, ?_⟩, m'.stp, fun k hk q => m'.own k hk q.1⟩
  · have hlt := (h.lst.row.lt k hk).2
    exact h.far k hk (m'.own k hlt q.1)
  · exact h.bel.trans (m'.stp.below hz (fun k hk q => by have := (h.own k q).1; omega))

theorem twC_alloc {W w : World} {v : Value} {l L : List T3} (h : Tw W w v l L) : TwC W (w.alloc (.cells #[.int .i64 0, .int .i64 0, .int .i64 0] 41)) v l L w.heap.size 0 0 := by
  obtain ⟨A, h⟩ := h
  refine ⟨A, h.still ((Step.refl _ w).alloc _), heap_alloc_new w _, fun q => by have := (h.own _ q).2; omega, h.bel.size, fun q => ?_⟩
  have := (h.lst.row.lt _ q).2
  omega

theorem TwC.two {W w : World} {v : Value} {l L : List T3} {b : Nat} {x y : Int} (h : TwC W w v l L b x y) : Tw W w v l L := by
  obtain ⟨A, h⟩ := h; exact ⟨A, h.two⟩
theorem TwC.blk {W w : World} {v : Value} {l L : List T3} {b : Nat} {x y : Int} (h : TwC W w v l L b x y) : w.heap[b]? = some (.cells #[.int .i64 x, .int .i64 y, .int .i64 0] 41 (0, 0)) := by
  obtain ⟨A, h⟩ := h; exact h.blk

theorem TwC.store {W w : World} {v : Value} {l L : List T3} {b : Nat} {x y : Int} (h : TwC W w v l L b x y) (x' y' : Int) :
    ∀ W2, (((w.setCell ⟨b, 0, none⟩ (.int .i64 x')).setCell ⟨b, 1, none⟩ (.int .i64 y')).setCell ⟨b, 2, none⟩ (.int .i64 0)) = W2 → TwC W W2 v l L b x' y' := by
  intro W2 e
  obtain ⟨A, h⟩ := h
  obtain ⟨b2, s2⟩ := due_store h.blk (.int .i64 x') (.int .i64 y') (.int .i64 0) W2 e
  refine ⟨A, ⟨h.two.rep.kept s2 (fun k _ hA q => h.off (q ▸ hA)), h.two.lst.kept s2 (fun k hk q => h.far (by rw [hk, q])), fun k hk => ⟨(h.two.own k hk).1, Nat.lt_of_lt_of_le (h.two.own k hk).2 s2.size⟩, h.two.far, h.two.bel.trans (s2.below h.two.bel.size (fun k hk q => by have := h.ge; omega))⟩, b2, h.off, h.ge, h.far⟩

theorem due3_none (W w : World) (v : Value) (l L : List T3) (now : Int) (b : Nat) (x y : Int) (h : TwC W w v l L b x y) (hn : ∀ t ∈ L, now < t.2.1) :
    Calls Try.prog 16 #[.pointer (some ⟨W.heap.size, 0, none⟩), .int .i64 now] w fun e w' => e = .returned (.tuple #[.int .i64 0, .int .i64 0, .bool false]) ∧ TwC W w' v l L b x y := by
  obtain ⟨A, h⟩ := h
  refine (tdue_none W.heap.size A L now w h.two.rep hn).mono ?_
  rintro e w' ⟨rfl, hs⟩
  exact ⟨rfl, A, h.two.still hs, by rw [hs.block b (lt_of_block h.blk) (fun q => q)]; exact h.blk, h.off, h.ge, h.far⟩

theorem due3_some (W w : World) (v : Value) (l L : List T3) (t : T3) (now : Int) (b : Nat) (x y : Int) (h : TwC W w v l L b x y) (ht : Least L t) (hd : t.2.1 ≤ now) (hm : Mom L) (hl : L.length + 1 ≤ 8796093022208) :
    Calls Try.prog 16 #[.pointer (some ⟨W.heap.size, 0, none⟩), .int .i64 now] w fun e w' => e = .returned (.tuple #[.int .i64 t.1, .int .i64 t.2.1, .bool true]) ∧ TwC W w' v l (nextT L t) b x y := by
  obtain ⟨A, h⟩ := h
  refine (tdue_some W.heap.size A L t now w h.two.rep ht hd hm hl).mono ?_
  rintro e w' ⟨rfl, hw⟩
  obtain ⟨A', h', m'⟩ := h.two.went2 hw
  exact ⟨rfl, A', h', by rw [m'.stp.block b (lt_of_block h.blk) h.off]; exact h.blk, fun q => h.off (m'.own b (lt_of_block h.blk) q), h.ge, h.far⟩

/-- nothing is due, or one is the first -/
theorem due_or' {L : List T3} (now : Int) : (∀ t ∈ L, now < t.2.1) ∨ ∃ t, Least L t ∧ t.2.1 ≤ now := by
  by_cases hz : L = []
  · subst hz; exact .inl (fun t ht => by simp at ht)
  · obtain ⟨t, ht⟩ := exists_least hz
    by_cases c : t.2.1 ≤ now
    · exact .inr ⟨t, ht, c⟩
    · refine .inl (fun u hu => ?_)
      have := ht.2 u hu
      rw [ltB_false] at this
      simp only [pr] at this
      omega

/-- the record at k: its id and its moment -/
def trow (rows : List (List Int)) (k : Nat) : E := ((rows.getD k []).getD 0 0, (rows.getD k []).getD 1 0)

theorem trow_wf {w : World} {ao : Option Addr} {len : Nat} {rows : List (List Int)} {k n : Nat} (h : RecAt w n ao len rows) (hk : k < len) : W64 (trow rows k).1 ∧ W64 (trow rows k).2 := by
  have hl := h.1
  have hm : rows.getD k [] ∈ rows := by simp [List.getD_eq_getElem?_getD, show k < rows.length by omega]
  obtain ⟨_, h2⟩ := h.2.1 _ hm
  have : ∀ j, W64 ((rows.getD k []).getD j 0) := by
    intro j
    by_cases hj : j < (rows.getD k []).length
    · exact h2 _ (by rw [List.getD_eq_getElem?_getD (l := rows.getD k []), List.getElem?_eq_getElem hj]; exact List.getElem_mem hj)
    · rw [List.getD_eq_getElem?_getD (l := rows.getD k []), List.getElem?_eq_none (by omega)]; exact ⟨by decide, by decide⟩
  exact ⟨this 0, this 1⟩

theorem trow_at {w wr : World} {ao : Option Addr} {len : Nat} {rows : List (List Int)} {k : Nat} (h : RecAt w 3 ao len rows) (hk : k < len) (hb : Below w.heap.size w wr) : ∃ b off, ao = some ⟨b, off, none⟩ ∧ wr.cell? ⟨b, off + k * 3, none⟩ = some (.int .i64 (trow rows k).1) ∧ wr.cell? ⟨b, off + k * 3 + 1, none⟩ = some (.int .i64 (trow rows k).2) := by
  rcases h.2.2 with h0 | ⟨b, off, e, hlt, hc⟩
  · omega
  · refine ⟨b, off, e, ?_, ?_⟩
    · rw [hb.cell (by exact hlt)]; exact hc k 0 hk (by omega)
    · rw [hb.cell (by exact hlt)]; exact hc k 1 hk (by omega)

theorem trow_in {w wr : World} {b off len : Nat} {rows : List (List Int)} {k : Nat} (h : RecAt w 3 (some ⟨b, off, none⟩) len rows) (hk : k < len) (hb : Below w.heap.size w wr) : wr.cell? ⟨b, off + k * 3, none⟩ = some (.int .i64 (trow rows k).1) ∧ wr.cell? ⟨b, off + k * 3 + 1, none⟩ = some (.int .i64 (trow rows k).2) := by
  obtain ⟨b', off', e, h1, h2⟩ := trow_at h hk hb
  simp only [Option.some.injEq, Addr.mk.injEq, and_true] at e
  obtain ⟨rfl, rfl⟩ := e
  exact ⟨h1, h2⟩

theorem Tw.at_l {W w : World} {ao : Option Addr} {cap : Nat} {l L : List T3} (h : Tw W w (.slice ao l.length cap) l L) {k : Nat} (hk : k < l.length) : ∃ g, ao = some ⟨g, 0, none⟩ ∧ w.cell? ⟨g, k * 3 + 1, none⟩ = some (.int .i64 (at3 l k).2.1) := by
  rcases h.lst.cases with ⟨_, rfl⟩ | ⟨g, cap', e, _, _, hc⟩
  · simp at hk
  · simp only [Value.slice.injEq, true_and] at e
    exact ⟨g, e.1, (hc k hk).2.1⟩

set_option maxHeartbeats 8000000 in
set_option maxRecDepth 100000 in
theorem timersOrder_walk (ao : Option Addr) (len cap : Nat) (rows : List (List Int)) (now : Int) (w : World) (ra : RecAt w 3 ao len rows) (lb : len * 24 ≤ 140737488351232) (h1 : (Lit.int .i64 now).wf = true) :
    Calls Try.prog 5 #[.slice ao len cap, .int .i64 now] w fun e w' => e = .returned (.bool true) ∧ Below w.heap.size w w' := by
  have wn : W64 now := i64_of_wf h1
  have w0 : W64 0 := ⟨by omega, by omega⟩
  clear h1
  go_enter Try.func5, Try.ntmps5
  go_wp2_with fail
  refine (tnew_any _).mono ?_
  rintro e w0' ⟨rfl, r0, s0⟩
  have T0 := tw_new r0 s0
  clear r0 s0
  go_wp2_with fail
  go_loopw [6, 7] (fun v i wr => ∃ (k : Nat) (L : List T3), k ≤ len ∧ i = .int .i64 k ∧ L.length ≤ k ∧ Hid (Mom L) ∧ Hid (Once L) ∧ Tw w wr v L L) (fun _ i _ => len - (intOf i).toNat)
  case atStart => exact ⟨0, [], Nat.zero_le _, rfl, Nat.le_refl _, mom_nil, once_nil, T0⟩
  case round =>
    obtain ⟨k, L, hk, rfl, hll, hmo, hon, T⟩ := hrel
    by_cases hlt : k < len
    · obtain ⟨wf1, wf2⟩ := trow_wf ra hlt
      obtain ⟨bk, off, rfl, c0, c1⟩ := trow_at ra hlt T.bel
      have hlt' : (k : Int) < (len : Int) := by omega
      by_cases ca : (trow rows k).2 < -1099511627776
      · go_wp2_with fail
        refine (answers2 w _ _ _ _ T).mono ?_
        rintro e w6 ⟨rfl, T6⟩
        go_wp2
        go_ret
        exact ⟨rfl, T6.bel⟩
      · have HM : Hid (Mom (setT L (trow rows k).1 (trow rows k).2 0)) := mom_set hmo.out _ _ (by omega)
        have HO : Hid (Once (setT L (trow rows k).1 (trow rows k).2 0)) := once_set hon.out _ _
        have HL : Hid ((setT L (trow rows k).1 (trow rows k).2 0).length ≤ L.length + 1) := setT_le L _ _ _
        go_wp2_with fail
        go_still_tail 11, (by kernel_rfl)
        go_wp2_with (go_at_call 10; refine (set2 w _ _ _ L _ _ 0 (by exact T.still ⟨rfl, rfl, rfl, Nat.le_refl _, fun _ _ _ => rfl⟩) wf1 wf2 w0 (by omega)).mono ?_; rintro e w2 ⟨rfl, T2⟩)
        clear c0 c1
        obtain ⟨c0, c1⟩ := trow_in ra hlt T2.bel
        go_still_tail 11, (by kernel_rfl)
        go_wp2_with (go_at_call 11; refine (refset2 w _ _ _ _ _ _ 0 (by exact T2.still ⟨rfl, rfl, rfl, Nat.le_refl _, fun _ _ _ => rfl⟩) (by omega)).mono ?_; rintro e w3 ⟨v3, rfl, T3⟩)
        go_roundw
        case rel => exact ⟨k + 1, _, by omega, by go_num, by have := HL.out; omega, HM, HO, T3⟩
        case measure => simp [intOf]; omega
    · have hlt' : ¬ (k : Int) < (len : Int) := by omega
      obtain ⟨ao2, cap2, rfl⟩ := T.shape
      have C0 := twC_alloc T
      have K0 : Hid (Come L L now 0 0 0) := come_start hon.out hmo.out
      have hlL : L.length ≤ 5864062014634 := by omega
      go_wp2_with fail
      generalize hlb : wr.heap.size = lb at C0 ⊢
      go_loopw [9] (fun i wr' => ∃ (n : Nat) (M : List T3) (x y : Int), i = .int .i64 n ∧ Hid (Come L M now n x y) ∧ TwC w wr' (.slice ao2 L.length cap2) L M lb x y) (fun i _ => L.length - (intOf i).toNat)
      case atStart => exact ⟨0, L, 0, 0, rfl, K0, C0⟩
      case round =>
        obtain ⟨n, M, x, y, rfl, K, C⟩ := hrel
        rcases due_or' (L := M) now with hnone | ⟨t, ht, hd⟩
        · have HD : Hid (M.length = waitN L now ∧ n + waitN L now = L.length) := K.out.done hnone
          have D := due3_none w wr _ L M now _ x y C hnone
          obtain ⟨wN, hwN⟩ : ∃ wN, waitN L now = wN := ⟨_, rfl⟩
          have hwl := waitN_le L now
          have hnl : n ≤ L.length := by have := HD.out.2; omega
          clear hnone K C
          go_wp2_with (go_at_call 16; refine D.mono ?_; rintro e w2 ⟨rfl, C2⟩)
          have T2 := C2.two
          clear C2 D
          go_loop [13, 14] (fun x i => ∃ k : Nat, k ≤ L.length ∧ i = .int .i64 k ∧ x = .int .i64 (waitN (L.take k) now)) (fun _ i => L.length - (intOf i).toNat)
          case atStart => exact ⟨0, Nat.zero_le _, rfl, by simp [waitN]⟩
          case round =>
            obtain ⟨j, hj, rfl, rfl⟩ := hrel
            by_cases hjt : j < L.length
            · have hjt' : (j : Int) < (L.length : Int) := by omega
              obtain ⟨g, hg, c1⟩ := T2.at_l hjt
              subst hg
              have HW : Hid (waitN (L.take (j + 1)) now = waitN (L.take j) now + (if now < (at3 L j).2.1 then 1 else 0)) := waitN_take hjt
              have hwj : waitN (L.take j) now ≤ j := by
                have := waitN_le (L.take j) now
                rw [List.length_take] at this
                omega
              by_cases c : now < (at3 L j).2.1
              · have HW' : Hid (waitN (L.take (j + 1)) now = waitN (L.take j) now + 1) := by show _ = _; rw [HW.out, if_pos c]
                clear HW
                go_wp2
                go_round
                case rel => exact ⟨j + 1, by omega, by go_num, by rw [HW'.out]; go_num⟩
                case measure => simp [intOf]; omega
              · have HW' : Hid (waitN (L.take (j + 1)) now = waitN (L.take j) now) := by show _ = _; rw [HW.out, if_neg c]; rfl
                clear HW
                go_wp2
                go_round
                case rel => exact ⟨j + 1, by omega, by go_num, by rw [HW'.out]⟩
                case measure => simp [intOf]; omega
            · have hjt' : ¬ (j : Int) < (L.length : Int) := by omega
              have ht : L.take j = L := List.take_of_length_le (by omega)
              rw [ht, hwN]
              rw [hwN] at HD
              have HT : Hid (L.take j = L) := ht
              clear ht
              have hwl' : wN ≤ L.length := by omega
              have bq : ((n : Int) == (L.length : Int) - (wN : Int)) = true := by
                have := HD.out.2
                simp; omega
              go_wp2_with fail
              refine (answers2 w _ _ _ _ T2).mono ?_
              rintro e w6 ⟨rfl, T6⟩
              go_wp2_with fail
              refine (len2 w _ _ _ _ wN T6 HD.out.1).mono ?_
              rintro e w7 ⟨rfl, rfl⟩
              go_wp2
              go_ret
              exact ⟨rfl, T6.bel⟩
        · have hne : n < L.length := by
            have := K.out.cnt
            have := List.length_pos_of_mem ht.1
            omega
          have hMl : M.length + 1 ≤ 8796093022208 := by have := K.out.cnt; omega
          have HNx : Hid (nextT M t = dropT M t.1) := once_next K.out.once ht.1
          have HK : Hid (Come L (dropT M t.1) now (n + 1) t.1 t.2.1) := K.out.next C.two.nodup ht hd
          have HOr : Hid (0 < n → y < t.2.1 ∨ (y = t.2.1 ∧ x < t.1)) := fun h0 => by
            have := K.out.ord h0 t ht.1
            rw [ltB_iff] at this
            exact this
          have D := due3_some w wr _ L M t now _ x y C ht hd K.out.mom hMl
          rw [HNx.out] at D
          clear HNx K
          generalize dropT M t.1 = M2 at D HK
          obtain ⟨t1, t2, t3⟩ := t
          simp only at D HK HOr hd
          have g1 : decide (now < t2) = false := decide_eq_false (by omega)
          have g5 : decide ((L.length : Int) ≤ (n : Int)) = false := decide_eq_false (by omega)
          clear ht
          by_cases n0 : 0 < n
          · have g2 : decide ((0 : Int) < (n : Int)) = true := decide_eq_true (by omega)
            have g3 : decide (t2 < y) = false := decide_eq_false (by have := HOr.out n0; omega)
            by_cases ty : t2 = y
            · have g4 : (t2 == y) = true := by simp [ty]
              have g6 : decide (t1 ≤ x) = false := decide_eq_false (by have := HOr.out n0; omega)
              clear ty HOr
              go_wp2_with (go_at_call 16; refine D.mono ?_; rintro e w2 ⟨rfl, C2⟩; have b2 := C2.blk; have e0 : w2.cell? ⟨lb, 0, none⟩ = some (.int .i64 x) := (by simp [World.cell?, b2]); have e1 : w2.cell? ⟨lb, 1, none⟩ = some (.int .i64 y) := (by simp [World.cell?, b2]); have e2 : w2.cell? ⟨lb, 2, none⟩ = some (.int .i64 0) := (by simp [World.cell?, b2]); have f0 : w2.frozen? ⟨lb, 0, none⟩ = false := (by simp [World.frozen?, b2]); have f1 : w2.frozen? ⟨lb, 1, none⟩ = false := (by simp [World.frozen?, b2]); have f2 : w2.frozen? ⟨lb, 2, none⟩ = false := (by simp [World.frozen?, b2]))
              go_roundw
              case rel => exact ⟨n + 1, M2, t1, t2, by go_num, HK, C2.store t1 t2 _ rfl⟩
              case measure => simp [intOf]; omega
            · have g4 : (t2 == y) = false := by simpa using ty
              clear HOr
              go_wp2_with (go_at_call 16; refine D.mono ?_; rintro e w2 ⟨rfl, C2⟩; have b2 := C2.blk; have e0 : w2.cell? ⟨lb, 0, none⟩ = some (.int .i64 x) := (by simp [World.cell?, b2]); have e1 : w2.cell? ⟨lb, 1, none⟩ = some (.int .i64 y) := (by simp [World.cell?, b2]); have e2 : w2.cell? ⟨lb, 2, none⟩ = some (.int .i64 0) := (by simp [World.cell?, b2]); have f0 : w2.frozen? ⟨lb, 0, none⟩ = false := (by simp [World.frozen?, b2]); have f1 : w2.frozen? ⟨lb, 1, none⟩ = false := (by simp [World.frozen?, b2]); have f2 : w2.frozen? ⟨lb, 2, none⟩ = false := (by simp [World.frozen?, b2]))
              go_roundw
              case rel => exact ⟨n + 1, M2, t1, t2, by go_num, HK, C2.store t1 t2 _ rfl⟩
              case measure => simp [intOf]; omega
          · have g2 : decide ((0 : Int) < (n : Int)) = false := decide_eq_false (by omega)
            have g2' : decide (0 < n) = false := decide_eq_false n0
            clear HOr
            go_wp2_with (go_at_call 16; refine D.mono ?_; rintro e w2 ⟨rfl, C2⟩; have b2 := C2.blk; have e0 : w2.cell? ⟨lb, 0, none⟩ = some (.int .i64 x) := (by simp [World.cell?, b2]); have e1 : w2.cell? ⟨lb, 1, none⟩ = some (.int .i64 y) := (by simp [World.cell?, b2]); have e2 : w2.cell? ⟨lb, 2, none⟩ = some (.int .i64 0) := (by simp [World.cell?, b2]); have f0 : w2.frozen? ⟨lb, 0, none⟩ = false := (by simp [World.frozen?, b2]); have f1 : w2.frozen? ⟨lb, 1, none⟩ = false := (by simp [World.frozen?, b2]); have f2 : w2.frozen? ⟨lb, 2, none⟩ = false := (by simp [World.frozen?, b2]))
            go_roundw
            case rel => exact ⟨n + 1, M2, t1, t2, by go_num, HK, C2.store t1 t2 _ rfl⟩
            case measure => simp [intOf]; omega

end Go.Proofs.Ytbicaknenphcbaa.HW
