/- The walk of TraceOwn. -/
import Derived.Test.YtbgpojhdkmhcbaaTrcTwin
namespace Go.Proofs.Ytbgpojhdkmhcbaa.TC
open Go.ChangeShapes Go.WideShapes Go.ChangeAt Go.RowKit Go.Proofs.Ytbgpojhdkmhcbaa.AR

/-- a trace, made since w -/
structure Solo (w W : World) (tb : Nat) (v : Value) (L : List I6) : Prop where
  kp : Kp w W
  tr : Tr W tb w.heap.size v L
  tb0 : w.heap.size ≤ tb

theorem Solo.still {w W W' : World} {tb : Nat} {v : Value} {L : List I6} (h : Solo w W tb v L) (k : Kp W W') : Solo w W' tb v L := ⟨h.kp.trans k, h.tr.kp k, h.tb0⟩
theorem Solo.add {w W W' : World} {tb : Nat} {v : Value} {L M : List I6} (h : Solo w W tb v L) (a : Added W tb w.heap.size v M W') : ∃ v', Solo w W' tb v' M := by
  obtain ⟨v', t, k, _⟩ := a.new h.kp h.tb0 (fun g e => (h.tr.ls.row.lt g e).1)
  exact ⟨v', k, t, h.tb0⟩

/-- what is told, beside the trace and what was told besides: a store into it touches neither -/
structure Told (w W : World) (tb : Nat) (v : Value) (L : List I6) (ga n : Nat) (gb : Nat) (A : List I6) : Prop where
  so : Solo w W tb v L
  la : Ls W ga (.slice (some ⟨ga, 0, none⟩) n n) A
  lb : Ls W gb (.slice (some ⟨gb, 0, none⟩) n n) L
  na : A.length = n
  a0 : w.heap.size ≤ ga
  ab : ga < gb
  at0 : tb < ga
  av : ∀ k, v.ownBlock = some k → k < ga

theorem Told.set {w W : World} {tb : Nat} {v : Value} {L : List I6} {ga n gb : Nat} {A : List I6} (h : Told w W tb v L ga n gb A) {i : Nat} (hi : i < n) (y : Int) :
    ∃ A', Told w (W.setCell ⟨ga, i * 6 + 2, none⟩ (.int .i64 y)) tb v L ga n gb A' := by
  have s : Step (fun k => k = ga) W (W.setCell ⟨ga, i * 6 + 2, none⟩ (.int .i64 y)) := (Step.refl (fun k => k = ga) W).setCell (p := ⟨ga, i * 6 + 2, none⟩) rfl _
  have la := h.la
  rw [← h.na] at la
  have q := la.setLen (i := i) (by rw [h.na]; exact hi) y
  rw [h.na] at q
  have := h.a0
  have := h.ab
  have := h.at0
  refine ⟨_, ⟨Step.trans_new h.so.kp s (fun i hi q => by omega), h.so.tr.kept s (by omega) (fun k hk q => by have := h.av k hk; omega), h.so.tb0⟩, q, h.lb.kept s (fun k hk q => ?_), by rw [List.length_set]; exact h.na, h.a0, h.ab, h.at0, h.av⟩
  simp only [Value.ownBlock, Option.some.injEq] at hk
  omega

/-- another interval behind what was told -/
theorem Told.more {w W W' : World} {tb : Nat} {v : Value} {L : List I6} {ga n gb : Nat} {A : List I6} {o : Obj} (h : Told w W tb v L ga n gb A) (hg : (W.alloc o).grownBy W' (Value.slice (some ⟨ga, 0, none⟩) n n).ownBlock) :
    Solo w W' tb v L ∧ Ls W' gb (.slice (some ⟨gb, 0, none⟩) n n) L := by
  have s : Step (fun k => k = ga) W W' := ((Step.refl (fun k => k = ga) W).alloc o).grown hg (fun k e => by simp only [Value.ownBlock, Option.some.injEq] at e; exact e.symm)
  have := h.a0
  have := h.ab
  have := h.at0
  refine ⟨⟨Step.trans_new h.so.kp s (fun i hi q => by omega), h.so.tr.kept s (by omega) (fun k hk q => by have := h.av k hk; omega), h.so.tb0⟩, h.lb.kept s (fun k hk q => ?_)⟩
  simp only [Value.ownBlock, Option.some.injEq] at hk
  omega

theorem told_new {w W W1 W2 : World} {tb : Nat} {v : Value} {L : List I6} (h : Solo w W tb v L) (l1 : Ls W1 W.heap.size (.slice (some ⟨W.heap.size, 0, none⟩) L.length L.length) L) (k1 : Kp W W1) (l2 : Ls W2 W1.heap.size (.slice (some ⟨W1.heap.size, 0, none⟩) L.length L.length) L) (k2 : Kp W1 W2) :
    Told w W2 tb v L W.heap.size L.length W1.heap.size L :=
  ⟨h.still (k1.trans k2), l1.kp k2, l2, rfl, h.kp.size, (l1.row.lt _ rfl).2, h.tr.lt, fun k e => (h.tr.ls.row.lt k e).2⟩

set_option maxHeartbeats 8000000 in
theorem traceOwn_walk (ao : Option Addr) (len cap : Nat) (rows : List (List Int)) (w : World) (ra : RecAt w 6 ao len rows) (lb : len * 48 ≤ 140737488351232) :
    Calls Try.prog 6 #[.slice ao len cap] w fun e w' => e = .returned (.bool true) ∧ Below w.heap.size w w' := by
  have HM : Hid ((rows.map ivOf).length = len) := by show _ = _; rw [List.length_map]; exact ra.1
  have HC : Hid (∀ k, k < len → ∃ b off, ao = some ⟨b, off, none⟩ ∧ b < w.heap.size ∧ ∀ W', Kp w W' → C6 W' b (off + k * 6) (at6 (rows.map ivOf) k)) := fun k hk => rec_c6 ra hk
  generalize rows.map ivOf = M at *
  clear ra
  go_enter Try.func6, Try.ntmps6
  go_wp2_with (first
    | (go_at_call 8; refine (new_any _).mono ?_; rintro e w1 ⟨rfl, t1, k1⟩)
    | fail)
  have T1 : Solo w w1 w.heap.size (.slice none 0 0) (addAll (M.take 0)) := ⟨k1, t1, Nat.le_refl _⟩
  clear t1 k1
  go_loopw [4] (fun i wr => ∃ (k : Nat) (v1 : Value), k ≤ len ∧ i = .int .i64 k ∧ Solo w wr w.heap.size v1 (addAll (M.take k))) (fun i _ => len - (intOf i).toNat)
  case atStart => exact ⟨0, _, Nat.zero_le _, rfl, T1⟩
  case round =>
    obtain ⟨k, v1, hk, rfl, tw⟩ := hrel
    by_cases hlt : k < len
    · have hlt' : (k : Int) < (len : Int) := by omega
      have j1 : (0 : Int) ≤ (k : Int) := by omega
      have j3 : ((k : Int)).toNat = k := by omega
      obtain ⟨b, off, rfl, hb, hc⟩ := HC.out k hlt
      have HK : Hid (addAll (M.take (k + 1)) = addL (addAll (M.take k)) (at6 M k)) := by show _ = _; rw [take_snoc6 (by rw [HM.out]; exact hlt), addAll_snoc]
      have HL : Hid ((addAll (M.take k)).length + 1 ≤ 2932031007402) := by show _ ≤ _; have := addAll_len k M (by rw [HM.out]; exact hk); omega
      have HX : Hid (∀ W', Kp w W' → C6 W' b (off + k * 6) (at6 M k)) := hc
      clear hc
      generalize addAll (M.take k) = L at *
      generalize at6 M k = x at *
      have HS : Hid (∀ W, Calls Try.prog 9 #[.agg #[.int .i64 x.k, .int .i64 x.f, .int .i64 x.l, .int .i64 x.a, .int .i64 x.t, .int .i64 x.c]] W fun e w' => e = .returned (.bool (smallB x)) ∧ Kp W w') := fun W => small_any x W
      obtain ⟨s1, r1⟩ : ∃ s, smallB x = s := ⟨_, rfl⟩
      rw [r1] at HS
      clear r1
      obtain ⟨a0, a1, a2, a3, a4, a5, _⟩ := HX.out _ tw.kp
      cases s1
      · go_wp2_with (first
          | (go_at_call 9; refine (HS.out _).mono ?_; rintro e w2 ⟨rfl, k2⟩)
          | (go_at_call 10; refine (answers_any _).mono ?_; rintro e w3 ⟨rfl, k3⟩)
          | fail)
        go_ret
        exact ⟨rfl, ((tw.kp.trans k2).trans k3).below⟩
      · have HA : Hid (∀ W v, Solo w W w.heap.size v L → Calls Try.prog 11 #[.pointer (some ⟨w.heap.size, 0, none⟩), .agg #[.int .i64 x.k, .int .i64 x.f, .int .i64 x.l, .int .i64 x.a, .int .i64 x.t, .int .i64 x.c]] W fun e w' => e = .returned (.tuple #[]) ∧ ∃ v', Solo w w' w.heap.size v' (addL L x)) := by
          intro W v h
          refine (add_any w.heap.size w.heap.size v L x W h.tr HL.out h.kp.size).mono ?_
          rintro e w' ⟨rfl, a⟩
          exact ⟨rfl, h.add a⟩
        go_wp2_with (first
          | (go_at_call 9; refine (HS.out _).mono ?_; rintro e w2 ⟨rfl, k2⟩; have t2 := tw.still k2; clear tw k2 a0 a1 a2 a3 a4 a5; obtain ⟨a0, a1, a2, a3, a4, a5, _⟩ := HX.out _ t2.kp)
          | (go_at_call 11; refine (HA.out _ _ t2).mono ?_; rintro e w3 ⟨rfl, v3, t3⟩)
          | fail)
        go_roundw
        case rel => exact ⟨k + 1, v3, by omega, by go_num, by rw [HK.out]; exact t3⟩
        case measure => simp [intOf]; omega
    · have hlt' : ¬ (k : Int) < (len : Int) := by omega
      have HL : Hid ((addAll (M.take k)).length + 1 ≤ 2932031007402) := by show _ ≤ _; have := addAll_len k M (by rw [HM.out]; exact hk); omega
      generalize addAll (M.take k) = L at *
      go_wp2_with (first
        | (go_at_call 15; refine (list_any _ _ _ _ _ tw.tr).mono ?_; rintro e w2 ⟨rfl, l2, k2⟩; have t2 := tw.still k2; have tw' := tw; clear tw)
        | (go_at_call 15; refine (list_any _ _ _ _ _ t2.tr).mono ?_; rintro e w3 ⟨rfl, l3, k3⟩)
        | fail)
      have TD := told_new tw' l2 k2 l3 k3
      clear tw' t2 l2 k2 l3 k3
      generalize hga : wr.heap.size = ga at *
      generalize hgb : w2.heap.size = gb at *
      clear hga hgb
      go_loopw [7] (fun i wr => ∃ (j : Nat) (A : List I6), j ≤ L.length ∧ i = .int .i64 j ∧ Told w wr w.heap.size v1 L ga L.length gb A) (fun i _ => L.length - (intOf i).toNat)
      case atStart => exact ⟨0, _, Nat.zero_le _, rfl, TD⟩
      case round =>
        obtain ⟨j, A, hj, rfl, td⟩ := hrel
        by_cases hlt2 : j < L.length
        · have hlt2' : (j : Int) < (L.length : Int) := by omega
          have j1 : (0 : Int) ≤ (j : Int) := by omega
          have j3 : ((j : Int)).toNat = j := by omega
          have hA : 0 < A.length := by rw [td.na]; omega
          obtain ⟨g', c', e', _, _, fr, hc⟩ := td.la.pos hA
          simp only [Value.slice.injEq, Option.some.injEq, Addr.mk.injEq, and_true] at e'
          obtain ⟨rfl, _, rfl⟩ := e'
          have hLb : L.length ≤ 2932031007402 := by have := HL.out; omega
          have c2 := (hc j (by rw [td.na]; exact hlt2)).c2
          have f2 := fr (j * 6 + 2)
          clear hc fr
          obtain ⟨A', td'⟩ := td.set hlt2 (-1)
          go_wp2
          go_roundw
          case rel => exact ⟨j + 1, A', by omega, by go_num, td'⟩
          case measure => simp [intOf]; omega
        · have hlt2' : ¬ (j : Int) < (L.length : Int) := by omega
          have HLA : Hid (A.length + 1 ≤ 2932031007402) := by show _ ≤ _; rw [td.na]; exact HL.out
          have la := td.la
          have na := td.na
          rw [← na] at la
          have hga : ga ≤ wr.heap.size := Nat.le_of_lt (la.row.lt ga rfl).2
          go_wp2_with (first
            | (at_builtin; refine wpList_append_six _ rfl _ _ 22 27 rfl Try.underlying22 iv_info ga (.slice (some ⟨ga, 0, none⟩) A.length A.length) A (by rw [na]; rfl) (by exact la.row.alloc _) wr.heap.size ⟨2, 0, 0, 0, 0, 0⟩ rfl (by exact alloc_at wr _) HLA.out (by simp; omega) ?_; intro g' cap' w4 row4 hg4 hloc; rw [na] at hg4; obtain ⟨so4, lb4⟩ := td.more hg4)
            | (go_at_call 10; refine (answers_any _).mono ?_; rintro e w5 ⟨rfl, k5⟩; have so5 := so4.still k5; have lb5 := lb4.kp k5)
            | (go_at_call 15; refine (list_any _ _ _ _ _ so5.tr).mono ?_; rintro e w6 ⟨rfl, l6, k6⟩; have so6 := so5.still k6; have lb6 := lb5.kp k6)
            | (go_at_call 14; refine (same_any _ _ _ _ L _ l6 lb6).mono ?_; rintro e w7 ⟨rfl, k7⟩)
            | fail)
          go_ret
          exact ⟨rfl, (so6.kp.trans k7).below⟩

end Go.Proofs.Ytbgpojhdkmhcbaa.TC
