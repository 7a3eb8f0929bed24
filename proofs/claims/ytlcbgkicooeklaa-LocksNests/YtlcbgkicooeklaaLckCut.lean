/- One of a row is taken out; all that are so are taken out: slices.Delete, slices.DeleteFunc. -/
import Derived.Test.YtlcbgkicooeklaaLckFind
namespace Go.Proofs.Ytlcbgkicooeklaa.LK
open Go.ChangeShapes Go.WideShapes Go.ChangeAt Go.RowKit Go.Proofs.Ytlcbgkicooeklaa.AR

theorem zero_hd (w : World) : (zeroValue 53).run Try.prog w = .ok (.agg #[.int .i64 0, .int .i64 0, .int .i64 0]) w := by kernel_rfl

theorem agg_one : ∀ v ∈ (Value.agg #[.int .i64 0, .int .i64 0, .int .i64 0]).cells, v.oneCell' = true := by
  intro v hv
  simp [Value.cells] at hv
  subst hv
  rfl

/-- 'clear' behind the end of a row of what is held -/
theorem clear_end (w : World) (base g n m cap c : Nat) (xs : List Value) (h : w.ownsRow base 53 3 (.slice (some ⟨g, 0, none⟩) n cap) n xs) (hr : n + m ≤ cap) :
    ∃ w', (∀ ty, (Builtin.clear_ #[46] ty #[.slice (some ⟨g, n * 3, none⟩) m c]).run Try.prog w = .ok (.tuple #[]) w') ∧ w'.ownsRow base 53 3 (.slice (some ⟨g, 0, none⟩) n cap) n xs ∧ Step (fun k => k = g) w w' := by
  obtain ⟨w', h1, h2, h3⟩ := run_clear_end (P := Try.prog) w 46 53 0 _ 3 Try.underlying46 zero_hd rfl agg_one base g n m cap c xs h hr
  exact ⟨w', fun ty => h1, h2, h3⟩

theorem cells_from {w : World} {e : TypeId} {base g cap k : Nat} {L : List Hd} (h : Ls w e base (.slice (some ⟨g, 0, none⟩) L.length cap) L) : ∀ j u, (flatH (L.drop k))[j]? = some u → w.cell? ((⟨g, k * 3, none⟩ : Addr).add j) = some u := by
  intro j u hj
  rw [← flatH_drop, List.getElem?_drop] at hj
  have := h.row.cells (g := g) rfl (k * 3 + j) u hj
  rw [Addr.add_lit] at this ⊢
  rw [Nat.zero_add] at this
  exact this

set_option maxHeartbeats 4000000 in
theorem delete_two (g cap i j base : Nat) (L : List Hd) (w : World) (h : Ls w 53 base (.slice (some ⟨g, 0, none⟩) L.length cap) L) (hi : i < L.length) (hj : j = i + 1) (hcap : L.length ≤ cap) (hcm : cap ≤ maxLen) :
    Calls Try.prog 29 #[.slice (some ⟨g, 0, none⟩) L.length cap, .int .i64 (i : Int), .int .i64 (j : Int)] w
      fun e w' => e = .returned (.slice (some ⟨g, 0, none⟩) (L.length - 1) cap) ∧ Ls w' 53 base (.slice (some ⟨g, 0, none⟩) (L.length - 1) cap) (cutH L i) ∧ Step (fun k => k = g) w w' := by
  have hlen := h.len
  have hcm' : cap ≤ 9223372036854775807 := hcm
  obtain ⟨i0, hi0, hz0, hz1, hz2⟩ := info_parts hd_info
  obtain ⟨n, hn⟩ : ∃ n, L.length = n := ⟨_, rfl⟩
  have HCL : Hid ((cutH L i).length = n - 1) := by rw [← hn]; exact cutH_len hi
  have HU : Hid (Ls w 53 base (.slice (some ⟨g, 0, none⟩) i cap) (L.take i)) := h.upto (by omega)
  have HT : Hid ((flatH (L.take i)).length = i * 3) := by show _ = _; rw [flatH_len, List.length_take]; congr 1; omega
  have HD : Hid ((flatH (L.drop j)).length = (n - j) * 3) := by show _ = _; rw [flatH_len, List.length_drop, hn]
  have HF0 : Hid (∀ q u, (flatH (L.drop j))[q]? = some u → w.drew.cell? ((⟨g, j * 3, none⟩ : Addr).add q) = some u) := fun q u hq => cells_from h q u hq
  have HC : Hid (flatH (L.take i) ++ flatH (L.drop j) = flatH (cutH L i)) := by show _ = _; rw [← flatH_append, hj]; rfl
  rw [hn] at hi hcap hlen ⊢
  have HL : Hid (L.length = n) := hn
  have HTL : Hid ((L.take i).length = i) := by show _ = _; rw [List.length_take]; omega
  have HR : Hid (w.drew.ownsRow base 53 3 (.slice (some ⟨g, 0, none⟩) i cap) i (flatH (L.take i))) := by
    have := HU.out.row
    rw [HTL.out] at this
    exact this
  clear h hn HU
  have n1 : n - 1 = i + (n - j) := by omega
  have n2 : i + (n - j) + 1 = n := by omega
  have HJ : Hid (j = i + 1) := hj
  have e1 : ((i : Int) == (j : Int)) = false := by simp; omega
  have q0 : (0 : Int) ≤ (i : Int) := by omega
  have q1 : i ≤ j := by omega
  have q2 : j ≤ n := by omega
  have q4 : i ≤ cap := by omega
  have q6 : j ≤ cap := by omega
  clear hj
  obtain ⟨A, hA, hsrc⟩ : ∃ A : Addr, (if cap = j then some (⟨g, 0, none⟩ : Addr) else some ⟨g, j * 3, none⟩) = some A ∧ Hid (∀ q u, (flatH (L.drop j))[q]? = some u → w.drew.cell? (A.add q) = some u) := by
    by_cases hq : cap = j
    · refine ⟨⟨g, 0, none⟩, by simp [hq], fun q u hu => ?_⟩
      have h0 : (flatH (L.drop j)).length = 0 := by rw [HD.out]; omega
      rw [List.length_eq_zero_iff.1 h0] at hu
      simp at hu
    · exact ⟨⟨g, j * 3, none⟩, by simp [hq], HF0.out⟩
  clear HF0
  obtain ⟨m, hm⟩ : ∃ m, i + (n - j) = m := ⟨_, rfl⟩
  rw [n1, hm] at HCL ⊢
  rw [hm] at n2
  have HM : Hid (i + (n - j) = m) := hm
  clear n1 hm
  go_enter Try.func29, Try.ntmps29
  go_wp2_with fail
  go_region_law (refine step_append_room3 _ rfl (.tmp 22) (.tmp 25) 46 rfl base 53 i0 3 Try.underlying46 hi0 hz1 g i cap (flatH (L.take i)) (by simp [Act.eval, Act.put]) HR.out A (n - j) (cap - j) (flatH (L.drop j)) (by simp [Act.eval, Act.put]) HD.out hsrc.out (flatH_one _) (by omega) ?_; intro w1 row1 s1)
  rw [HC.out] at row1
  rw [HM.out] at row1 ⊢
  have m1 : m ≤ n := by omega
  have m2 : m < cap := by omega
  have m3 : ¬ cap = m := by omega
  have m4 : n - m = 1 := by omega
  obtain ⟨w2, hcl, row2, s2⟩ := clear_end w1 base g m 1 cap (cap - m) _ row1 (by omega)
  have S2 : Hid (Step (fun k => k = g) w w2) := ((⟨s1.os, s1.tape, s1.output, s1.size, s1.block⟩ : Step (fun k => k = g) w w1)).trans s2
  have L2 : Hid (Ls w2 53 base (.slice (some ⟨g, 0, none⟩) m cap) (cutH L i)) := by
    refine ⟨?_, by rw [HCL.out]; omega⟩
    rw [HCL.out]
    exact row2
  clear row1 row2 s1 s2 HCL HT HD HC HL HTL HR hA hsrc
  go_wp2
  go_ret
  exact ⟨rfl, L2.out, S2.out⟩

theorem delete_any (g cap i base : Nat) (L : List Hd) (w : World) (h : Ls w 53 base (.slice (some ⟨g, 0, none⟩) L.length cap) L) (hi : i < L.length) (hcap : L.length ≤ cap) (hcm : cap ≤ maxLen) :
    Calls Try.prog 29 #[.slice (some ⟨g, 0, none⟩) L.length cap, .int .i64 (i : Int), .int .i64 ((i : Int) + 1)] w
      fun e w' => e = .returned (.slice (some ⟨g, 0, none⟩) (L.length - 1) cap) ∧ Ls w' 53 base (.slice (some ⟨g, 0, none⟩) (L.length - 1) cap) (cutH L i) ∧ Step (fun k => k = g) w w' :=
  delete_two g cap i (i + 1) base L w h hi rfl hcap hcm

/-! ### all that are so -/

/-- under way: the first k have been looked at, what is kept of them stands ahead -/
structure Dl (w wr : World) (base g n cap : Nat) (f : Hd → Bool) (L : List Hd) (i k : Nat) : Prop where
  st : Step (fun q => q = g) w wr
  mid : ∃ M, Ls wr 53 base (.slice (some ⟨g, 0, none⟩) M.length cap) M ∧ M.length = n ∧ M.take i = keep f (L.take k) ∧ M.drop k = L.drop k
  at' : (keep f (L.take k)).length = i
  lt : i < k

theorem Dl.one {w wr : World} {base g n cap : Nat} {f : Hd → Bool} {L : List Hd} {i k : Nat} (G : Dl w wr base g n cap f L i k) (hn : L.length = n) (hk : k < n) : C3 wr g (k * 3) (atH L k) ∧ (∀ j, wr.frozen? ⟨g, j, none⟩ = false) ∧ ∃ y : Hd, C3 wr g (i * 3) y := by
  obtain ⟨M, hM, hl, ht, hd⟩ := G.mid
  obtain ⟨g', cap', e, _, _, _, _, hfr, hc⟩ := hM.pos (by omega)
  simp only [Value.slice.injEq, Option.some.injEq, Addr.mk.injEq, and_true, true_and] at e
  obtain ⟨rfl, rfl⟩ := e
  have hy : atH M k = atH L k := by
    have h1 := drop_consH (L := M) (k := k) (by omega)
    have h2 := drop_consH (L := L) (k := k) (by omega)
    rw [h1, h2] at hd
    exact (List.cons.inj hd).1
  have := hc k (by omega)
  rw [hy] at this
  exact ⟨this, hfr, _, hc i (by have := G.lt; omega)⟩

theorem Dl.hit {w wr W : World} {base g n cap : Nat} {f : Hd → Bool} {L : List Hd} {i k : Nat} (G : Dl w wr base g n cap f L i k) (hn : L.length = n) (hk : k < n) (hf : f (atH L k) = true) (s : Kp wr W) : Dl w W base g n cap f L i (k + 1) := by
  obtain ⟨M, hM, hl, ht, hd⟩ := G.mid
  refine ⟨G.st.trans s.any, ⟨M, hM.kp s, hl, ?_, ?_⟩, ?_, by have := G.lt; omega⟩
  · rw [keep_hit (by omega) hf]; exact ht
  · have := congrArg (List.drop 1) hd
    rw [List.drop_drop, List.drop_drop] at this
    exact this
  · rw [keep_hit (by omega) hf]; exact G.at'

theorem Dl.miss {w wr W : World} {base g n cap : Nat} {f : Hd → Bool} {L : List Hd} {i k : Nat} (G : Dl w wr base g n cap f L i k) (hn : L.length = n) (hk : k < n) {y : Hd} (hy : atH L k = y) (hf : f y = false) (s : Kp wr W) :
    Dl w (((W.setCell ⟨g, i * 3, none⟩ (.int .i64 y.t)).setCell ⟨g, i * 3 + 1, none⟩ (.int .i64 y.s)).setCell ⟨g, i * 3 + 2, none⟩ (.int .i64 y.l)) base g n cap f L (i + 1) (k + 1) := by
  subst hy
  obtain ⟨M, hM, hl, ht, hd⟩ := G.mid
  have hik := G.lt
  refine ⟨(((G.st.trans s.any).setCell (p := ⟨g, i * 3, none⟩) rfl _).setCell (p := ⟨g, i * 3 + 1, none⟩) rfl _).setCell (p := ⟨g, i * 3 + 2, none⟩) rfl _, ⟨M.set i (atH L k), ?_, by rw [List.length_set]; exact hl, ?_, ?_⟩, ?_, by omega⟩
  · have := (hM.kp s).set (i := i) (by omega) (atH L k)
    rw [List.length_set]
    exact this
  · rw [keep_miss (by omega) hf, ← ht, take_snocH (by rw [List.length_set]; omega), atH_set_same (by omega)]
    congr 1
    rw [List.take_set_of_le (Nat.le_refl _)]
  · rw [List.drop_set_of_lt (by omega)]
    have := congrArg (List.drop 1) hd
    rw [List.drop_drop, List.drop_drop] at this
    exact this
  · rw [keep_miss (by omega) hf, List.length_append, G.at']
    rfl

set_option maxHeartbeats 4000000 in
theorem deleteFunc_any (nf : Nat) (cv : Value) (f : Hd → Bool) (g cap base : Nat) (L : List Hd) (w : World) (h : Ls w 53 base (.slice (some ⟨g, 0, none⟩) L.length cap) L) (hcap : L.length ≤ cap) (hcm : cap ≤ maxLen)
    (hnf : ∀ (args : Array Value) (w : World), (callFunc nf args).run Try.prog w = .ok (.enter nf args) w) (hf : LitH (fun k => k = g) w nf cv f) :
    Calls Try.prog 31 #[.slice (some ⟨g, 0, none⟩) L.length cap, .func (.func nf) #[] #[cv]] w
      fun e w' => e = .returned (.slice (some ⟨g, 0, none⟩) (keep f L).length cap) ∧ Ls w' 53 base (.slice (some ⟨g, 0, none⟩) (keep f L).length cap) (keep f L) ∧ Step (fun k => k = g) w w' := by
  have hlen := h.len
  have hcm' : cap ≤ 9223372036854775807 := hcm
  have hgl : g < w.heap.size := (h.own g rfl).2
  have HF : Hid (LitH (fun k => k = g) w nf cv f) := hf
  have HH : Hid (HsAt w (some ⟨g, 0, none⟩) L.length L) := by
    obtain ⟨ao, c, e, q⟩ := h.lies
    simp only [Value.slice.injEq] at e
    obtain ⟨rfl, _, _⟩ := e
    exact q
  have HI := index_any (fun k => k = g) nf cv f (some ⟨g, 0, none⟩) L.length cap L w HH.out hlen hnf hf
  obtain ⟨n, hn⟩ : ∃ n, L.length = n := ⟨_, rfl⟩
  have HK : Hid (keep f (L.take n) = keep f L) := by show _ = _; rw [List.take_of_length_le (by omega)]
  have HL0 : Hid (Ls w 53 base (.slice (some ⟨g, 0, none⟩) n cap) L) := by rw [hn] at h; exact h
  rw [hn] at hcap hlen HI ⊢
  have HN : Hid (L.length = n) := hn
  obtain ⟨K, HKK⟩ : ∃ K, Hid (keep f L = K) := ⟨_, rfl⟩
  rw [HKK.out]
  clear h hn hf HH
  go_enter Try.func31, Try.ntmps31
  go_wp2_with fail
  refine HI.mono ?_
  rintro e w1 ⟨⟨x, rfl, hx⟩, k1⟩
  have HX : Hid (Fst f L n x) := hx
  clear hx
  by_cases hz : x = -1
  · subst hz
    have HA : Hid (K = L) := by
      show K = L
      rw [← HKK.out]
      rcases HX.out with ⟨_, h⟩ | ⟨k, e, _⟩
      · have := keep_all (f := f) (L := L) (k := n) (by rw [HN.out]; exact Nat.le_refl _) h
        rw [List.take_of_length_le (by rw [HN.out]; exact Nat.le_refl _)] at this
        exact this
      · omega
    have L1 : Hid (Ls w1 53 base (.slice (some ⟨g, 0, none⟩) K.length cap) K) := by
      show Ls _ _ _ _ _
      rw [HA.out, HN.out]
      exact HL0.out.kp k1
    have HKN : Hid (K.length = n) := by show K.length = n; rw [HA.out, HN.out]
    go_wp2
    go_ret
    exact ⟨by rw [HKN.out]; rfl, L1.out, k1.any⟩
  · obtain ⟨p, rfl, hp, hfp, hbe⟩ : ∃ k : Nat, x = k ∧ k < n ∧ f (atH L k) = true ∧ ∀ i, i < k → f (atH L i) = false := by
      rcases HX.out with ⟨e, _⟩ | q
      · exact absurd e hz
      · exact q
    have hz' : ((p : Int) == -1) = false := by simp
    have HD : Hid (Dl w w1 base g n cap f L p (p + 1)) := by
      have hpl : p < L.length := by rw [HN.out]; exact hp
      have e1 : keep f (L.take (p + 1)) = L.take p := by rw [keep_hit hpl hfp, keep_all (by omega) hbe]
      refine ⟨k1.any, ⟨L, ?_, HN.out, e1.symm, rfl⟩, ?_, Nat.lt_succ_self _⟩
      · rw [HN.out]; exact HL0.out.kp k1
      · rw [e1, List.length_take]; omega
    clear hz hfp hbe HX
    go_wp2
    go_loopw [5, 6] (fun a b wr => ∃ i k : Nat, k ≤ n ∧ a = .int .i64 i ∧ b = .int .i64 k ∧ Hid (Dl w wr base g n cap f L i k)) (fun _ b _ => n - (intOf b).toNat)
    case atStart => exact ⟨p, p + 1, by omega, rfl, by go_num, HD⟩
    case round =>
      obtain ⟨i, k, hk, rfl, rfl, G⟩ := hrel
      by_cases hlt : k < n
      · have hlt' : (k : Int) < (n : Int) := by omega
        obtain ⟨⟨c0, c1, c2, hgw⟩, hfr, y0, d0, d1, d2, _⟩ := G.out.one HN.out hlt
        have hik := G.out.lt
        have i0 : (0 : Int) ≤ (i : Int) := by omega
        have i1 : (i : Int) < (n : Int) := by omega
        have i2 : i < n := by omega
        have i3 : (0 : Int) ≤ (k : Int) := by omega
        obtain ⟨y, hy⟩ : ∃ y, atH L k = y := ⟨_, rfl⟩
        have HY : Hid (atH L k = y) := hy
        rw [hy] at c0 c1 c2
        have HB : Hid (B3 (wr.alloc (.cells #[.int .i64 y.t, .int .i64 y.s, .int .i64 y.l] 53)) wr.heap.size y 53) := b3_new wr y _
        have KA : Kp wr (wr.alloc (.cells #[.int .i64 y.t, .int .i64 y.s, .int .i64 y.l] 53)) := (Step.refl _ wr).alloc _
        have HC : Hid (Calls Try.prog nf #[.agg #[.int .i64 y.t, .int .i64 y.s, .int .i64 y.l], cv] (wr.alloc (.cells #[.int .i64 y.t, .int .i64 y.s, .int .i64 y.l] 53)) fun e w'' => e = .returned (.bool (f y)) ∧ Kp (wr.alloc (.cells #[.int .i64 y.t, .int .i64 y.s, .int .i64 y.l] 53)) w'') := HF.out _ y (G.out.st.trans KA.any)
        have HCG : Hid (∀ W, Kp wr W → C3 W g (i * 3) y0 ∧ ∀ j, W.frozen? ⟨g, j, none⟩ = false) := fun W q => ⟨C3.kp ⟨d0, d1, d2, hgw⟩ q, fun j => (q.frz (p := ⟨g, j, none⟩) hgw (fun x => x)).trans (hfr j)⟩
        clear hy
        cases hq : f y with
        | true =>
          rw [hq] at HC
          have G2 : Hid (∀ W, Kp wr W → Dl w W base g n cap f L i (k + 1)) := fun W q => G.out.hit HN.out hlt (by rw [HY.out]; exact hq) q
          clear hq G
          go_wp2_with fail
          refine HC.out.mono ?_
          rintro e w3 ⟨rfl, k3⟩
          have G3 : Hid (Dl w w3 base g n cap f L i (k + 1)) := G2.out _ (KA.trans k3)
          go_wp2
          go_roundw
          case rel => exact ⟨i, k + 1, by omega, rfl, by go_num, G3⟩
          case measure => simp [intOf]; omega
        | false =>
          rw [hq] at HC
          have G2 : Hid (∀ W, Kp wr W → Dl w (((W.setCell ⟨g, i * 3, none⟩ (.int .i64 y.t)).setCell ⟨g, i * 3 + 1, none⟩ (.int .i64 y.s)).setCell ⟨g, i * 3 + 2, none⟩ (.int .i64 y.l)) base g n cap f L (i + 1) (k + 1)) := fun W q => G.out.miss HN.out hlt HY.out hq q
          clear hq G
          go_wp2_with fail
          refine HC.out.mono ?_
          rintro e w3 ⟨rfl, k3⟩
          have G3 := G2.out _ (KA.trans k3)
          have HG3 : Hid (Dl w (((w3.setCell ⟨g, i * 3, none⟩ (.int .i64 y.t)).setCell ⟨g, i * 3 + 1, none⟩ (.int .i64 y.s)).setCell ⟨g, i * 3 + 2, none⟩ (.int .i64 y.l)) base g n cap f L (i + 1) (k + 1)) := G3
          obtain ⟨⟨z0, z1, z2, zl⟩, zf⟩ := HCG.out _ (KA.trans k3)
          obtain ⟨b0, b1, b2, bl⟩ := (HB.out.kp k3).c3
          have zf0 := zf (i * 3)
          have zf1 := zf (i * 3 + 1)
          have zf2 := zf (i * 3 + 2)
          clear zf G3 c0 c1 c2 d0 d1 d2 hfr
          go_wp2
          go_roundw
          case rel => exact ⟨i + 1, k + 1, by omega, by go_num, by go_num, HG3⟩
          case measure => simp [intOf]; omega
      · have hlt' : ¬ (k : Int) < (n : Int) := by omega
        obtain rfl : k = n := by omega
        have hik := G.out.lt
        have HE : Hid (K.length = i ∧ Ls wr 53 base (.slice (some ⟨g, 0, none⟩) i cap) K) := by
          obtain ⟨M, hM, hl, ht, hd⟩ := G.out.mid
          have hkl := G.out.at'
          have hu := hM.upto (n := i) (by omega)
          rw [ht] at hu
          rw [HK.out, HKK.out] at hkl hu
          exact ⟨hkl, hu⟩
        have hrow : wr.ownsRow base 53 3 (.slice (some ⟨g, 0, none⟩) i cap) i (flatH K) := by
          have := HE.out.2.row
          rw [HE.out.1] at this
          exact this
        obtain ⟨w2, hcl, row2, s2⟩ := clear_end wr base g i (k - i) cap (cap - i) _ hrow (by omega)
        have L2 : Hid (Ls w2 53 base (.slice (some ⟨g, 0, none⟩) i cap) K) := by
          refine ⟨?_, by rw [HE.out.1]; omega⟩
          rw [HE.out.1]
          exact row2
        have S2 : Hid (Step (fun q => q = g) w w2) := G.out.st.trans s2
        have HKL : Hid (K.length = i) := HE.out.1
        have i0 : (0 : Int) ≤ (i : Int) := by omega
        have i1 : (i : Int) ≤ (k : Int) := by omega
        have i2 : i ≤ k := by omega
        have i3 : i ≤ cap := by omega
        have i4 : ¬ cap = i := by omega
        clear row2 s2 hrow HE
        go_wp2
        go_ret
        exact ⟨by rw [HKL.out]; rfl, by rw [HKL.out]; exact L2.out, S2.out⟩

end Go.Proofs.Ytlcbgkicooeklaa.LK
