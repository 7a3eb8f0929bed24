/- Of two lists, one behind the other, there is what there is of both. -/
import Derived.Test.YtbhgjaaaffjjeaaGagLaw
import Derived.Maps.AppendAt
import Derived.Deep.SlicePairs
namespace Go.Proofs.Ytbhgjaaaffjjeaa.GG
open Go.ChangeShapes Go.WideShapes Go.ChangeAt Go.RowKit Go.Proofs.Ytbhgjaaaffjjeaa.AR Go.Proofs.Ytbhgjaaaffjjeaa.TB
set_option linter.unusedVariables false

/-! ### lists of records, one cell behind the other -/

def flatR : List (List Int) → List Value
  | [] => []
  | r :: l => r.map (Value.int .i64) ++ flatR l

theorem flatR_len {k : Nat} : ∀ {l : List (List Int)}, (∀ r ∈ l, r.length = k) → (flatR l).length = l.length * k
  | [], _ => by simp [flatR]
  | r :: l, h => by
    have h1 := h r (List.mem_cons_self ..)
    have h2 := flatR_len (l := l) (fun x hx => h x (List.mem_cons_of_mem _ hx))
    simp only [flatR, List.length_append, List.length_map, List.length_cons, h1, h2, Nat.add_mul, Nat.one_mul]
    omega
theorem flatR_append : ∀ (a b : List (List Int)), flatR (a ++ b) = flatR a ++ flatR b
  | [], b => rfl
  | r :: a, b => by simp only [List.cons_append, flatR, flatR_append a b, List.append_assoc]
theorem flatR_at {k : Nat} : ∀ {l : List (List Int)} {i j : Nat}, (∀ r ∈ l, r.length = k) → i < l.length → j < k → (flatR l)[i * k + j]? = some (.int .i64 (fd l i j))
  | r :: l, 0, j, h, _, hj => by
    have h1 := h r (List.mem_cons_self ..)
    simp only [flatR, Nat.zero_mul, Nat.zero_add]
    rw [List.getElem?_append_left (by simp; omega), List.getElem?_map, List.getElem?_eq_getElem (by omega)]
    simp [fd, List.getD_eq_getElem?_getD, List.getElem?_eq_getElem (show j < r.length by omega)]
  | r :: l, i + 1, j, h, hi, hj => by
    have h1 := h r (List.mem_cons_self ..)
    have h2 := flatR_at (l := l) (i := i) (j := j) (fun x hx => h x (List.mem_cons_of_mem _ hx)) (by simpa using hi) hj
    simp only [flatR]
    rw [List.getElem?_append_right (by simp [h1, Nat.add_mul]; omega), show (i + 1) * k + j - (r.map (Value.int .i64)).length = i * k + j by simp [h1, Nat.add_mul]; omega, h2]
    simp [fd]
theorem flatR_one : ∀ {l : List (List Int)}, ∀ v ∈ flatR l, v.oneCell' = true
  | r :: l, v, hv => by
    simp only [flatR, List.mem_append, List.mem_map] at hv
    rcases hv with ⟨x, _, rfl⟩ | hv
    · rfl
    · exact flatR_one v hv

theorem addr_add (b o j : Nat) : (Addr.add ⟨b, o, none⟩ j) = ⟨b, o + j, none⟩ := by
  unfold Addr.add
  by_cases h : j = 0
  · rw [if_pos h, h]; rfl
  · rw [if_neg h]

theorem rec_news {w : World} {k : Nat} {ao : Option Addr} {len : Nat} {rows : List (List Int)} (h : RecAt w k ao len rows) (hk : 0 < k) : (ao = none → len = 0) ∧ ∀ ad, ao = some ad → ∀ j u, (flatR rows)[j]? = some u → w.cell? (ad.add j) = some u := by
  obtain ⟨h1, h2, h3⟩ := h
  have hl := flatR_len (k := k) (l := rows) (fun r hr => (h2 r hr).1)
  rcases h3 with h0 | ⟨b, off, rfl, hb, hc⟩
  · refine ⟨fun _ => h0, fun ad _ j u hj => ?_⟩
    have := (List.getElem?_eq_some_iff.1 hj).1
    rw [hl, h1, h0] at this
    omega
  · refine ⟨fun q => (by cases q), fun ad q j u hj => ?_⟩
    cases q
    have hlt := (List.getElem?_eq_some_iff.1 hj).1
    rw [hl] at hlt
    have e : j = j / k * k + j % k := (Nat.div_add_mod' j k).symm
    have d1 : j / k < rows.length := Nat.div_lt_of_lt_mul (by rw [Nat.mul_comm]; exact hlt)
    have d2 := Nat.mod_lt j hk
    have q := flatR_at (l := rows) (k := k) (fun r hr => (h2 r hr).1) d1 d2
    rw [← e, hj] at q
    have z := hc (j / k) (j % k) (by omega) d2
    rw [Nat.add_assoc, ← e] at z
    rw [addr_add, z, q]
    rfl

theorem own_rec {w : World} {base : Nat} {e : TypeId} {k g n cap : Nat} {rows : List (List Int)} (h : w.ownsRow base e k (.slice (some ⟨g, 0, none⟩) n cap) n (flatR rows)) (hr : ∀ r ∈ rows, r.length = k ∧ ∀ y ∈ r, I64 y) (hn : rows.length = n) : RecAt w k (some ⟨g, 0, none⟩) n rows := by
  refine ⟨hn, hr, .inr ⟨g, 0, rfl, (h.lt g rfl).2, fun i j hi hj => ?_⟩⟩
  have := h.cells (g := g) rfl (i * k + j) _ (flatR_at (fun r hr' => (hr r hr').1) (by omega) hj)
  rw [addr_add, ← Nat.add_assoc] at this
  exact this

/-! ### appends -/

/-- 'append(s, x...)' of nothing -/
theorem run_append_nought {P : Program} {w : World} (base : Nat) (t ty e : TypeId) (i : TypeInfo) (size : Nat) (ht : P.underlying t = some (.slice e)) (hi : P.info? e = some i)
    (v : Value) (n c : Nat) (xs : List Value) (hown : w.ownsRow base e size v n xs) :
    (Builtin.append_ #[t, t] ty #[v, .slice none 0 c]).run P w = .ok v w := by
  rcases hown.2 with ⟨rfl, rfl⟩ | ⟨g, cap, cur, rfl, _, _, hnc, _⟩
  · simp [Builtin.append_, run_underlying ht, sizeOf, typeInfo, hi, Builtin.lenOf, Builtin.firstCells]
  · simp [Builtin.append_, run_underlying ht, sizeOf, typeInfo, hi, Builtin.lenOf, Builtin.firstCells, hnc, storeCells]

/-- an append of whatever list to a row of the call's own -/
theorem wpList_append_list {P : Program} (w : World) {ops : Array Oper} {rest : List Oper} {o : Oper} {a : Act} {Q : Exit → Act → World → Prop} (hgd : o.guard = none) (s x : Operand) (t : TypeId)
    (ho : o.op = .call { callee := .builtin .append, args := #[s, x], argTypes := #[t, t] })
    (base : Nat) (e : TypeId) (i : TypeInfo) (z : Value) (size bytes : Nat) (ht : P.underlying t = some (.slice e)) (hi : P.info? e = some i) (hz : i.zero = some z)
    (hsize : i.size = size) (hby : i.bytes = bytes) (hzs : z.cells.size = size) (hsz : 0 < size)
    (g0 n c0 : Nat) (xs : List Value) (hs : a.eval s = .slice (some ⟨g0, 0, none⟩) n c0) (hown : w.ownsRow base e size (.slice (some ⟨g0, 0, none⟩) n c0) n xs)
    (ao : Option Addr) (m c : Nat) (news : List Value) (hx : a.eval x = .slice ao m c) (hl : news.length = m * size) (hn : ao = none → m = 0) (hnews : ∀ ad, ao = some ad → ∀ j u, news[j]? = some u → w.cell? (ad.add j) = some u) (h1 : ∀ u ∈ news, u.oneCell' = true)
    (h63 : n + m ≤ maxLen) (hbytes : (n + m) * bytes ≤ 140737488355328) (hbase : base ≤ w.heap.size)
    (h : ∀ g cap w', w'.ownsRow base e size (.slice (some ⟨g, 0, none⟩) (n + m) cap) (n + m) (xs ++ news) → w.grownBy w' (some g0) → wpList P ops Q rest (a.put o.dst (.slice (some ⟨g, 0, none⟩) (n + m) cap)) w') :
    wpList P ops Q (o :: rest) a w := by
  refine wpList_plain hgd fun K hK => ?_
  cases ao with
  | none =>
    obtain rfl : m = 0 := hn rfl
    have hnil : news = [] := List.eq_nil_of_length_eq_zero (by simpa using hl)
    subst hnil
    have hrun := run_append_nought (P := P) (w := w) base t o.type e i size ht hi _ n c xs hown
    unfold Oper.wp execOp
    simp only [ho, resolve, invoke, builtin, Sem.run_bind, Sem.run_pure, Result.andThen_ok, List.map_toArray, List.map_cons, List.map_nil, hs, hx, hrun]
    have := h g0 c0 w (by simpa using hown) ⟨rfl, rfl, rfl, Nat.le_refl _, fun _ _ _ => rfl⟩
    exact hK _ _ (by simpa using this)
  | some ad =>
    obtain ⟨v', w', hr, h2, h3, h4, h5⟩ := run_append_own_at (P := P) w base t o.type e i z size bytes ht hi hz hsize hby hzs hsz _ n xs hown ad m c news hl (hnews ad rfl) h1 h63 hbytes hbase
    unfold Oper.wp execOp
    simp only [ho, resolve, invoke, builtin, Sem.run_bind, Sem.run_pure, Result.andThen_ok, List.map_toArray, List.map_cons, List.map_nil, hs, hx, hr]
    rcases h2.2 with ⟨q, _⟩ | ⟨g, cap, cur, rfl, r⟩
    · have := (h4.1 q).1
      cases this
    · exact hK _ _ (h g cap w' h2 h3)

theorem own_nought {w : World} {base : Nat} {e : TypeId} {size : Nat} (g : Nat) (hb : base ≤ g) (hg : w.heap[g]? = some (.cells #[] e (0, 0))) : w.ownsRow base e size (.slice (some ⟨g, 0, none⟩) 0 0) 0 [] :=
  ⟨by simp, .inr ⟨g, 0, #[], rfl, hb, hg, Nat.le_refl _, Nat.zero_le _, by simp, by simp⟩⟩
theorem own_base {w : World} {base : Nat} {e : TypeId} {size g n cap : Nat} {xs : List Value} (h : w.ownsRow base e size (.slice (some ⟨g, 0, none⟩) n cap) n xs) : base ≤ g := (h.lt g rfl).1
theorem kp_grown {w V V' : World} {g0 : Nat} (k : Kp w V) (h : V.grownBy V' (some g0)) (hg : w.heap.size ≤ g0) : Kp w V' := by
  refine ⟨h.os.trans k.os, h.tape.trans k.tape, h.output.trans k.output, Nat.le_trans k.size h.size, fun b hb => ?_⟩
  exact (h.block b (Nat.lt_of_lt_of_le hb k.size) (fun q => by cases q; omega)).trans (k.block b hb)

/-! ### sums -/

theorem fd_left {a b : List (List Int)} {i j : Nat} (h : i < a.length) : fd (a ++ b) i j = fd a i j := by simp [fd, List.getD_eq_getElem?_getD, List.getElem?_append_left h]
theorem fd_right {a b : List (List Int)} {i j : Nat} : fd (a ++ b) (a.length + i) j = fd b i j := by
  simp [fd, List.getD_eq_getElem?_getD, List.getElem?_append_right (Nat.le_add_right a.length i)]
theorem cyS_left {a b : List (List Int)} : ∀ k, k ≤ a.length → cyS (a ++ b) k = cyS a k
  | 0, _ => rfl
  | k + 1, h => by simp only [cyS]; rw [cyS_left k (by omega), fd_left (by omega), fd_left (by omega)]
theorem cyS_right {a b : List (List Int)} : ∀ k, cyS (a ++ b) (a.length + k) = cyS a a.length + cyS b k
  | 0 => by simp only [Nat.add_zero, cyS, Int.add_zero]; exact cyS_left _ (Nat.le_refl _)
  | k + 1 => by rw [← Nat.add_assoc]; simp only [cyS]; rw [cyS_right k, fd_right, fd_right]; omega
theorem swS_left {a b : List (List Int)} : ∀ k, k ≤ a.length → swS (a ++ b) k = swS a k
  | 0, _ => rfl
  | k + 1, h => by simp only [swS]; rw [swS_left k (by omega), fd_left (by omega)]
theorem swS_right {a b : List (List Int)} : ∀ k, swS (a ++ b) (a.length + k) = swS a a.length + swS b k
  | 0 => by simp only [Nat.add_zero, swS, Int.add_zero]; exact swS_left _ (Nat.le_refl _)
  | k + 1 => by rw [← Nat.add_assoc]; simp only [swS]; rw [swS_right k, fd_right]; omega

theorem iv_info : (Try.prog.info? 34).map (fun i => (i.zero, i.size, i.bytes)) = some (some (.agg #[.int .i64 0, .int .i64 0, .int .i64 0, .int .i64 0, .int .i64 0, .int .i64 0]), 6, 48) := by kernel_rfl

set_option maxHeartbeats 8000000 in
theorem gaugeParts_walk (ao : Option Addr) (la ca : Nat) (ra : List (List Int)) (bo : Option Addr) (lb cb : Nat) (rb : List (List Int)) (w : World) (h : RecAt w 6 ao la ra) (hla : la ≤ 1048576) (k : RecAt w 6 bo lb rb) (hlb : lb ≤ 1048576) :
    Calls Try.prog 6 #[.slice ao la ca, .slice bo lb cb] w fun r w' => r = .returned (.bool true) ∧ Below w.heap.size w w' := by
  obtain ⟨i0, hi, hz0, hz1, hz2⟩ := info_parts iv_info
  have HE : Hid (∀ w', Kp w w' → Below w.heap.size w w') := fun w' q => q
  have La : ra.length = la := h.1
  have Lb : rb.length = lb := k.1
  have HAl : Hid (∀ r ∈ ra ++ rb, r.length = 6 ∧ ∀ y ∈ r, I64 y) := fun r hr => by
    rcases List.mem_append.1 hr with q | q
    · exact h.2.1 r q
    · exact k.2.1 r q
  have Fa : (flatR ra).length = la * 6 := by rw [flatR_len (k := 6) (fun r hr => (h.2.1 r hr).1), La]
  have Fb : (flatR rb).length = lb * 6 := by rw [flatR_len (k := 6) (fun r hr => (k.2.1 r hr).1), Lb]
  have A1 : Hid (∀ W, Kp w W → Calls Try.prog 12 #[.slice ao la ca] W fun e w' => e = .returned (.int .i64 (wrap64 (cyS ra la))) ∧ Kp W w') := fun W q => cycles_any ao la ca ra W (TB.RecAt.kept h q) (by omega)
  have A2 : Hid (∀ W, Kp w W → Calls Try.prog 12 #[.slice bo lb cb] W fun e w' => e = .returned (.int .i64 (wrap64 (cyS rb lb))) ∧ Kp W w') := fun W q => cycles_any bo lb cb rb W (TB.RecAt.kept k q) (by omega)
  have A3 : Hid (∀ W, Kp w W → Calls Try.prog 14 #[.slice ao la ca] W fun e w' => e = .returned (.int .i64 (wrap64 (swS ra la))) ∧ Kp W w') := fun W q => switches_any ao la ca ra W (TB.RecAt.kept h q) (by omega)
  have A4 : Hid (∀ W, Kp w W → Calls Try.prog 14 #[.slice bo lb cb] W fun e w' => e = .returned (.int .i64 (wrap64 (swS rb lb))) ∧ Kp W w') := fun W q => switches_any bo lb cb rb W (TB.RecAt.kept k q) (by omega)
  have E1 : Hid (wrap64 (cyS (ra ++ rb) (la + lb)) = wrap64 (wrap64 (cyS ra la) + wrap64 (cyS rb lb))) := by
    show _ = _
    rw [wrap_add2, ← La, ← Lb, cyS_right]
  have E2 : Hid (wrap64 (swS (ra ++ rb) (la + lb)) = wrap64 (wrap64 (swS ra la) + wrap64 (swS rb lb))) := by
    show _ = _
    rw [wrap_add2, ← La, ← Lb, swS_right]
  have HN1 : Hid (∀ W, Kp w W → (ao = none → la = 0) ∧ ∀ ad, ao = some ad → ∀ j u, (flatR ra)[j]? = some u → W.cell? (ad.add j) = some u) := fun W q => rec_news (TB.RecAt.kept h q) (by decide)
  have HN2 : Hid (∀ W, Kp w W → (bo = none → lb = 0) ∧ ∀ ad, bo = some ad → ∀ j u, (flatR rb)[j]? = some u → W.cell? (ad.add j) = some u) := fun W q => rec_news (TB.RecAt.kept k q) (by decide)
  have HM1 : Hid (0 + la ≤ maxLen ∧ (0 + la) * 48 ≤ 140737488355328 ∧ w.heap.size ≤ (w.alloc (Obj.cells #[] 34)).heap.size) := ⟨by unfold maxLen; omega, by omega, by simp⟩
  have HM2 : Hid (la + lb ≤ maxLen ∧ (la + lb) * 48 ≤ 140737488355328) := ⟨by unfold maxLen; omega, by omega⟩
  go_enter Try.func6, Try.ntmps6
  try dsimp only [List.append]
  go_wp2_with (first
    | (at_builtin; refine wpList_append_list (w.alloc (Obj.cells #[] 34)) rfl (.tmp 7) (.tmp 8) 32 rfl w.heap.size 34 i0 (.agg #[.int .i64 0, .int .i64 0, .int .i64 0, .int .i64 0, .int .i64 0, .int .i64 0]) 6 48 Try.underlying32 hi hz0 hz1 hz2 rfl (by decide) w.heap.size 0 0 [] rfl (own_nought _ (Nat.le_refl _) (heap_alloc_at _ _)) ao la ca (flatR ra) rfl Fa (HN1.out (w.alloc (Obj.cells #[] 34)) ((Kp.refl _).alloc _)).1 (HN1.out (w.alloc (Obj.cells #[] 34)) ((Kp.refl _).alloc _)).2 flatR_one HM1.out.1 HM1.out.2.1 HM1.out.2.2 ?_; intro g1 cap1 w1 o1 gr1; have K1 := kp_grown ((Kp.refl w).alloc _) gr1 (Nat.le_refl _); clear gr1; rw [Nat.zero_add, List.nil_append] at o1)
    | (at_builtin; refine wpList_append_list w1 rfl (.tmp 9) (.tmp 10) 32 rfl w.heap.size 34 i0 (.agg #[.int .i64 0, .int .i64 0, .int .i64 0, .int .i64 0, .int .i64 0, .int .i64 0]) 6 48 Try.underlying32 hi hz0 hz1 hz2 rfl (by decide) g1 la cap1 (flatR ra) rfl o1 bo lb cb (flatR rb) rfl Fb (HN2.out _ K1).1 (HN2.out _ K1).2 flatR_one HM2.out.1 HM2.out.2 K1.size ?_; intro g2 cap2 w2 o2 gr2; have K2 := kp_grown K1 gr2 (own_base o1); clear gr2)
    | fail)
  have o3 : w2.ownsRow w.heap.size 34 6 (.slice (some ⟨g2, 0, none⟩) (la + lb) cap2) (la + lb) (flatR (ra ++ rb)) := by
    rw [flatR_append]
    exact o2
  have HL : Hid (RecAt w2 6 (some ⟨g2, 0, none⟩) (la + lb) (ra ++ rb)) := own_rec o3 HAl.out (by simp [La, Lb])
  clear o1 o2 o3 hi hz0 hz1 hz2 Fa Fb HAl h k
  have hn : la + lb ≤ 2097152 := by omega
  have A5 : Hid (∀ W, Kp w2 W → Calls Try.prog 12 #[.slice (some ⟨g2, 0, none⟩) (la + lb) cap2] W fun e w' => e = .returned (.int .i64 (wrap64 (cyS (ra ++ rb) (la + lb)))) ∧ Kp W w') := fun W q => cycles_any _ _ _ _ W (TB.RecAt.kept HL.out q) (by omega)
  have A6 : Hid (∀ W, Kp w2 W → Calls Try.prog 14 #[.slice (some ⟨g2, 0, none⟩) (la + lb) cap2] W fun e w' => e = .returned (.int .i64 (wrap64 (swS (ra ++ rb) (la + lb)))) ∧ Kp W w') := fun W q => switches_any _ _ _ _ W (TB.RecAt.kept HL.out q) (by omega)
  generalize wrap64 (cyS (ra ++ rb) (la + lb)) = s1 at *
  generalize wrap64 (swS (ra ++ rb) (la + lb)) = s2 at *
  generalize wrap64 (cyS ra la) = a1 at *
  generalize wrap64 (cyS rb lb) = b1 at *
  generalize wrap64 (swS ra la) = a2 at *
  generalize wrap64 (swS rb lb) = b2 at *
  generalize ra ++ rb = rows at *
  generalize la + lb = len at *
  clear La Lb
  go_loopw [6] (fun i wr => ∃ (k : Nat), k ≤ len ∧ i = .int .i64 k ∧ wr = w2) (fun i _ => len - (intOf i).toNat)
  case atStart => exact ⟨0, Nat.zero_le _, rfl, rfl⟩
  case round =>
    obtain ⟨k, hk, rfl, rfl⟩ := hrel
    by_cases hlt : k < len
    · have hlt' : (k : Int) < (len : Int) := by omega
      have j1 : (0 : Int) ≤ (k : Int) := by omega
      have j3 : ((k : Int)).toNat = k := by omega
      obtain ⟨b, off, eo, hbl, hc⟩ := fd_at HL.out hlt (Kp.refl _)
      simp only [Option.some.injEq, Addr.mk.injEq, and_true] at eo
      obtain ⟨rfl, rfl⟩ := eo
      have c5 := hc 5 (by omega)
      rw [Nat.zero_add] at c5
      clear hc
      generalize fd rows k 5 = x5 at *
      have NN : Hid (∀ w, Calls Try.prog 8 #[.int .i64 x5] w fun e w' => e = .returned (.bool (nearB x5)) ∧ w = w') := near_any x5
      generalize nearB x5 = bb at *
      go_wp2_with fail
      refine (NN.out _).mono ?_
      rintro r w3 ⟨rfl, rfl⟩
      cases bb with
      | true =>
        go_wp2_with fail
        go_roundw
        case rel => exact ⟨k + 1, by omega, by go_num, by first | trivial | rfl⟩
        case measure => simp [intOf]; omega
      | false =>
        go_wp2_with fail
        refine (ganswers_any _).mono ?_
        rintro r w3 ⟨rfl, k3⟩
        go_wp2
        go_ret
        exact ⟨rfl, HE.out _ (K2.trans k3)⟩
    · have hlt' : ¬ (k : Int) < (len : Int) := by omega
      have e1 : (s1 == wrap64 (a1 + b1)) = true := by rw [E1.out]; simp
      have e2 : (s2 == wrap64 (a2 + b2)) = true := by rw [E2.out]; simp
      clear E1 E2
      go_wp2_with fail
      refine (ganswers_any _).mono ?_
      rintro r w3 ⟨rfl, k3⟩
      go_wp2_with fail
      refine Calls.mono (A5.out _ k3) ?_
      rintro r w4 ⟨rfl, k4⟩
      have K4 := k3.trans k4
      clear k4
      go_wp2_with fail
      refine Calls.mono (A1.out _ (K2.trans K4)) ?_
      rintro r w5 ⟨rfl, k5⟩
      have K5 := K4.trans k5
      clear k5
      go_wp2_with fail
      refine Calls.mono (A2.out _ (K2.trans K5)) ?_
      rintro r w6 ⟨rfl, k6⟩
      have K6 := K5.trans k6
      clear k6
      go_wp2_with fail
      refine Calls.mono (A6.out _ K6) ?_
      rintro r w7 ⟨rfl, k7⟩
      have K7 := K6.trans k7
      clear k7
      go_wp2_with fail
      refine Calls.mono (A3.out _ (K2.trans K7)) ?_
      rintro r w8 ⟨rfl, k8⟩
      have K8 := K7.trans k8
      clear k8
      go_wp2_with fail
      refine Calls.mono (A4.out _ (K2.trans K8)) ?_
      rintro r w9 ⟨rfl, k9⟩
      have K9 := K8.trans k9
      clear k9
      go_wp2
      go_ret
      exact ⟨by simp, HE.out _ (K2.trans K9)⟩

end Go.Proofs.Ytbhgjaaaffjjeaa.GG
