/- The document's own lists of what is held: taken, given. -/
import Derived.Test.YtlcbgkicooeklaaLckRef
namespace Go.Proofs.Ytlcbgkicooeklaa.LK
open Go.ChangeShapes Go.WideShapes Go.ChangeAt Go.RowKit Go.Proofs.Ytlcbgkicooeklaa.AR

theorem flatH_cases {L : List Hd} {q : Nat} {v : Value} (h : (flatH L)[q]? = some v) : ∃ i, i < L.length ∧ ((q = i * 3 ∧ v = .int .i64 (atH L i).t) ∨ (q = i * 3 + 1 ∧ v = .int .i64 (atH L i).s) ∨ (q = i * 3 + 2 ∧ v = .int .i64 (atH L i).l)) := by
  have hq : q < L.length * 3 := by
    have := (List.getElem?_eq_some_iff.1 h).1
    rw [flatH_len] at this
    exact this
  have hi : q / 3 < L.length := by omega
  obtain ⟨h0, h1, h2⟩ := flatH_get L (q / 3) hi
  refine ⟨q / 3, hi, ?_⟩
  have hm : q % 3 = 0 ∨ q % 3 = 1 ∨ q % 3 = 2 := by omega
  rcases hm with hm | hm | hm
  · have e : q = q / 3 * 3 := by omega
    rw [e, h0] at h
    exact .inl ⟨e, (Option.some.inj h).symm⟩
  · have e : q = q / 3 * 3 + 1 := by omega
    rw [e, h1] at h
    exact .inr (.inl ⟨e, (Option.some.inj h).symm⟩)
  · have e : q = q / 3 * 3 + 2 := by omega
    rw [e, h2] at h
    exact .inr (.inr ⟨e, (Option.some.inj h).symm⟩)

/-- the cells of a list that lies there -/
theorem HsAt.flat {w : World} {ao : Option Addr} {len : Nat} {L : List Hd} (h : HsAt w ao len L) : ∀ ad, ao = some ad → ∀ j u, (flatH L)[j]? = some u → w.cell? (ad.add j) = some u := by
  intro ad e j u hj
  obtain ⟨i, hi, hq⟩ := flatH_cases hj
  rcases h.row with h0 | ⟨b, off, e', _, hc⟩
  · have := h.ln; omega
  · rw [e] at e'
    cases e'
    obtain ⟨c0, c1, c2, _⟩ := hc i (by rw [← h.ln]; exact hi)
    rw [Addr.add_lit]
    rcases hq with ⟨rfl, rfl⟩ | ⟨rfl, rfl⟩ | ⟨rfl, rfl⟩
    · exact c0
    · exact c1
    · exact c2

theorem HsAt.nil {w : World} {len : Nat} {L : List Hd} (h : HsAt w none len L) : len = 0 := by
  rcases h.row with h0 | ⟨b, off, e, _⟩
  · exact h0
  · cases e

/-- a new list without elements -/
theorem ownsRow_none {w : World} {base : Nat} {e : TypeId} {size : Nat} (g : Nat) (hb : base ≤ g) (hg : w.heap[g]? = some (.cells #[] e (0, 0))) : w.ownsRow base e size (.slice (some ⟨g, 0, none⟩) 0 0) 0 [] :=
  ⟨by simp, .inr ⟨g, 0, #[], rfl, hb, hg, Nat.le_refl _, Nat.zero_le _, by simp, by simp⟩⟩

/-- a list behind another one, in a row of the call's own -/
theorem step_append_list {P : Program} (w : World) {ops : Array Oper} {o : Oper} {a : Act} {K : Act → World → Prop} {Q : Exit → Act → World → Prop} {E : Prop} (hgd : o.guard = none) (s x : Operand) (t e : TypeId)
    (ho : o.op = .call { callee := .builtin .append, args := #[s, x], argTypes := #[t, t] }) (ht : P.underlying t = some (.slice e))
    (hinf : (P.info? e).map (fun i => (i.zero, i.size, i.bytes)) = some (some (.agg #[.int .i64 0, .int .i64 0, .int .i64 0]), 3, 24))
    (base g0 n c0 : Nat) (M : List Hd) (hs : a.eval s = .slice (some ⟨g0, 0, none⟩) n c0) (hown : w.ownsRow base e 3 (.slice (some ⟨g0, 0, none⟩) n c0) n (flatH M))
    (ao : Option Addr) (len cap : Nat) (L : List Hd) (hx : a.eval x = .slice ao len cap) (hat : HsAt w ao len L) (hlen : n + len ≤ 5864062014805) (hbase : base ≤ w.heap.size)
    (h : ∀ g cap' w', w'.ownsRow base e 3 (.slice (some ⟨g, 0, none⟩) (n + len) cap') (n + len) (flatH (M ++ L)) → w.grownBy w' (some g0) → K (a.put o.dst (.slice (some ⟨g, 0, none⟩) (n + len) cap')) w') :
    if Region.wanted o (yielded ops a.tmps) = true then Oper.wp P o a w K Q else E := by
  obtain ⟨i0, hi, hz0, hz1, hz2⟩ := info_parts hinf
  refine step_append_any w hgd s x t ho base e i0 _ 3 24 ht hi hz0 hz1 hz2 (by rfl) (by decide) g0 n c0 (flatH M) hs hown ao len cap (flatH L) hx (by rw [flatH_len, hat.ln]) (fun q => by subst q; exact hat.nil) hat.flat (flatH_one L) (by unfold maxLen; omega) (by omega) hbase ?_
  intro g cap' w' hr hg
  rw [← flatH_append] at hr
  exact h g cap' w' hr hg

/-- the same, behind nothing -/
theorem step_append_first {P : Program} (w : World) {ops : Array Oper} {o : Oper} {a : Act} {K : Act → World → Prop} {Q : Exit → Act → World → Prop} {E : Prop} (hgd : o.guard = none) (s x : Operand) (t e : TypeId)
    (ho : o.op = .call { callee := .builtin .append, args := #[s, x], argTypes := #[t, t] }) (ht : P.underlying t = some (.slice e))
    (hinf : (P.info? e).map (fun i => (i.zero, i.size, i.bytes)) = some (some (.agg #[.int .i64 0, .int .i64 0, .int .i64 0]), 3, 24))
    (base g0 : Nat) (hs : a.eval s = .slice (some ⟨g0, 0, none⟩) 0 0) (hg0 : w.heap[g0]? = some (.cells #[] e (0, 0))) (hb : base ≤ g0)
    (ao : Option Addr) (len cap : Nat) (L : List Hd) (hx : a.eval x = .slice ao len cap) (hat : HsAt w ao len L) (hlen : len ≤ 5864062014805)
    (h : ∀ g cap' w', w'.ownsRow base e 3 (.slice (some ⟨g, 0, none⟩) len cap') len (flatH L) → w.grownBy w' (some g0) → K (a.put o.dst (.slice (some ⟨g, 0, none⟩) len cap')) w') :
    if Region.wanted o (yielded ops a.tmps) = true then Oper.wp P o a w K Q else E := by
  refine step_append_list w hgd s x t e ho ht hinf base g0 0 0 [] hs (ownsRow_none g0 hb hg0) ao len cap L hx hat (by omega) (by have := lt_blk hg0; omega) ?_
  intro g cap' w' hr hg
  rw [Nat.zero_add] at hr ⊢
  exact h g cap' w' hr hg

/-- what an append leaves, where its row is newer than w -/
theorem kp_grown {w V V' : World} {g0 : Nat} (k : Kp w V) (h : V.grownBy V' (some g0)) (hg : w.heap.size ≤ g0) : Kp w V' :=
  Step.trans_new k ((Step.refl (fun q => some g0 = some q) V).grown h (fun _ q => q)) (fun i hi q => by cases q; omega)
theorem grown_block {V V' : World} {g0 b : Nat} {o : Obj} (h : V.grownBy V' (some g0)) (hb : V.heap[b]? = some o) (hne : b ≠ g0) : V'.heap[b]? = some o :=
  (h.block b (lt_blk hb) (fun q => by cases q; exact hne rfl)).trans hb
theorem row_base {w : World} {base : Nat} {e : TypeId} {size g n cap : Nat} {xs : List Value} (h : w.ownsRow base e size (.slice (some ⟨g, 0, none⟩) n cap) n xs) : base ≤ g := (h.lt g rfl).1

/-- the box of what is to be taken -/
theorem box3_new {w W : World} {h : Hd} {e : TypeId} (q : W = w.alloc (.cells #[.int .i64 h.t, .int .i64 h.s, .int .i64 h.l] e)) : Kp w W ∧ B3 W w.heap.size h e := by
  subst q
  exact ⟨(Step.refl _ w).alloc _, b3_new w h e⟩

theorem box_cells {W : World} {b : Nat} {h : Hd} {e : TypeId} (q : B3 W b h e) : W.cell? ⟨b, 0, none⟩ = some (.int .i64 h.t) ∧ W.cell? ⟨b, 1, none⟩ = some (.int .i64 h.s) ∧ W.cell? ⟨b, 2, none⟩ = some (.int .i64 h.l) := by
  obtain ⟨c0, c1, c2, _⟩ := q.c3
  exact ⟨c0, c1, c2⟩
theorem blk_kept {w w' : World} {b : Nat} {o : Obj} (h : w.heap[b]? = some o) (k : Kp w w') : w'.heap[b]? = some o := (k.block b (lt_blk h) (fun q => q)).trans h

set_option maxHeartbeats 4000000 in
theorem rtake_any (base : Nat) (v : Value) (L : List Hd) (h : Hd) (w : World) (hl : Ls w 33 base v L) (hb : base ≤ w.heap.size) (hlen1 : L.length + 1 ≤ 5864062014805) :
    Calls Try.prog 10 #[v, .agg #[.int .i64 h.t, .int .i64 h.s, .int .i64 h.l]] w fun e w' => ∃ v', e = .returned (.tuple #[v', .bool (!heldB L h.s)]) ∧ Ls w' 33 base v' (takeL L h) ∧ Kp w w' ∧ ∀ q, v'.ownBlock = some q → v.ownBlock = some q ∨ w.heap.size ≤ q := by
  obtain ⟨W0, HW⟩ : ∃ W0, Hid (W0 = w.alloc (.cells #[.int .i64 h.t, .int .i64 h.s, .int .i64 h.l] 33)) := ⟨_, rfl⟩
  obtain ⟨k0, b0⟩ := box3_new HW.out
  have HK0 : Hid (Kp w W0) := k0
  have HB0 : Hid (B3 W0 w.heap.size h 33) := b0
  have HLS : Hid (Ls w 33 base v L) := hl
  obtain ⟨bo, c2, rfl, hl'⟩ := hl.lies
  have HH : Hid (HsAt w bo L.length L) := hl'
  obtain ⟨res, hres⟩ : ∃ res, heldB L h.s = res := ⟨_, rfl⟩
  obtain ⟨T, hT⟩ : ∃ T, takeL L h = T := ⟨_, rfl⟩
  have HT : Hid (T = bif res then L else L ++ [h]) := by show T = _; rw [← hT, ← hres]; rfl
  rw [hres, hT]
  have HR : Hid (anyH (fun x => x.s == h.s) L L.length = res) := hres
  obtain ⟨n, hn⟩ : ∃ n, L.length = n := ⟨_, rfl⟩
  have HN : Hid (L.length = n) := hn
  have hlen : n ≤ 5864062014805 := by omega
  have HL1 : Hid (n + 1 ≤ 5864062014805) := by show _ ≤ _; omega
  rw [hn] at HH HR HLS ⊢
  clear hres hT hl' hl hn hlen1 k0 b0
  go_enter Try.func10, Try.ntmps10
  go_wp2_with fail
  rw [← HW.out]
  go_loopw [6] (fun i wr => ∃ k : Nat, k ≤ n ∧ i = .int .i64 k ∧ Hid (∀ i, i < k → (atH L i).s ≠ h.s) ∧ Kp W0 wr) (fun i _ => n - (intOf i).toNat)
  case atStart => exact ⟨0, Nat.zero_le _, rfl, fun i hi => by omega, Step.refl _ _⟩
  case round =>
    obtain ⟨k, hk, rfl, HL, hkp⟩ := hrel
    by_cases hlt : k < n
    · have hlt' : (k : Int) < (n : Int) := by omega
      have i1 : (0 : Int) ≤ (k : Int) := by omega
      have i3 : ((k : Int)).toNat = k := by omega
      obtain ⟨b, off, rfl, hb', c0, c1, c2', _⟩ := (HH.out.kp (HK0.out.trans hkp)).one hlt
      obtain ⟨d0, d1, d2, _⟩ := (HB0.out.kp hkp).c3
      have HT' : Hid ((atH L k).s = h.s → res = true) := fun q => by rw [← HR.out]; exact anyH_at hlt (by simpa using q)
      have HF : Hid ((atH L k).s ≠ h.s → ∀ i, i < k + 1 → (atH L i).s ≠ h.s) := fun q i hi => by
        by_cases hik : i < k
        · exact HL.out i hik
        · obtain rfl : i = k := by omega
          exact q
      clear HL
      by_cases he : (atH L k).s = h.s
      · have e' : ((atH L k).s == h.s) = true := by simp [he]
        have HN' : Hid (res = true) := HT'.out he
        clear HT' HF he
        generalize atH L k = x at *
        go_wp2_with fail
        go_quiet (fail)
        generalize hwq : World.drewN wr _ = w2
        have k2 : Kp W0 w2 := by rw [← hwq]; exact kp_drewN hkp _
        clear hwq
        have HD : Hid (T = L) := by show T = L; rw [HT.out, HN'.out]; rfl
        have LF : Hid (Ls w2 33 base (.slice (some ⟨b, off, none⟩) n c2) T) := by show Ls _ _ _ _ _; rw [HD.out]; exact HLS.out.kp (HK0.out.trans k2)
        go_wp2
        go_ret2
        exact ⟨_, by rw [HN'.out]; rfl, LF.out, HK0.out.trans k2, fun _ q => .inl q⟩
      · have e' : ((atH L k).s == h.s) = false := by simp [he]
        have HN' : Hid (∀ i, i < k + 1 → (atH L i).s ≠ h.s) := HF.out he
        clear HT' HF he
        generalize atH L k = x at *
        go_wp2_with fail
        go_quiet (fail)
        generalize hwq : World.drewN wr _ = w2
        have k2 : Kp W0 w2 := by rw [← hwq]; exact kp_drewN hkp _
        clear hwq
        go_wp2
        go_roundw
        case rel => exact ⟨k + 1, by omega, by go_num, HN', k2⟩
        case measure => simp [intOf]; omega
    · have hlt' : ¬ (k : Int) < (n : Int) := by omega
      have HN' : Hid (res = false) := by show res = false; rw [← HR.out]; exact anyH_f.2 (fun i hi => by simpa using HL.out i (by omega))
      have HD : Hid (T = L ++ [h]) := by show T = _; rw [HT.out, HN'.out]; rfl
      have HA : Hid (∀ W, Kp wr W → HsAt W bo n L) := fun W q => HH.out.kp ((HK0.out.trans hkp).trans q)
      have HKW : Hid (Kp w wr) := HK0.out.trans hkp
      have HBX : Hid (B3 wr w.heap.size h 33) := HB0.out.kp hkp
      clear HL HR
      obtain ⟨d0, d1, d2, hbl⟩ := HBX.out.c3
      have n1 := World.new_ne wr ⟨w.heap.size, 0, none⟩ d0
      go_wp2_with fail
      refine wp_region_noPanic ?_
      refine wp_region_held_drew (S := fun w' => w'.cell? ⟨w.heap.size, 0, none⟩ = some (.int .i64 h.t) ∧ w'.cell? ⟨w.heap.size, 1, none⟩ = some (.int .i64 h.s) ∧ w'.cell? ⟨w.heap.size, 2, none⟩ = some (.int .i64 h.l)) (by kernel_rfl) ?_ (fun hHeld => ?_)
      · exact box_cells (HBX.out.kp (Step.refl _ _).drew)
      obtain ⟨V0, HV0⟩ : ∃ V0, Hid (V0 = wr.drew) := ⟨_, rfl⟩
      have KV0 : Kp wr V0 := by rw [HV0.out]; exact (Step.refl _ _).drew
      rw [← HV0.out]
      clear HV0
      have hzw0 := KV0.size
      have hHeld0 := box_cells (HBX.out.kp KV0)
      refine wpAnyH_take (i := 1) (oi := Oper.mk (some 23) _ _ _ _ _) (v := ?v1A) rfl (by kernel_rfl) (by kernel_rfl) (by kernel_rfl) (fun _ _ _ h => h) (Or.inl ⟨by rfl, ?hy1A⟩) (by assumption) ?rest1A
      case hy1A => (intro w0 hSw; (try dsimp only at hSw); go_simp; try with_reducible rfl)
      try simp only [Act.put, List.setIfInBounds_toArray, List.set_cons_zero, List.set_cons_succ]
      refine wpAnyH_take (i := 3) (oi := Oper.mk (some 25) _ _ _ _ _) (v := ?v3A) rfl (by kernel_rfl) (by kernel_rfl) (by kernel_rfl) (fun _ _ _ h => h) (Or.inl ⟨by rfl, ?hy3A⟩) (by assumption) ?rest3A
      case hy3A => (intro w0 hSw; (try dsimp only at hSw); go_simp; try with_reducible rfl)
      try simp only [Act.put, List.setIfInBounds_toArray, List.set_cons_zero, List.set_cons_succ]
      refine wpAnyH_ready (rs := [0, 4]) (by kernel_rfl) (by simp) ?_
      refine AllReadyH.cons (o := Oper.mk (some 22) _ _ _ _ _) rfl (fun K hK => ?_) (AllReadyH.cons (o := Oper.mk (some 26) _ _ _ _ _) rfl (fun K hK => ?_) AllReadyH.nil)
      · go_simp
        go_wp2_with fail
        obtain ⟨V1, HV1⟩ : ∃ V1, Hid (V1 = V0.alloc (.cells #[] 33)) := ⟨_, rfl⟩
        have KS1 : Kp V0 V1 := by rw [HV1.out]; exact (Step.refl _ _).alloc _
        have KV1 : Kp wr V1 := KV0.trans KS1
        have E1 : V1.heap[V0.heap.size]? = some (.cells #[] 33 (0, 0)) := by rw [HV1.out]; exact alloc_at _ _
        have hz1 := KS1.size
        have hq1 := lt_blk E1
        have hzw1 := KV1.size
        rw [← HV1.out]
        clear HV1
        refine hK.out _ _ ?_ (fun hHeld => ?_)
        · exact (box_cells (HBX.out.kp KV1))
        clear hK K
        try simp only [Act.put, List.setIfInBounds_toArray, List.set_cons_zero, List.set_cons_succ]
        refine wpAnyH_ready (rs := [2, 4]) (by kernel_rfl) (by simp) ?_
        refine AllReadyH.cons (o := Oper.mk (some 24) _ _ _ _ _) rfl (fun K hK => ?_) (AllReadyH.cons (o := Oper.mk (some 26) _ _ _ _ _) rfl (fun K hK => ?_) AllReadyH.nil)
        · refine step_append_first V1 rfl _ _ 26 33 rfl Try.underlying26 hr_info wr.heap.size V0.heap.size rfl E1 (by omega) bo n c2 L rfl (HA.out _ KV1) hlen ?_
          intro g1 cap1 V2 R2 hg2
          have KV2 : Kp wr V2 := kp_grown KV1 hg2 (by omega)
          have hb1 := row_base R2
          have hzw2 := KV2.size
          have hz2 := hg2.size
          refine hK.out _ _ ?_ (fun hHeld => ?_)
          · exact (box_cells (HBX.out.kp KV2))
          clear hK K
          try simp only [Act.put, List.setIfInBounds_toArray, List.set_cons_zero, List.set_cons_succ]
          refine wpAnyH_ready (rs := [4]) (by kernel_rfl) (by simp) ?_
          refine AllReadyH.cons (o := Oper.mk (some 26) _ _ _ _ _) rfl (fun K hK => ?_) AllReadyH.nil
          go_simp
          go_wp2_with fail
          obtain ⟨V3, HV3⟩ : ∃ V3, Hid (V3 = V2.alloc (.cells #[.int .i64 h.t, .int .i64 h.s, .int .i64 h.l] 33)) := ⟨_, rfl⟩
          have KS3 : Kp V2 V3 := by rw [HV3.out]; exact (Step.refl _ _).alloc _
          have KV3 : Kp wr V3 := KV2.trans KS3
          have H3 : V3.heap[V2.heap.size]? = some (.cells #[.int .i64 h.t, .int .i64 h.s, .int .i64 h.l] 33 (0, 0)) := by rw [HV3.out]; exact alloc_at _ _
          have hz3 := KS3.size
          have hq3 := lt_blk H3
          have hzw3 := KV3.size
          rw [← HV3.out]
          clear HV3
          have R3 := row_kept KS3 R2 (fun _ _ q => q)
          refine hK.out _ _ ?_ (fun hHeld => ?_)
          · exact (box_cells (HBX.out.kp KV3))
          clear hK K
          try simp only [Act.put, List.setIfInBounds_toArray, List.set_cons_zero, List.set_cons_succ]
          refine wpAnyH_ready (rs := [5]) (by kernel_rfl) (by simp) ?_
          refine AllReadyH.cons (o := Oper.mk (some 27) _ _ _ _ _) rfl (fun K hK => ?_) AllReadyH.nil
          refine step_append_three V3 rfl _ _ 26 33 rfl Try.underlying26 hr_info wr.heap.size (.slice (some ⟨g1, 0, none⟩) n cap1) L rfl (by rw [HN.out]; exact R3) V2.heap.size h rfl H3 (by have := HN.out; have := HL1.out; omega) KV3.size ?_
          intro g4 cap4 V4 R4 hg4 _
          have KV4 : Kp wr V4 := kp_grown KV3 hg4 hb1
          have HL4 : Hid (Ls V4 33 wr.heap.size (.slice (some ⟨g4, 0, none⟩) (L.length + 1) cap4) (L ++ [h])) := ⟨by rw [List.length_append]; exact R4, by have := HN.out; have := HL1.out; simp; omega⟩
          refine hK.out _ _ ?_ (fun hHeld => ?_)
          · exact (box_cells (HBX.out.kp KV4))
          clear hK K
          try simp only [Act.put, List.setIfInBounds_toArray, List.set_cons_zero, List.set_cons_succ]
          refine wpAnyH_take (i := 6) (oi := Oper.mk (some 4) _ _ _ _ _) (v := ?v6Z0245) rfl (by kernel_rfl) (by kernel_rfl) (by kernel_rfl) (fun _ _ _ h => h) (Or.inl ⟨by rfl, ?hy6Z0245⟩) (by assumption) ?rest6Z0245
          case hy6Z0245 => (intro w0 hSw; (try dsimp only at hSw); go_simp; try with_reducible rfl)
          try simp only [Act.put, List.setIfInBounds_toArray, List.set_cons_zero, List.set_cons_succ]
          refine wpAnyH_take (i := 7) (oi := Oper.mk (some 5) _ _ _ _ _) (v := ?v7Z0245) rfl (by kernel_rfl) (by kernel_rfl) (by kernel_rfl) (fun _ _ _ h => h) (Or.inl ⟨by rfl, ?hy7Z0245⟩) (by assumption) ?rest7Z0245
          case hy7Z0245 => (intro w0 hSw; (try dsimp only at hSw); go_simp; try with_reducible rfl)
          try simp only [Act.put, List.setIfInBounds_toArray, List.set_cons_zero, List.set_cons_succ]
          refine wpAnyH_done (by kernel_rfl) ?_ _
          refine NoPanic.normal ?_
          have HKF : Hid (Kp w V4) := HKW.out.trans KV4
          have HOF : Hid (∀ q, (Value.slice (some ⟨g4, 0, none⟩) (L.length + 1) cap4).ownBlock = some q → (Value.slice bo n c2).ownBlock = some q ∨ w.heap.size ≤ q) := fun q e => .inr (Nat.le_trans HKW.out.size (HL4.out.own q e).1)
          have HLF : Hid (Ls V4 33 base (.slice (some ⟨g4, 0, none⟩) (L.length + 1) cap4) T) := by
            show Ls _ _ _ _ _
            rw [HD.out]
            exact HL4.out.low (Nat.le_trans hb HKW.out.size)
          go_wp2
          go_ret2
          exact ⟨_, by rw [HN'.out]; rfl, HLF.out, HKF.out, HOF.out⟩
        · go_simp
          go_wp2_with fail
          obtain ⟨V2, HV2⟩ : ∃ V2, Hid (V2 = V1.alloc (.cells #[.int .i64 h.t, .int .i64 h.s, .int .i64 h.l] 33)) := ⟨_, rfl⟩
          have KS2 : Kp V1 V2 := by rw [HV2.out]; exact (Step.refl _ _).alloc _
          have KV2 : Kp wr V2 := KV1.trans KS2
          have H2 : V2.heap[V1.heap.size]? = some (.cells #[.int .i64 h.t, .int .i64 h.s, .int .i64 h.l] 33 (0, 0)) := by rw [HV2.out]; exact alloc_at _ _
          have hz2 := KS2.size
          have hq2 := lt_blk H2
          have hzw2 := KV2.size
          rw [← HV2.out]
          clear HV2
          have E2 := blk_kept E1 KS2
          refine hK.out _ _ ?_ (fun hHeld => ?_)
          · exact (box_cells (HBX.out.kp KV2))
          clear hK K
          try simp only [Act.put, List.setIfInBounds_toArray, List.set_cons_zero, List.set_cons_succ]
          refine wpAnyH_ready (rs := [2]) (by kernel_rfl) (by simp) ?_
          refine AllReadyH.cons (o := Oper.mk (some 24) _ _ _ _ _) rfl (fun K hK => ?_) AllReadyH.nil
          refine step_append_first V2 rfl _ _ 26 33 rfl Try.underlying26 hr_info wr.heap.size V0.heap.size rfl E2 (by omega) bo n c2 L rfl (HA.out _ KV2) hlen ?_
          intro g1 cap1 V3 R3 hg3
          have KV3 : Kp wr V3 := kp_grown KV2 hg3 (by omega)
          have hb1 := row_base R3
          have hzw3 := KV3.size
          have hz3 := hg3.size
          have H3 := grown_block hg3 H2 (by omega)
          refine hK.out _ _ ?_ (fun hHeld => ?_)
          · exact (box_cells (HBX.out.kp KV3))
          clear hK K
          try simp only [Act.put, List.setIfInBounds_toArray, List.set_cons_zero, List.set_cons_succ]
          refine wpAnyH_ready (rs := [5]) (by kernel_rfl) (by simp) ?_
          refine AllReadyH.cons (o := Oper.mk (some 27) _ _ _ _ _) rfl (fun K hK => ?_) AllReadyH.nil
          refine step_append_three V3 rfl _ _ 26 33 rfl Try.underlying26 hr_info wr.heap.size (.slice (some ⟨g1, 0, none⟩) n cap1) L rfl (by rw [HN.out]; exact R3) V1.heap.size h rfl H3 (by have := HN.out; have := HL1.out; omega) KV3.size ?_
          intro g4 cap4 V4 R4 hg4 _
          have KV4 : Kp wr V4 := kp_grown KV3 hg4 hb1
          have HL4 : Hid (Ls V4 33 wr.heap.size (.slice (some ⟨g4, 0, none⟩) (L.length + 1) cap4) (L ++ [h])) := ⟨by rw [List.length_append]; exact R4, by have := HN.out; have := HL1.out; simp; omega⟩
          refine hK.out _ _ ?_ (fun hHeld => ?_)
          · exact (box_cells (HBX.out.kp KV4))
          clear hK K
          try simp only [Act.put, List.setIfInBounds_toArray, List.set_cons_zero, List.set_cons_succ]
          refine wpAnyH_take (i := 6) (oi := Oper.mk (some 4) _ _ _ _ _) (v := ?v6Z0425) rfl (by kernel_rfl) (by kernel_rfl) (by kernel_rfl) (fun _ _ _ h => h) (Or.inl ⟨by rfl, ?hy6Z0425⟩) (by assumption) ?rest6Z0425
          case hy6Z0425 => (intro w0 hSw; (try dsimp only at hSw); go_simp; try with_reducible rfl)
          try simp only [Act.put, List.setIfInBounds_toArray, List.set_cons_zero, List.set_cons_succ]
          refine wpAnyH_take (i := 7) (oi := Oper.mk (some 5) _ _ _ _ _) (v := ?v7Z0425) rfl (by kernel_rfl) (by kernel_rfl) (by kernel_rfl) (fun _ _ _ h => h) (Or.inl ⟨by rfl, ?hy7Z0425⟩) (by assumption) ?rest7Z0425
          case hy7Z0425 => (intro w0 hSw; (try dsimp only at hSw); go_simp; try with_reducible rfl)
          try simp only [Act.put, List.setIfInBounds_toArray, List.set_cons_zero, List.set_cons_succ]
          refine wpAnyH_done (by kernel_rfl) ?_ _
          refine NoPanic.normal ?_
          have HKF : Hid (Kp w V4) := HKW.out.trans KV4
          have HOF : Hid (∀ q, (Value.slice (some ⟨g4, 0, none⟩) (L.length + 1) cap4).ownBlock = some q → (Value.slice bo n c2).ownBlock = some q ∨ w.heap.size ≤ q) := fun q e => .inr (Nat.le_trans HKW.out.size (HL4.out.own q e).1)
          have HLF : Hid (Ls V4 33 base (.slice (some ⟨g4, 0, none⟩) (L.length + 1) cap4) T) := by
            show Ls _ _ _ _ _
            rw [HD.out]
            exact HL4.out.low (Nat.le_trans hb HKW.out.size)
          go_wp2
          go_ret2
          exact ⟨_, by rw [HN'.out]; rfl, HLF.out, HKF.out, HOF.out⟩
      · go_simp
        go_wp2_with fail
        obtain ⟨V1, HV1⟩ : ∃ V1, Hid (V1 = V0.alloc (.cells #[.int .i64 h.t, .int .i64 h.s, .int .i64 h.l] 33)) := ⟨_, rfl⟩
        have KS1 : Kp V0 V1 := by rw [HV1.out]; exact (Step.refl _ _).alloc _
        have KV1 : Kp wr V1 := KV0.trans KS1
        have H1 : V1.heap[V0.heap.size]? = some (.cells #[.int .i64 h.t, .int .i64 h.s, .int .i64 h.l] 33 (0, 0)) := by rw [HV1.out]; exact alloc_at _ _
        have hz1 := KS1.size
        have hq1 := lt_blk H1
        have hzw1 := KV1.size
        rw [← HV1.out]
        clear HV1
        refine hK.out _ _ ?_ (fun hHeld => ?_)
        · exact (box_cells (HBX.out.kp KV1))
        clear hK K
        try simp only [Act.put, List.setIfInBounds_toArray, List.set_cons_zero, List.set_cons_succ]
        refine wpAnyH_ready (rs := [0]) (by kernel_rfl) (by simp) ?_
        refine AllReadyH.cons (o := Oper.mk (some 22) _ _ _ _ _) rfl (fun K hK => ?_) AllReadyH.nil
        go_simp
        go_wp2_with fail
        obtain ⟨V2, HV2⟩ : ∃ V2, Hid (V2 = V1.alloc (.cells #[] 33)) := ⟨_, rfl⟩
        have KS2 : Kp V1 V2 := by rw [HV2.out]; exact (Step.refl _ _).alloc _
        have KV2 : Kp wr V2 := KV1.trans KS2
        have E2 : V2.heap[V1.heap.size]? = some (.cells #[] 33 (0, 0)) := by rw [HV2.out]; exact alloc_at _ _
        have hz2 := KS2.size
        have hq2 := lt_blk E2
        have hzw2 := KV2.size
        rw [← HV2.out]
        clear HV2
        have H2 := blk_kept H1 KS2
        refine hK.out _ _ ?_ (fun hHeld => ?_)
        · exact (box_cells (HBX.out.kp KV2))
        clear hK K
        try simp only [Act.put, List.setIfInBounds_toArray, List.set_cons_zero, List.set_cons_succ]
        refine wpAnyH_ready (rs := [2]) (by kernel_rfl) (by simp) ?_
        refine AllReadyH.cons (o := Oper.mk (some 24) _ _ _ _ _) rfl (fun K hK => ?_) AllReadyH.nil
        refine step_append_first V2 rfl _ _ 26 33 rfl Try.underlying26 hr_info wr.heap.size V1.heap.size rfl E2 (by omega) bo n c2 L rfl (HA.out _ KV2) hlen ?_
        intro g1 cap1 V3 R3 hg3
        have KV3 : Kp wr V3 := kp_grown KV2 hg3 (by omega)
        have hb1 := row_base R3
        have hzw3 := KV3.size
        have hz3 := hg3.size
        have H3 := grown_block hg3 H2 (by omega)
        refine hK.out _ _ ?_ (fun hHeld => ?_)
        · exact (box_cells (HBX.out.kp KV3))
        clear hK K
        try simp only [Act.put, List.setIfInBounds_toArray, List.set_cons_zero, List.set_cons_succ]
        refine wpAnyH_ready (rs := [5]) (by kernel_rfl) (by simp) ?_
        refine AllReadyH.cons (o := Oper.mk (some 27) _ _ _ _ _) rfl (fun K hK => ?_) AllReadyH.nil
        refine step_append_three V3 rfl _ _ 26 33 rfl Try.underlying26 hr_info wr.heap.size (.slice (some ⟨g1, 0, none⟩) n cap1) L rfl (by rw [HN.out]; exact R3) V0.heap.size h rfl H3 (by have := HN.out; have := HL1.out; omega) KV3.size ?_
        intro g4 cap4 V4 R4 hg4 _
        have KV4 : Kp wr V4 := kp_grown KV3 hg4 hb1
        have HL4 : Hid (Ls V4 33 wr.heap.size (.slice (some ⟨g4, 0, none⟩) (L.length + 1) cap4) (L ++ [h])) := ⟨by rw [List.length_append]; exact R4, by have := HN.out; have := HL1.out; simp; omega⟩
        refine hK.out _ _ ?_ (fun hHeld => ?_)
        · exact (box_cells (HBX.out.kp KV4))
        clear hK K
        try simp only [Act.put, List.setIfInBounds_toArray, List.set_cons_zero, List.set_cons_succ]
        refine wpAnyH_take (i := 6) (oi := Oper.mk (some 4) _ _ _ _ _) (v := ?v6Z4025) rfl (by kernel_rfl) (by kernel_rfl) (by kernel_rfl) (fun _ _ _ h => h) (Or.inl ⟨by rfl, ?hy6Z4025⟩) (by assumption) ?rest6Z4025
        case hy6Z4025 => (intro w0 hSw; (try dsimp only at hSw); go_simp; try with_reducible rfl)
        try simp only [Act.put, List.setIfInBounds_toArray, List.set_cons_zero, List.set_cons_succ]
        refine wpAnyH_take (i := 7) (oi := Oper.mk (some 5) _ _ _ _ _) (v := ?v7Z4025) rfl (by kernel_rfl) (by kernel_rfl) (by kernel_rfl) (fun _ _ _ h => h) (Or.inl ⟨by rfl, ?hy7Z4025⟩) (by assumption) ?rest7Z4025
        case hy7Z4025 => (intro w0 hSw; (try dsimp only at hSw); go_simp; try with_reducible rfl)
        try simp only [Act.put, List.setIfInBounds_toArray, List.set_cons_zero, List.set_cons_succ]
        refine wpAnyH_done (by kernel_rfl) ?_ _
        refine NoPanic.normal ?_
        have HKF : Hid (Kp w V4) := HKW.out.trans KV4
        have HOF : Hid (∀ q, (Value.slice (some ⟨g4, 0, none⟩) (L.length + 1) cap4).ownBlock = some q → (Value.slice bo n c2).ownBlock = some q ∨ w.heap.size ≤ q) := fun q e => .inr (Nat.le_trans HKW.out.size (HL4.out.own q e).1)
        have HLF : Hid (Ls V4 33 base (.slice (some ⟨g4, 0, none⟩) (L.length + 1) cap4) T) := by
          show Ls _ _ _ _ _
          rw [HD.out]
          exact HL4.out.low (Nat.le_trans hb HKW.out.size)
        go_wp2
        go_ret2
        exact ⟨_, by rw [HN'.out]; rfl, HLF.out, HKF.out, HOF.out⟩

theorem wrap_one {k n : Nat} (h : k < n) (hn : n ≤ 5864062014805) : IntKind.i64.wrap ((k : Int) + 1) = ((k + 1 : Nat) : Int) := by rw [IntKind.wrap_i64]; omega

theorem HsAt.take {w : World} {ao : Option Addr} {len k : Nat} {L : List Hd} (h : HsAt w ao len L) (hk : k ≤ len) : HsAt w ao k (L.take k) := by
  have hl := h.ln
  refine ⟨by rw [List.length_take]; omega, ?_⟩
  rcases h.row with h0 | ⟨b, off, e, hlt, hc⟩
  · exact .inl (by omega)
  · refine .inr ⟨b, off, e, hlt, fun i hi => ?_⟩
    have e1 : atH (L.take k) i = atH L i := by simp [atH, hi]
    rw [e1]
    exact hc i (by omega)
theorem HsAt.drop {w : World} {b off len k : Nat} {L : List Hd} (h : HsAt w (some ⟨b, off, none⟩) len L) (hk : k ≤ len) : HsAt w (some ⟨b, off + k * 3, none⟩) (len - k) (L.drop k) := by
  have hl := h.ln
  refine ⟨by rw [List.length_drop]; omega, ?_⟩
  rcases h.row with h0 | ⟨b', off', e, hlt, hc⟩
  · exact .inl (by omega)
  · cases e
    refine .inr ⟨b, off + k * 3, rfl, hlt, fun i hi => ?_⟩
    have e1 : atH (L.drop k) i = atH L (k + i) := by unfold atH; simp
    rw [e1]
    have := hc (k + i) (by omega)
    rw [show off + (k + i) * 3 = off + k * 3 + i * 3 from by omega] at this
    exact this

set_option maxHeartbeats 4000000 in
theorem rgive_any (base : Nat) (v : Value) (L : List Hd) (t s : Int) (w : World) (hl : Ls w 33 base v L) (hb : base ≤ w.heap.size) :
    Calls Try.prog 13 #[v, .int .i64 t, .int .i64 s] w fun e w' => ∃ v', e = .returned (.tuple #[v', .bool (giveB L t s)]) ∧ Ls w' 33 base v' (giveL L t s) ∧ Kp w w' ∧ ∀ q, v'.ownBlock = some q → v.ownBlock = some q ∨ w.heap.size ≤ q := by
  have HLS : Hid (Ls w 33 base v L) := hl
  obtain ⟨bo, c2, rfl, hl'⟩ := hl.lies
  have hcap : L.length ≤ c2 ∧ c2 ≤ maxLen := by
    rcases hl.cases with ⟨e, rfl⟩ | ⟨g, c, e, _, _, h1, h2, _⟩
    · simp only [Value.slice.injEq] at e
      obtain ⟨_, _, rfl⟩ := e
      exact ⟨Nat.le_refl _, Nat.zero_le _⟩
    · simp only [Value.slice.injEq] at e
      obtain ⟨_, _, rfl⟩ := e
      exact ⟨h1, h2⟩
  have HH : Hid (HsAt w bo L.length L) := hl'
  obtain ⟨res, hres⟩ : ∃ res, giveB L t s = res := ⟨_, rfl⟩
  obtain ⟨T, hT⟩ : ∃ T, giveL L t s = T := ⟨_, rfl⟩
  have HQ1 : Hid (lastI L t L.length = -1 → res = false ∧ T = L) := fun q => by rw [← hres, ← hT]; exact giveB_none q
  have HQ2 : Hid (∀ k : Nat, lastI L t L.length = (k : Int) → (atH L k).s ≠ s → res = false ∧ T = L) := fun k q1 q2 => by rw [← hres, ← hT]; exact giveB_other q1 q2
  have HQ3 : Hid (∀ k : Nat, lastI L t L.length = (k : Int) → (atH L k).s = s → res = true ∧ T = cutH L k) := fun k q1 q2 => by rw [← hres, ← hT]; exact giveB_it q1 q2
  rw [hres, hT]
  obtain ⟨n, hn⟩ : ∃ n, L.length = n := ⟨_, rfl⟩
  have HN : Hid (L.length = n) := hn
  have hlen : n ≤ 5864062014805 := by have := hl.len; omega
  rw [hn] at HH HLS HQ1 HQ2 HQ3 hcap ⊢
  obtain ⟨hcap, hcm⟩ := hcap
  have hcm' : c2 ≤ 9223372036854775807 := hcm
  clear hres hT hl' hl hn hcm
  go_enter Try.func13, Try.ntmps13
  go_wp2
  go_loopw [8, 9] (fun a i wr => ∃ k : Nat, k ≤ n ∧ i = .int .i64 k ∧ a = .int .i64 (lastI L t k) ∧ Kp w wr) (fun _ i _ => n - (intOf i).toNat)
  case atStart => exact ⟨0, Nat.zero_le _, rfl, rfl, Step.refl _ _⟩
  case round =>
    obtain ⟨k, hk, rfl, rfl, hkp⟩ := hrel
    by_cases hlt : k < n
    · have hlt' : (k : Int) < (n : Int) := by omega
      obtain ⟨b, off, rfl, hb', c0, c1, c2', _⟩ := (HH.out.kp hkp).one hlt
      by_cases he : (atH L k).t = t
      · have e' : ((atH L k).t == t) = true := by simp [he]
        have HE : Hid (lastI L t (k + 1) = (k : Int)) := lastI_hit he
        clear he
        generalize atH L k = x at *
        go_wp2
        go_roundw
        case rel => exact ⟨k + 1, by omega, by go_num, by rw [HE.out] <;> rfl, hkp⟩
        case measure => simp [intOf]; omega
      · have e' : ((atH L k).t == t) = false := by simp [he]
        have HE : Hid (lastI L t (k + 1) = lastI L t k) := lastI_miss he
        clear he
        generalize atH L k = x at *
        generalize lastI L t k = y at *
        go_wp2
        go_roundw
        case rel => exact ⟨k + 1, by omega, by go_num, by rw [HE.out] <;> rfl, hkp⟩
        case measure => simp [intOf]; omega
    · have hlt' : ¬ (k : Int) < (n : Int) := by omega
      rw [show k = n by omega]
      have HKW : Hid (Kp w wr) := hkp
      rcases lastI_cases (L := L) (t := t) n with ⟨hr, _⟩ | ⟨k, hr, hk', _, _⟩
      · have HD := HQ1.out hr
        have HB : Hid (res = false) := HD.1
        have LF : Hid (Ls wr 33 base (.slice bo n c2) T) := by show Ls _ _ _ _ _; rw [HD.2]; exact HLS.out.kp hkp
        rw [hr]
        clear HD hr HQ1 HQ2 HQ3
        go_wp2
        go_ret2
        exact ⟨_, by rw [HB.out]; rfl, LF.out, HKW.out, fun _ q => .inl q⟩
      · rw [hr]
        have kd : decide ((k : Int) < 0) = false := decide_eq_false (by omega)
        have k0 : (0 : Int) ≤ (k : Int) := by omega
        have k1 : (k : Int) < (n : Int) := by omega
        obtain ⟨b, off, rfl, hb', c0, c1, c2', _⟩ := (HH.out.kp hkp).one hk'
        by_cases hs : (atH L k).s = s
        · have HD0 := HQ3.out k hr hs
          have HB : Hid (res = true) := HD0.1
          have HD : Hid (T = cutH L k) := HD0.2
          have hs' : ((atH L k).s != s) = false := by simpa using hs
          have HCL : Hid ((cutH L k).length = k + (n - (k + 1))) := by show _ = _; rw [cutH_len (by rw [HN.out]; exact hk'), HN.out]; omega
          clear hs hr HQ1 HQ2 HQ3 HD0
          generalize atH L k = x at *
          have kn : ((k : Int)).toNat = k := by omega
          have w1 : IntKind.i64.wrap ((k : Int) + 1) = (k : Int) + 1 := by rw [IntKind.wrap_i64]; omega
          have q1 : k ≤ c2 := by omega
          have q2 : k + 1 ≤ n := by omega
          have q3 : k + 1 ≤ c2 := by omega
          have q4 : (0 : Int) ≤ (k : Int) + 1 := by omega
          have q5 : (k : Int) + 1 ≤ (n : Int) := by omega
          have HA1 : Hid (∀ W, Kp wr W → HsAt W (some ⟨b, off, none⟩) k (L.take k)) := fun W q => (HH.out.kp (HKW.out.trans q)).take (by omega)
          by_cases hce : c2 = k + 1
          · subst hce
            have HA2 : Hid (∀ W, Kp wr W → HsAt W (some ⟨b, off, none⟩) (n - (k + 1)) (L.drop (k + 1))) := fun W q => ⟨by rw [List.length_drop, HN.out], .inl (by omega)⟩
            have q1q : (k : Int) ≤ (k : Int) + 1 := by omega
            clear q3 hcap
            go_wp2_with fail
            refine wp_region_noPanic ?_
            refine wp_region_held_drew (S := fun _ => True) (by kernel_rfl) ?_ (fun hHeld => ?_)
            · exact trivial
            obtain ⟨V0, HV0⟩ : ∃ V0, Hid (V0 = wr.drew) := ⟨_, rfl⟩
            have KV0 : Kp wr V0 := by rw [HV0.out]; exact (Step.refl _ _).drew
            rw [← HV0.out]
            clear HV0
            have hzw0 := KV0.size
            refine wpAnyH_take (i := 1) (oi := Oper.mk (some 37) _ _ _ _ _) (v := ?v1p) rfl (by kernel_rfl) (by kernel_rfl) (by kernel_rfl) (fun _ _ _ h => h) (Or.inl ⟨by rfl, ?hy1p⟩) (by assumption) ?rest1p
            case hy1p => (intro w0 hSw; (try dsimp only at hSw); go_simp; try with_reducible rfl)
            try simp only [Act.put, List.setIfInBounds_toArray, List.set_cons_zero, List.set_cons_succ]
            refine wpAnyH_take (i := 2) (oi := Oper.mk (some 38) _ _ _ _ _) (v := ?v2p) rfl (by kernel_rfl) (by kernel_rfl) (by kernel_rfl) (fun _ _ _ h => h) (Or.inl ⟨by rfl, ?hy2p⟩) (by assumption) ?rest2p
            case hy2p => (intro w0 hSw; (try dsimp only at hSw); go_simp; try with_reducible rfl)
            try simp only [Act.put, List.setIfInBounds_toArray, List.set_cons_zero, List.set_cons_succ]
            refine wpAnyH_take (i := 3) (oi := Oper.mk (some 39) _ _ _ _ _) (v := ?v3p) rfl (by kernel_rfl) (by kernel_rfl) (by kernel_rfl) (fun _ _ _ h => h) (Or.inl ⟨by rfl, ?hy3p⟩) (by assumption) ?rest3p
            case hy3p => (intro w0 hSw; (try dsimp only at hSw); go_simp; try with_reducible rfl)
            try simp only [Act.put, List.setIfInBounds_toArray, List.set_cons_zero, List.set_cons_succ]
            refine wpAnyH_take (i := 5) (oi := Oper.mk (some 41) _ _ _ _ _) (v := ?v5p) rfl (by kernel_rfl) (by kernel_rfl) (by kernel_rfl) (fun _ _ _ h => h) (Or.inl ⟨by rfl, ?hy5p⟩) (by assumption) ?rest5p
            case hy5p => (intro w0 hSw; (try dsimp only at hSw); go_simp; try with_reducible rfl)
            try simp only [Act.put, List.setIfInBounds_toArray, List.set_cons_zero, List.set_cons_succ]
            refine wpAnyH_take (i := 6) (oi := Oper.mk (some 42) _ _ _ _ _) (v := ?v6p) rfl (by kernel_rfl) (by kernel_rfl) (by kernel_rfl) (fun _ _ _ h => h) (Or.inl ⟨by rfl, ?hy6p⟩) (by assumption) ?rest6p
            case hy6p => (intro w0 hSw; (try dsimp only at hSw); go_simp; try with_reducible rfl)
            try simp only [Act.put, List.setIfInBounds_toArray, List.set_cons_zero, List.set_cons_succ]
            refine wpAnyH_take (i := 7) (oi := Oper.mk (some 43) _ _ _ _ _) (v := ?v7p) rfl (by kernel_rfl) (by kernel_rfl) (by kernel_rfl) (fun _ _ _ h => h) (Or.inl ⟨by rfl, ?hy7p⟩) (by assumption) ?rest7p
            case hy7p => (intro w0 hSw; (try dsimp only at hSw); go_simp; try with_reducible rfl)
            try simp only [Act.put, List.setIfInBounds_toArray, List.set_cons_zero, List.set_cons_succ]
            refine wpAnyH_take (i := 8) (oi := Oper.mk (some 44) _ _ _ _ _) (v := ?v8p) rfl (by kernel_rfl) (by kernel_rfl) (by kernel_rfl) (fun _ _ _ h => h) (Or.inl ⟨by rfl, ?hy8p⟩) (by assumption) ?rest8p
            case hy8p => (intro w0 hSw; (try dsimp only at hSw); go_simp; try with_reducible rfl)
            try simp only [Act.put, List.setIfInBounds_toArray, List.set_cons_zero, List.set_cons_succ]
            refine wpAnyH_ready (rs := [0]) (by kernel_rfl) (by simp) ?_
            refine AllReadyH.cons (o := Oper.mk (some 36) _ _ _ _ _) rfl (fun K hK => ?_) AllReadyH.nil
            go_simp
            go_wp2_with fail
            obtain ⟨V1, HV1⟩ : ∃ V1, Hid (V1 = V0.alloc (.cells #[] 33)) := ⟨_, rfl⟩
            have KS1 : Kp V0 V1 := by rw [HV1.out]; exact (Step.refl _ _).alloc _
            have KV1 : Kp wr V1 := KV0.trans KS1
            have E1 : V1.heap[V0.heap.size]? = some (.cells #[] 33 (0, 0)) := by rw [HV1.out]; exact alloc_at _ _
            have hz1 := KS1.size
            rw [← HV1.out]
            clear HV1
            refine hK.out _ _ ?_ (fun hHeld => ?_)
            · exact trivial
            clear hK K
            try simp only [Act.put, List.setIfInBounds_toArray, List.set_cons_zero, List.set_cons_succ]
            refine wpAnyH_ready (rs := [4]) (by kernel_rfl) (by simp) ?_
            refine AllReadyH.cons (o := Oper.mk (some 40) _ _ _ _ _) rfl (fun K hK => ?_) AllReadyH.nil
            refine step_append_first V1 rfl _ _ 26 33 rfl Try.underlying26 hr_info wr.heap.size V0.heap.size rfl E1 (by omega) (some ⟨b, off, none⟩) k (k + 1) (L.take k) rfl (HA1.out _ KV1) (by omega) ?_
            intro g1 cap1 V2 R2 hg2
            have KV2 : Kp wr V2 := kp_grown KV1 hg2 (by omega)
            have hb1 := row_base R2
            refine hK.out _ _ ?_ (fun hHeld => ?_)
            · exact trivial
            clear hK K
            try simp only [Act.put, List.setIfInBounds_toArray, List.set_cons_zero, List.set_cons_succ]
            refine wpAnyH_ready (rs := [9]) (by kernel_rfl) (by simp) ?_
            refine AllReadyH.cons (o := Oper.mk (some 45) _ _ _ _ _) rfl (fun K hK => ?_) AllReadyH.nil
            refine step_append_list V2 rfl _ _ 26 33 rfl Try.underlying26 hr_info wr.heap.size g1 k cap1 (L.take k) rfl R2 (some ⟨b, off, none⟩) (n - (k + 1)) 0 (L.drop (k + 1)) rfl (HA2.out _ KV2) (by omega) KV2.size ?_
            intro g2 cap2 V3 R3 hg3
            have KV3 : Kp wr V3 := kp_grown KV2 hg3 hb1
            have HLF : Hid (Ls V3 33 base (.slice (some ⟨g2, 0, none⟩) (k + (n - (k + 1))) cap2) T) := by
              show Ls _ _ _ _ _
              rw [HD.out]
              refine ⟨row_low (base := wr.heap.size) ?_ (Nat.le_trans hb HKW.out.size), by rw [HCL.out]; omega⟩
              rw [HCL.out]
              exact R3
            have HKF : Hid (Kp w V3) := HKW.out.trans KV3
            have HOF : Hid (∀ q, (Value.slice (some ⟨g2, 0, none⟩) (k + (n - (k + 1))) cap2).ownBlock = some q → (Value.slice (some ⟨b, off, none⟩) n (k + 1)).ownBlock = some q ∨ w.heap.size ≤ q) := fun q e => .inr (Nat.le_trans HKW.out.size (R3.lt q e).1)
            clear R3 hg3 R2 hg2
            refine hK.out _ _ ?_ (fun hHeld => ?_)
            · exact trivial
            clear hK K
            try simp only [Act.put, List.setIfInBounds_toArray, List.set_cons_zero, List.set_cons_succ]
            refine wpAnyH_take (i := 10) (oi := Oper.mk (some 6) _ _ _ _ _) (v := ?v10p) rfl (by kernel_rfl) (by kernel_rfl) (by kernel_rfl) (fun _ _ _ h => h) (Or.inl ⟨by rfl, ?hy10p⟩) (by assumption) ?rest10p
            case hy10p => (intro w0 hSw; (try dsimp only at hSw); go_simp; try with_reducible rfl)
            try simp only [Act.put, List.setIfInBounds_toArray, List.set_cons_zero, List.set_cons_succ]
            refine wpAnyH_take (i := 11) (oi := Oper.mk (some 7) _ _ _ _ _) (v := ?v11p) rfl (by kernel_rfl) (by kernel_rfl) (by kernel_rfl) (fun _ _ _ h => h) (Or.inl ⟨by rfl, ?hy11p⟩) (by assumption) ?rest11p
            case hy11p => (intro w0 hSw; (try dsimp only at hSw); go_simp; try with_reducible rfl)
            try simp only [Act.put, List.setIfInBounds_toArray, List.set_cons_zero, List.set_cons_succ]
            refine wpAnyH_done (by kernel_rfl) ?_ _
            refine NoPanic.normal ?_
            go_wp2
            go_ret2
            exact ⟨_, by rw [HB.out]; rfl, HLF.out, HKF.out, HOF.out⟩
          · have HA2 : Hid (∀ W, Kp wr W → HsAt W (some ⟨b, off + (k + 1) * 3, none⟩) (n - (k + 1)) (L.drop (k + 1))) := fun W q => (HH.out.kp (HKW.out.trans q)).drop (by omega)
            go_wp2_with fail
            refine wp_region_noPanic ?_
            refine wp_region_held_drew (S := fun _ => True) (by kernel_rfl) ?_ (fun hHeld => ?_)
            · exact trivial
            obtain ⟨V0, HV0⟩ : ∃ V0, Hid (V0 = wr.drew) := ⟨_, rfl⟩
            have KV0 : Kp wr V0 := by rw [HV0.out]; exact (Step.refl _ _).drew
            rw [← HV0.out]
            clear HV0
            have hzw0 := KV0.size
            refine wpAnyH_take (i := 1) (oi := Oper.mk (some 37) _ _ _ _ _) (v := ?v1q) rfl (by kernel_rfl) (by kernel_rfl) (by kernel_rfl) (fun _ _ _ h => h) (Or.inl ⟨by rfl, ?hy1q⟩) (by assumption) ?rest1q
            case hy1q => (intro w0 hSw; (try dsimp only at hSw); go_simp; try with_reducible rfl)
            try simp only [Act.put, List.setIfInBounds_toArray, List.set_cons_zero, List.set_cons_succ]
            refine wpAnyH_take (i := 2) (oi := Oper.mk (some 38) _ _ _ _ _) (v := ?v2q) rfl (by kernel_rfl) (by kernel_rfl) (by kernel_rfl) (fun _ _ _ h => h) (Or.inl ⟨by rfl, ?hy2q⟩) (by assumption) ?rest2q
            case hy2q => (intro w0 hSw; (try dsimp only at hSw); go_simp; try with_reducible rfl)
            try simp only [Act.put, List.setIfInBounds_toArray, List.set_cons_zero, List.set_cons_succ]
            refine wpAnyH_take (i := 3) (oi := Oper.mk (some 39) _ _ _ _ _) (v := ?v3q) rfl (by kernel_rfl) (by kernel_rfl) (by kernel_rfl) (fun _ _ _ h => h) (Or.inl ⟨by rfl, ?hy3q⟩) (by assumption) ?rest3q
            case hy3q => (intro w0 hSw; (try dsimp only at hSw); go_simp; try with_reducible rfl)
            try simp only [Act.put, List.setIfInBounds_toArray, List.set_cons_zero, List.set_cons_succ]
            refine wpAnyH_take (i := 5) (oi := Oper.mk (some 41) _ _ _ _ _) (v := ?v5q) rfl (by kernel_rfl) (by kernel_rfl) (by kernel_rfl) (fun _ _ _ h => h) (Or.inl ⟨by rfl, ?hy5q⟩) (by assumption) ?rest5q
            case hy5q => (intro w0 hSw; (try dsimp only at hSw); go_simp; try with_reducible rfl)
            try simp only [Act.put, List.setIfInBounds_toArray, List.set_cons_zero, List.set_cons_succ]
            refine wpAnyH_take (i := 6) (oi := Oper.mk (some 42) _ _ _ _ _) (v := ?v6q) rfl (by kernel_rfl) (by kernel_rfl) (by kernel_rfl) (fun _ _ _ h => h) (Or.inl ⟨by rfl, ?hy6q⟩) (by assumption) ?rest6q
            case hy6q => (intro w0 hSw; (try dsimp only at hSw); go_simp; try with_reducible rfl)
            try simp only [Act.put, List.setIfInBounds_toArray, List.set_cons_zero, List.set_cons_succ]
            refine wpAnyH_take (i := 7) (oi := Oper.mk (some 43) _ _ _ _ _) (v := ?v7q) rfl (by kernel_rfl) (by kernel_rfl) (by kernel_rfl) (fun _ _ _ h => h) (Or.inl ⟨by rfl, ?hy7q⟩) (by assumption) ?rest7q
            case hy7q => (intro w0 hSw; (try dsimp only at hSw); go_simp; try with_reducible rfl)
            try simp only [Act.put, List.setIfInBounds_toArray, List.set_cons_zero, List.set_cons_succ]
            refine wpAnyH_take (i := 8) (oi := Oper.mk (some 44) _ _ _ _ _) (v := ?v8q) rfl (by kernel_rfl) (by kernel_rfl) (by kernel_rfl) (fun _ _ _ h => h) (Or.inl ⟨by rfl, ?hy8q⟩) (by assumption) ?rest8q
            case hy8q => (intro w0 hSw; (try dsimp only at hSw); go_simp; try with_reducible rfl)
            try simp only [Act.put, List.setIfInBounds_toArray, List.set_cons_zero, List.set_cons_succ]
            refine wpAnyH_ready (rs := [0]) (by kernel_rfl) (by simp) ?_
            refine AllReadyH.cons (o := Oper.mk (some 36) _ _ _ _ _) rfl (fun K hK => ?_) AllReadyH.nil
            go_simp
            go_wp2_with fail
            obtain ⟨V1, HV1⟩ : ∃ V1, Hid (V1 = V0.alloc (.cells #[] 33)) := ⟨_, rfl⟩
            have KS1 : Kp V0 V1 := by rw [HV1.out]; exact (Step.refl _ _).alloc _
            have KV1 : Kp wr V1 := KV0.trans KS1
            have E1 : V1.heap[V0.heap.size]? = some (.cells #[] 33 (0, 0)) := by rw [HV1.out]; exact alloc_at _ _
            have hz1 := KS1.size
            rw [← HV1.out]
            clear HV1
            refine hK.out _ _ ?_ (fun hHeld => ?_)
            · exact trivial
            clear hK K
            try simp only [Act.put, List.setIfInBounds_toArray, List.set_cons_zero, List.set_cons_succ]
            refine wpAnyH_ready (rs := [4]) (by kernel_rfl) (by simp) ?_
            refine AllReadyH.cons (o := Oper.mk (some 40) _ _ _ _ _) rfl (fun K hK => ?_) AllReadyH.nil
            refine step_append_first V1 rfl _ _ 26 33 rfl Try.underlying26 hr_info wr.heap.size V0.heap.size rfl E1 (by omega) (some ⟨b, off, none⟩) k c2 (L.take k) rfl (HA1.out _ KV1) (by omega) ?_
            intro g1 cap1 V2 R2 hg2
            have KV2 : Kp wr V2 := kp_grown KV1 hg2 (by omega)
            have hb1 := row_base R2
            refine hK.out _ _ ?_ (fun hHeld => ?_)
            · exact trivial
            clear hK K
            try simp only [Act.put, List.setIfInBounds_toArray, List.set_cons_zero, List.set_cons_succ]
            refine wpAnyH_ready (rs := [9]) (by kernel_rfl) (by simp) ?_
            refine AllReadyH.cons (o := Oper.mk (some 45) _ _ _ _ _) rfl (fun K hK => ?_) AllReadyH.nil
            refine step_append_list V2 rfl _ _ 26 33 rfl Try.underlying26 hr_info wr.heap.size g1 k cap1 (L.take k) rfl R2 (some ⟨b, off + (k + 1) * 3, none⟩) (n - (k + 1)) (c2 - (k + 1)) (L.drop (k + 1)) rfl (HA2.out _ KV2) (by omega) KV2.size ?_
            intro g2 cap2 V3 R3 hg3
            have KV3 : Kp wr V3 := kp_grown KV2 hg3 hb1
            have HLF : Hid (Ls V3 33 base (.slice (some ⟨g2, 0, none⟩) (k + (n - (k + 1))) cap2) T) := by
              show Ls _ _ _ _ _
              rw [HD.out]
              refine ⟨row_low (base := wr.heap.size) ?_ (Nat.le_trans hb HKW.out.size), by rw [HCL.out]; omega⟩
              rw [HCL.out]
              exact R3
            have HKF : Hid (Kp w V3) := HKW.out.trans KV3
            have HOF : Hid (∀ q, (Value.slice (some ⟨g2, 0, none⟩) (k + (n - (k + 1))) cap2).ownBlock = some q → (Value.slice (some ⟨b, off, none⟩) n c2).ownBlock = some q ∨ w.heap.size ≤ q) := fun q e => .inr (Nat.le_trans HKW.out.size (R3.lt q e).1)
            clear R3 hg3 R2 hg2
            refine hK.out _ _ ?_ (fun hHeld => ?_)
            · exact trivial
            clear hK K
            try simp only [Act.put, List.setIfInBounds_toArray, List.set_cons_zero, List.set_cons_succ]
            refine wpAnyH_take (i := 10) (oi := Oper.mk (some 6) _ _ _ _ _) (v := ?v10q) rfl (by kernel_rfl) (by kernel_rfl) (by kernel_rfl) (fun _ _ _ h => h) (Or.inl ⟨by rfl, ?hy10q⟩) (by assumption) ?rest10q
            case hy10q => (intro w0 hSw; (try dsimp only at hSw); go_simp; try with_reducible rfl)
            try simp only [Act.put, List.setIfInBounds_toArray, List.set_cons_zero, List.set_cons_succ]
            refine wpAnyH_take (i := 11) (oi := Oper.mk (some 7) _ _ _ _ _) (v := ?v11q) rfl (by kernel_rfl) (by kernel_rfl) (by kernel_rfl) (fun _ _ _ h => h) (Or.inl ⟨by rfl, ?hy11q⟩) (by assumption) ?rest11q
            case hy11q => (intro w0 hSw; (try dsimp only at hSw); go_simp; try with_reducible rfl)
            try simp only [Act.put, List.setIfInBounds_toArray, List.set_cons_zero, List.set_cons_succ]
            refine wpAnyH_done (by kernel_rfl) ?_ _
            refine NoPanic.normal ?_
            go_wp2
            go_ret2
            exact ⟨_, by rw [HB.out]; rfl, HLF.out, HKF.out, HOF.out⟩
        · have HD := HQ2.out k hr hs
          have HB : Hid (res = false) := HD.1
          have LF : Hid (Ls wr 33 base (.slice (some ⟨b, off, none⟩) n c2) T) := by show Ls _ _ _ _ _; rw [HD.2]; exact HLS.out.kp hkp
          have hs' : ((atH L k).s != s) = true := by simpa using hs
          clear HD hr HQ1 HQ2 HQ3 hs
          generalize atH L k = x at *
          go_wp2
          go_ret2
          exact ⟨_, by rw [HB.out]; rfl, LF.out, HKW.out, fun _ q => .inl q⟩

end Go.Proofs.Ytlcbgkicooeklaa.LK
