/- The ceiling is the period of one that uses it, and no greater than another one's; one task more does not raise it. -/
import Derived.Test.YtgdjdhkehgjgfaaTskAns
import Derived.Test.YtgdjdhkehgjgfaaTskLst
import Derived.Deep.CutRange
namespace Go.Proofs.Ytgdjdhkehgjgfaa.TK
open Go.ChangeShapes Go.WideShapes Go.ChangeAt Go.RowKit Go.Proofs.Ytgdjdhkehgjgfaa.AR Go.Proofs.Ytgdjdhkehgjgfaa.TB

theorem tk_info : (Try.prog.info? 29).map (fun i => (i.zero, i.size, i.bytes)) = some (some (.agg #[.int .i64 0, .int .i64 0, .slice none 0 0, .slice none 0 0]), 4, 64) := by kernel_rfl

theorem row_base {w : World} {base : Nat} {e : TypeId} {size g n cap : Nat} {xs : List Value} (h : w.ownsRow base e size (.slice (some ⟨g, 0, none⟩) n cap) n xs) : base ≤ g := by
  rcases h.2 with ⟨q, _⟩ | ⟨g', cap', cur, e', hb, _⟩
  · cases q
  · cases e'
    exact hb

/-- the longer list, as the region leaves it -/
def MoreR (w1 V : World) (len : Nat) (L : List Tk) (t : Tk) (v : Value) : Prop := ∃ g cap, v = .slice (some ⟨g, 0, none⟩) (len + 1) cap ∧ Kp w1 V ∧ LAt V (some ⟨g, 0, none⟩) (len + 1) (L ++ [t])

/-- is there one that has it? -/
def HasP (L : List Tk) (s C : Int) (k : Nat) : Prop := C = 1099511627776 ∨ ∃ i t, i < k ∧ L[i]? = some t ∧ usB t s = true ∧ t.p = C

theorem HasP.mono {L : List Tk} {s C : Int} {k : Nat} (h : HasP L s C k) : HasP L s C (k + 1) := by
  rcases h with h | ⟨i, t, hi, r⟩
  · exact .inl h
  · exact .inr ⟨i, t, by omega, r⟩
theorem HasP.back {L : List Tk} {s C : Int} {k : Nat} {t : Tk} (hg : L[k]? = some t) (hn : ¬ (usB t s = true ∧ t.p = C)) (h : HasP L s C (k + 1)) : HasP L s C k := by
  rcases h with h | ⟨i, u, hi, hu, r⟩
  · exact .inl h
  · by_cases hik : i < k
    · exact .inr ⟨i, u, hik, hu, r⟩
    · obtain rfl : i = k := by omega
      rw [hg] at hu
      cases hu
      exact absurd r hn

set_option maxHeartbeats 16000000 in
theorem taskLeast_walk (ao : Option Addr) (len cap : Nat) (L : List Tk) (t : Tk) (s : Int) (w : World) (hl : LAt w ao len L) (hb : len * 64 ≤ 140737488351232) (h : TAt w t) (_ : (Lit.int .i64 s).wf = true) :
    Calls Try.prog 7 #[.slice ao len cap, t.v, .int .i64 s] w fun e w' => e = .returned (.bool true) ∧ Below w.heap.size w w' := by
  have HE : Hid (∀ w', Kp w w' → Below w.heap.size w w') := fun w' q => q
  obtain ⟨i0, hi, hz0, hz1, hz2⟩ := info_parts tk_info
  have HC : Hid (∀ W, Kp w W → Calls Try.prog 18 #[.slice ao len cap, .int .i64 s] W fun e w'' => e = .returned (.int .i64 (cel L s len)) ∧ Kp W w'') := fun W k => ceiling_any ao len cap L s W (hl.kept k)
  have HU : Hid (∀ W (u : Tk), TAt W u → Calls Try.prog 12 #[.agg #[.int .i64 u.p, .int .i64 u.c, .slice u.sa u.sl u.sc, .slice u.da u.dl u.dc], .int .i64 s] W fun e w'' => e = .returned (.bool (usB u s)) ∧ Kp W w'') := fun W u q => uses_any u s W q
  have HM : Hid (∀ W g cap', LAt W (some ⟨g, 0, none⟩) (len + 1) (L ++ [t]) → Calls Try.prog 18 #[.slice (some ⟨g, 0, none⟩) (len + 1) cap', .int .i64 s] W fun e w'' => e = .returned (.int .i64 (cel (L ++ [t]) s (len + 1))) ∧ Kp W w'') := fun W g cap' q => ceiling_any _ _ _ _ s W q
  have HO : Hid (cel (L ++ [t]) s (len + 1) ≤ cel L s len ∧ (cel (L ++ [t]) s (len + 1) = cel L s len ∨ usB t s = true ∧ cel (L ++ [t]) s (len + 1) = t.p)) := by
    have := cel_one (L := L) (t := t) (s := s)
    rw [hl.ln] at this
    exact this
  have HI : Hid (HasP L s (cel L s len) len) := cel_is
  have HLe : Hid (∀ i u, L[i]? = some u → usB u s = true → i < len → cel L s len ≤ u.p) := fun i u q1 q2 q3 => cel_le q1 q2 q3
  generalize cel L s len = C at *
  generalize cel (L ++ [t]) s (len + 1) = D at *
  obtain ⟨W0, HW⟩ : ∃ W0, Hid (W0 = w.alloc (.cells #[.int .i64 t.p, .int .i64 t.c, .slice t.sa t.sl t.sc, .slice t.da t.dl t.dc] 29)) := ⟨_, rfl⟩
  have K0 : Kp w W0 := by rw [HW.out]; exact (Kp.refl _).alloc _
  have X0 : TB4 W0 w.heap.size t := by rw [HW.out]; exact b4_new (Kp.refl _)
  have HT : Hid (TAt w t) := h
  have HL0 : Hid (LAt w ao len L) := hl
  clear h hl
  unfold Tk.v at *
  go_enter Try.func7, Try.ntmps7
  go_wp2_with fail
  rw [← HW.out]
  refine (HC.out _ K0).mono ?_
  rintro e w1 ⟨rfl, k1⟩
  have K1 := K0.trans k1
  have X := X0.kp k1
  clear HW X0 K0 k1 HC
  go_wp2_with fail
  go_loopw [8, 9] (fun b i wr => ∃ (k : Nat) (bv : Bool), k ≤ len ∧ i = .int .i64 k ∧ b = .bool bv ∧ Hid (bv = true ↔ HasP L s C k) ∧ Kp w1 wr) (fun _ i _ => len - (intOf i).toNat)
  case atStart =>
    refine ⟨0, _, Nat.zero_le _, rfl, rfl, ?_, Kp.refl _⟩
    show _ ↔ _
    constructor
    · intro q
      exact .inl (by simpa using q)
    · intro q
      rcases q with q | ⟨i, _, hi, _⟩
      · simpa using q
      · omega
  case round =>
    obtain ⟨k, bv, hk, rfl, rfl, HB, hkp⟩ := hrel
    by_cases hlt : k < len
    · have hlt' : (k : Int) < (len : Int) := by omega
      obtain ⟨b, off, u, rfl, hbb, hg, hu, c0, c1, c2, c3⟩ := (HL0.out.kept (K1.trans hkp)).one hlt
      cases hq : usB u s with
      | false =>
        have HN : Hid (bv = true ↔ HasP L s C (k + 1)) := ⟨fun q => (HB.out.1 q).mono, fun q => HB.out.2 (q.back hg (fun q' => by rw [hq] at q'; cases q'.1))⟩
        have HU1 := HU.out wr u hu
        rw [hq] at HU1
        clear hq HB hu HU
        go_wp2_with fail
        refine HU1.mono ?_
        rintro e w2 ⟨rfl, k2⟩
        go_wp2
        go_roundw
        case rel => exact ⟨k + 1, bv, by omega, by go_num, rfl, HN, hkp.trans k2⟩
        case measure => simp [intOf]; omega
      | true =>
        have hle := HLe.out k u hg hq hlt
        have hnl : ¬ u.p < C := by omega
        have HU1 := HU.out wr u hu
        rw [hq] at HU1
        have HBK : Hid (∀ W', Kp wr W' → W'.cell? ⟨b, off + k * 4, none⟩ = some (.int .i64 u.p)) := fun W' q => (q.cell (by exact hbb)).trans c0
        cases bv with
        | true =>
          have HN : Hid (HasP L s C (k + 1)) := (HB.out.1 rfl).mono
          clear hq HB hu HU
          go_wp2_with fail
          refine HU1.mono ?_
          rintro e w2 ⟨rfl, k2⟩
          have z0 := HBK.out _ k2
          go_wp2
          go_roundw
          case rel => exact ⟨k + 1, true, by omega, by go_num, rfl, ⟨fun _ => HN.out, fun _ => rfl⟩, hkp.trans k2⟩
          case measure => simp [intOf]; omega
        | false =>
          by_cases hp : u.p = C
          · have HN : Hid (HasP L s C (k + 1)) := .inr ⟨k, u, by omega, hg, hq, hp⟩
            have hpb : (u.p == C) = true := by simpa using hp
            clear hq HB hu HU hp
            go_wp2_with fail
            refine HU1.mono ?_
            rintro e w2 ⟨rfl, k2⟩
            have z0 := HBK.out _ k2
            go_wp2
            go_roundw
            case rel => exact ⟨k + 1, true, by omega, by go_num, rfl, ⟨fun _ => HN.out, fun _ => rfl⟩, hkp.trans k2⟩
            case measure => simp [intOf]; omega
          · have HN : Hid (false = true ↔ HasP L s C (k + 1)) := ⟨fun q => (HB.out.1 q).mono, fun q => HB.out.2 (q.back hg (fun q' => hp q'.2))⟩
            have hpb : (u.p == C) = false := by simpa using hp
            clear hq HB hu HU hp
            go_wp2_with fail
            refine HU1.mono ?_
            rintro e w2 ⟨rfl, k2⟩
            have z0 := HBK.out _ k2
            go_wp2
            go_roundw
            case rel => exact ⟨k + 1, false, by omega, by go_num, rfl, HN, hkp.trans k2⟩
            case measure => simp [intOf]; omega
    · have hlt' : ¬ (k : Int) < (len : Int) := by omega
      obtain rfl : k = len := by omega
      have hbt : bv = true := HB.out.2 HI.out
      subst hbt
      clear HB HI HLe hk hlt
      go_upto_region 10 with fail
      clear hlt'
      have K1' := K1.trans hkp
      replace X := X.kp hkp
      clear hkp K1
      generalize wr = w1 at *
      have HF : Hid (∀ V g c, Kp w1 V → V.ownsRow w1.heap.size 29 4 (.slice (some ⟨g, 0, none⟩) (k + 1) c) (k + 1) (flat4 (L ++ [t])) → MoreR w1 V k L t (.slice (some ⟨g, 0, none⟩) (k + 1) c)) := fun V g c q r => ⟨g, c, rfl, q, lat_of_row r (fun u hu => by
        rcases List.mem_append.1 hu with q' | q'
        · exact (HL0.out.each u q').kept (K1'.trans q)
        · simp only [List.mem_cons, List.not_mem_nil, or_false] at q'
          subst q'
          exact HT.out.kept (K1'.trans q)) (by omega)⟩
      have HL1 : Hid (LAt w1 ao k L) := HL0.out.kept K1'
      go_cut [10] from 47 to 52 (fun v wx => MoreR w1 wx k L t v)
      case first =>
        refine wp_region_noPanic ?_
        refine wp_region_held_drew (S := fun w' => w'.cell? ⟨w.heap.size, 0, none⟩ = some (.int .i64 t.p) ∧ w'.cell? ⟨w.heap.size, 1, none⟩ = some (.int .i64 t.c) ∧ w'.cell? ⟨w.heap.size, 2, none⟩ = some (.slice t.sa t.sl t.sc) ∧ w'.cell? ⟨w.heap.size, 3, none⟩ = some (.slice t.da t.dl t.dc)) (by kernel_rfl) ?_ (fun hHeld => ?_)
        · exact X.all
        obtain ⟨V0, HV0⟩ : ∃ V0, Hid (V0 = w1.drew) := ⟨_, rfl⟩
        have KW0 : Kp w1 V0 := by rw [HV0.out]; exact tkp_drew _
        rw [← HV0.out]
        clear HV0
        have hHeld0 := (X.kp KW0).all
        refine wpAnyH_take (i := 1) (oi := Oper.mk (some 48) _ _ _ _ _) (v := ?v1A) rfl (by kernel_rfl) (by kernel_rfl) (by kernel_rfl) (fun _ _ _ h => h) (Or.inl ⟨by rfl, ?hy1A⟩) (by assumption) ?rest1A
        case hy1A => (intro w0 hSw; (try dsimp only at hSw); go_simp; try with_reducible rfl)
        try simp only [Act.put, List.setIfInBounds_toArray, List.set_cons_zero, List.set_cons_succ]
        refine wpAnyH_take (i := 3) (oi := Oper.mk (some 50) _ _ _ _ _) (v := ?v3A) rfl (by kernel_rfl) (by kernel_rfl) (by kernel_rfl) (fun _ _ _ h => h) (Or.inl ⟨by rfl, ?hy3A⟩) (by assumption) ?rest3A
        case hy3A => (intro w0 hSw; (try dsimp only at hSw); go_simp; try with_reducible rfl)
        try simp only [Act.put, List.setIfInBounds_toArray, List.set_cons_zero, List.set_cons_succ]
        refine wpAnyH_ready (rs := [0, 4]) (by kernel_rfl) (by simp) ?_
        refine AllReadyH.cons (o := Oper.mk (some 47) _ _ _ _ _) rfl (fun K hK => ?_) (AllReadyH.cons (o := Oper.mk (some 51) _ _ _ _ _) rfl (fun K hK => ?_) AllReadyH.nil)
        · go_simp
          go_wp2_with fail
          obtain ⟨V1, HV1⟩ : ∃ V1, Hid (V1 = V0.alloc (.cells #[] 29)) := ⟨_, rfl⟩
          have KV1 : Kp V0 V1 := by rw [HV1.out]; exact (Kp.refl _).alloc _
          have KW1 : Kp w1 V1 := KW0.trans KV1
          have B0_1 : V1.heap[V0.heap.size]? = some (.cells #[] 29 (0, 0)) := by rw [HV1.out]; exact heap_alloc_at _ _
          have hz : w1.heap.size ≤ V0.heap.size := KW0.size
          have R1 : V1.ownsRow w1.heap.size 29 4 (.slice (some ⟨V0.heap.size, 0, none⟩) 0 0) 0 [] := ownsRow_none _ hz B0_1
          rw [← HV1.out]
          clear HV1
          refine hK.out _ _ ?_ (fun hHeld => ?_)
          · exact (X.kp KW1).all
          clear hK K
          try simp only [Act.put, List.setIfInBounds_toArray, List.set_cons_zero, List.set_cons_succ]
          refine wpAnyH_ready (rs := [2, 4]) (by kernel_rfl) (by simp) ?_
          refine AllReadyH.cons (o := Oper.mk (some 49) _ _ _ _ _) rfl (fun K hK => ?_) (AllReadyH.cons (o := Oper.mk (some 51) _ _ _ _ _) rfl (fun K hK => ?_) AllReadyH.nil)
          · refine step_append_any V1 rfl _ _ 39 rfl w1.heap.size 29 i0 _ 4 64 Try.underlying39 hi hz0 hz1 hz2 (by rfl) (by decide) V0.heap.size 0 0 [] rfl R1 ao k cap (flat4 L) rfl (by rw [flat4_len, HL1.out.ln]) (fun q => by subst q; exact HL1.out.nil) (HL1.out.kept KW1).flat flat4_one (by unfold maxLen; omega) (by omega) KW1.size ?_
            intro g1 cap1 V2 R2 hgr2
            simp only [Nat.zero_add, List.nil_append] at R2 ⊢
            have KW2 : Kp w1 V2 := kp_grown KW1 hgr2 hz
            refine hK.out _ _ ?_ (fun hHeld => ?_)
            · exact (X.kp KW2).all
            clear hK K
            try simp only [Act.put, List.setIfInBounds_toArray, List.set_cons_zero, List.set_cons_succ]
            refine wpAnyH_ready (rs := [4]) (by kernel_rfl) (by simp) ?_
            refine AllReadyH.cons (o := Oper.mk (some 51) _ _ _ _ _) rfl (fun K hK => ?_) AllReadyH.nil
            go_simp
            go_wp2_with fail
            obtain ⟨V3, HV3⟩ : ∃ V3, Hid (V3 = V2.alloc (.cells #[.int .i64 t.p, .int .i64 t.c, .slice t.sa t.sl t.sc, .slice t.da t.dl t.dc] 29)) := ⟨_, rfl⟩
            have KV3 : Kp V2 V3 := by rw [HV3.out]; exact (Kp.refl _).alloc _
            have KW3 : Kp w1 V3 := KW2.trans KV3
            have B4_3 : V3.heap[V2.heap.size]? = some (.cells #[.int .i64 t.p, .int .i64 t.c, .slice t.sa t.sl t.sc, .slice t.da t.dl t.dc] 29 (0, 0)) := by rw [HV3.out]; exact heap_alloc_at _ _
            have R3 := ownsRow_kp R2 KV3
            rw [← HV3.out]
            clear HV3
            refine hK.out _ _ ?_ (fun hHeld => ?_)
            · exact (X.kp KW3).all
            clear hK K
            try simp only [Act.put, List.setIfInBounds_toArray, List.set_cons_zero, List.set_cons_succ]
            refine wpAnyH_ready (rs := [5]) (by kernel_rfl) (by simp) ?_
            refine AllReadyH.cons (o := Oper.mk (some 52) _ _ _ _ _) rfl (fun K hK => ?_) AllReadyH.nil
            have hg1 : w1.heap.size ≤ g1 := row_base R3
            refine step_append_any V3 rfl _ _ 39 rfl w1.heap.size 29 i0 _ 4 64 Try.underlying39 hi hz0 hz1 hz2 (by rfl) (by decide) g1 k cap1 (flat4 L) rfl R3 (some ⟨V2.heap.size, 0, none⟩) 1 1 (flat4 [t]) rfl (by rw [flat4_len]; rfl) (fun q => by cases q) (fun ad q j u hj => by cases q; exact World.news_of_block B4_3 j u hj) flat4_one (by unfold maxLen; omega) (by omega) KW3.size ?_
            intro g2 cap2 V4 R4 hgr4
            rw [← flat4_append] at R4
            have KW4 : Kp w1 V4 := kp_grown KW3 hgr4 hg1
            refine hK.out _ _ ?_ (fun hHeld => ?_)
            · exact (X.kp KW4).all
            clear hK K
            try simp only [Act.put, List.setIfInBounds_toArray, List.set_cons_zero, List.set_cons_succ]
            refine wpAnyH_take (i := 6) (oi := Oper.mk (some 10) _ _ _ _ _) (v := ?v6F024) rfl (by kernel_rfl) (by kernel_rfl) (by kernel_rfl) (fun _ _ _ h => h) (Or.inl ⟨by rfl, ?hy6F024⟩) (by assumption) ?rest6F024
            case hy6F024 => (intro w0 hSw; (try dsimp only at hSw); go_simp; try with_reducible rfl)
            try simp only [Act.put, List.setIfInBounds_toArray, List.set_cons_zero, List.set_cons_succ]
            refine wpAnyH_done (by kernel_rfl) ?_ _
            refine NoPanic.normal ?_
            go_wp2_with fail
            go_meet
            exact HF.out _ _ _ KW4 R4
          · go_simp
            go_wp2_with fail
            obtain ⟨V2, HV2⟩ : ∃ V2, Hid (V2 = V1.alloc (.cells #[.int .i64 t.p, .int .i64 t.c, .slice t.sa t.sl t.sc, .slice t.da t.dl t.dc] 29)) := ⟨_, rfl⟩
            have KV2 : Kp V1 V2 := by rw [HV2.out]; exact (Kp.refl _).alloc _
            have KW2 : Kp w1 V2 := KW1.trans KV2
            have B4_2 : V2.heap[V1.heap.size]? = some (.cells #[.int .i64 t.p, .int .i64 t.c, .slice t.sa t.sl t.sc, .slice t.da t.dl t.dc] 29 (0, 0)) := by rw [HV2.out]; exact heap_alloc_at _ _
            have R2 := ownsRow_kp R1 KV2
            have hne : V1.heap.size ≠ V0.heap.size := Nat.ne_of_gt (Nat.lt_of_lt_of_le (lt_blk B0_1) (Nat.le_refl _))
            rw [← HV2.out]
            clear HV2
            refine hK.out _ _ ?_ (fun hHeld => ?_)
            · exact (X.kp KW2).all
            clear hK K
            try simp only [Act.put, List.setIfInBounds_toArray, List.set_cons_zero, List.set_cons_succ]
            refine wpAnyH_ready (rs := [2]) (by kernel_rfl) (by simp) ?_
            refine AllReadyH.cons (o := Oper.mk (some 49) _ _ _ _ _) rfl (fun K hK => ?_) AllReadyH.nil
            refine step_append_any V2 rfl _ _ 39 rfl w1.heap.size 29 i0 _ 4 64 Try.underlying39 hi hz0 hz1 hz2 (by rfl) (by decide) V0.heap.size 0 0 [] rfl R2 ao k cap (flat4 L) rfl (by rw [flat4_len, HL1.out.ln]) (fun q => by subst q; exact HL1.out.nil) (HL1.out.kept KW2).flat flat4_one (by unfold maxLen; omega) (by omega) KW2.size ?_
            intro g1 cap1 V3 R3 hgr3
            simp only [Nat.zero_add, List.nil_append] at R3 ⊢
            have KW3 : Kp w1 V3 := kp_grown KW2 hgr3 hz
            have B4_3 := grown_block hgr3 B4_2 hne
            refine hK.out _ _ ?_ (fun hHeld => ?_)
            · exact (X.kp KW3).all
            clear hK K
            try simp only [Act.put, List.setIfInBounds_toArray, List.set_cons_zero, List.set_cons_succ]
            refine wpAnyH_ready (rs := [5]) (by kernel_rfl) (by simp) ?_
            refine AllReadyH.cons (o := Oper.mk (some 52) _ _ _ _ _) rfl (fun K hK => ?_) AllReadyH.nil
            have hg1 : w1.heap.size ≤ g1 := row_base R3
            refine step_append_any V3 rfl _ _ 39 rfl w1.heap.size 29 i0 _ 4 64 Try.underlying39 hi hz0 hz1 hz2 (by rfl) (by decide) g1 k cap1 (flat4 L) rfl R3 (some ⟨V1.heap.size, 0, none⟩) 1 1 (flat4 [t]) rfl (by rw [flat4_len]; rfl) (fun q => by cases q) (fun ad q j u hj => by cases q; exact World.news_of_block B4_3 j u hj) flat4_one (by unfold maxLen; omega) (by omega) KW3.size ?_
            intro g2 cap2 V4 R4 hgr4
            rw [← flat4_append] at R4
            have KW4 : Kp w1 V4 := kp_grown KW3 hgr4 hg1
            refine hK.out _ _ ?_ (fun hHeld => ?_)
            · exact (X.kp KW4).all
            clear hK K
            try simp only [Act.put, List.setIfInBounds_toArray, List.set_cons_zero, List.set_cons_succ]
            refine wpAnyH_take (i := 6) (oi := Oper.mk (some 10) _ _ _ _ _) (v := ?v6F042) rfl (by kernel_rfl) (by kernel_rfl) (by kernel_rfl) (fun _ _ _ h => h) (Or.inl ⟨by rfl, ?hy6F042⟩) (by assumption) ?rest6F042
            case hy6F042 => (intro w0 hSw; (try dsimp only at hSw); go_simp; try with_reducible rfl)
            try simp only [Act.put, List.setIfInBounds_toArray, List.set_cons_zero, List.set_cons_succ]
            refine wpAnyH_done (by kernel_rfl) ?_ _
            refine NoPanic.normal ?_
            go_wp2_with fail
            go_meet
            exact HF.out _ _ _ KW4 R4
        · go_simp
          go_wp2_with fail
          obtain ⟨V1, HV1⟩ : ∃ V1, Hid (V1 = V0.alloc (.cells #[.int .i64 t.p, .int .i64 t.c, .slice t.sa t.sl t.sc, .slice t.da t.dl t.dc] 29)) := ⟨_, rfl⟩
          have KV1 : Kp V0 V1 := by rw [HV1.out]; exact (Kp.refl _).alloc _
          have KW1 : Kp w1 V1 := KW0.trans KV1
          have B4_1 : V1.heap[V0.heap.size]? = some (.cells #[.int .i64 t.p, .int .i64 t.c, .slice t.sa t.sl t.sc, .slice t.da t.dl t.dc] 29 (0, 0)) := by rw [HV1.out]; exact heap_alloc_at _ _
          rw [← HV1.out]
          clear HV1
          refine hK.out _ _ ?_ (fun hHeld => ?_)
          · exact (X.kp KW1).all
          clear hK K
          try simp only [Act.put, List.setIfInBounds_toArray, List.set_cons_zero, List.set_cons_succ]
          refine wpAnyH_ready (rs := [0]) (by kernel_rfl) (by simp) ?_
          refine AllReadyH.cons (o := Oper.mk (some 47) _ _ _ _ _) rfl (fun K hK => ?_) AllReadyH.nil
          go_simp
          go_wp2_with fail
          obtain ⟨V2, HV2⟩ : ∃ V2, Hid (V2 = V1.alloc (.cells #[] 29)) := ⟨_, rfl⟩
          have KV2 : Kp V1 V2 := by rw [HV2.out]; exact (Kp.refl _).alloc _
          have KW2 : Kp w1 V2 := KW1.trans KV2
          have B0_2 : V2.heap[V1.heap.size]? = some (.cells #[] 29 (0, 0)) := by rw [HV2.out]; exact heap_alloc_at _ _
          have hz : w1.heap.size ≤ V1.heap.size := KW1.size
          have R2 : V2.ownsRow w1.heap.size 29 4 (.slice (some ⟨V1.heap.size, 0, none⟩) 0 0) 0 [] := ownsRow_none _ hz B0_2
          have B4_2 := kp_block B4_1 KV2
          have hne : V0.heap.size ≠ V1.heap.size := Nat.ne_of_lt (lt_blk B4_1)
          rw [← HV2.out]
          clear HV2
          refine hK.out _ _ ?_ (fun hHeld => ?_)
          · exact (X.kp KW2).all
          clear hK K
          try simp only [Act.put, List.setIfInBounds_toArray, List.set_cons_zero, List.set_cons_succ]
          refine wpAnyH_ready (rs := [2]) (by kernel_rfl) (by simp) ?_
          refine AllReadyH.cons (o := Oper.mk (some 49) _ _ _ _ _) rfl (fun K hK => ?_) AllReadyH.nil
          refine step_append_any V2 rfl _ _ 39 rfl w1.heap.size 29 i0 _ 4 64 Try.underlying39 hi hz0 hz1 hz2 (by rfl) (by decide) V1.heap.size 0 0 [] rfl R2 ao k cap (flat4 L) rfl (by rw [flat4_len, HL1.out.ln]) (fun q => by subst q; exact HL1.out.nil) (HL1.out.kept KW2).flat flat4_one (by unfold maxLen; omega) (by omega) KW2.size ?_
          intro g1 cap1 V3 R3 hgr3
          simp only [Nat.zero_add, List.nil_append] at R3 ⊢
          have KW3 : Kp w1 V3 := kp_grown KW2 hgr3 hz
          have B4_3 := grown_block hgr3 B4_2 hne
          refine hK.out _ _ ?_ (fun hHeld => ?_)
          · exact (X.kp KW3).all
          clear hK K
          try simp only [Act.put, List.setIfInBounds_toArray, List.set_cons_zero, List.set_cons_succ]
          refine wpAnyH_ready (rs := [5]) (by kernel_rfl) (by simp) ?_
          refine AllReadyH.cons (o := Oper.mk (some 52) _ _ _ _ _) rfl (fun K hK => ?_) AllReadyH.nil
          have hg1 : w1.heap.size ≤ g1 := row_base R3
          refine step_append_any V3 rfl _ _ 39 rfl w1.heap.size 29 i0 _ 4 64 Try.underlying39 hi hz0 hz1 hz2 (by rfl) (by decide) g1 k cap1 (flat4 L) rfl R3 (some ⟨V0.heap.size, 0, none⟩) 1 1 (flat4 [t]) rfl (by rw [flat4_len]; rfl) (fun q => by cases q) (fun ad q j u hj => by cases q; exact World.news_of_block B4_3 j u hj) flat4_one (by unfold maxLen; omega) (by omega) KW3.size ?_
          intro g2 cap2 V4 R4 hgr4
          rw [← flat4_append] at R4
          have KW4 : Kp w1 V4 := kp_grown KW3 hgr4 hg1
          refine hK.out _ _ ?_ (fun hHeld => ?_)
          · exact (X.kp KW4).all
          clear hK K
          try simp only [Act.put, List.setIfInBounds_toArray, List.set_cons_zero, List.set_cons_succ]
          refine wpAnyH_take (i := 6) (oi := Oper.mk (some 10) _ _ _ _ _) (v := ?v6F402) rfl (by kernel_rfl) (by kernel_rfl) (by kernel_rfl) (fun _ _ _ h => h) (Or.inl ⟨by rfl, ?hy6F402⟩) (by assumption) ?rest6F402
          case hy6F402 => (intro w0 hSw; (try dsimp only at hSw); go_simp; try with_reducible rfl)
          try simp only [Act.put, List.setIfInBounds_toArray, List.set_cons_zero, List.set_cons_succ]
          refine wpAnyH_done (by kernel_rfl) ?_ _
          refine NoPanic.normal ?_
          go_wp2_with fail
          go_meet
          exact HF.out _ _ _ KW4 R4
      case rest =>
        obtain ⟨g, cc, rfl, kq, hM⟩ := hcut
        have HUt : Hid (∀ W, Kp w1 W → Calls Try.prog 12 #[.agg #[.int .i64 t.p, .int .i64 t.c, .slice t.sa t.sl t.sc, .slice t.da t.dl t.dc], .int .i64 s] W fun e w'' => e = .returned (.bool (usB t s)) ∧ Kp W w'') := fun W q => HU.out W t (HT.out.kept (K1'.trans q))
        have HXX : Hid (∀ W, Kp w1 W → TB4 W w.heap.size t) := fun W q => X.kp q
        clear HU HL0 HL1 HT HF X
        go_wp2_with fail
        refine (HM.out _ _ _ hM).mono ?_
        rintro e w2 ⟨rfl, k2⟩
        have KQ := kq.trans k2
        clear kq k2 hM HM
        go_wp2_with fail
        refine (tanswers_any _).mono ?_
        rintro e w3 ⟨rfl, k3⟩
        have KR := KQ.trans k3
        clear KQ k3
        obtain ⟨x0, x1, x2, x3⟩ := (HXX.out _ KR).all
        have hle : D ≤ C := HO.out.1
        by_cases hdc : D = C
        · have hb1 : (D == C) = true := by simpa using hdc
          clear hdc HO
          go_wp2
          go_ret
          exact ⟨rfl, HE.out _ (K1'.trans KR)⟩
        · have hb1 : (D == C) = false := by simpa using hdc
          have HUS : usB t s = true := (HO.out.2.resolve_left hdc).1
          have hdp : D = t.p := (HO.out.2.resolve_left hdc).2
          have hb2 : (D == t.p) = true := by simpa using hdp
          rw [HUS] at HUt
          clear hdc HO hdp HUS
          go_wp2_with fail
          refine (HUt.out _ KR).mono ?_
          rintro e w4 ⟨rfl, k4⟩
          have KS := KR.trans k4
          clear KR k4 x0 x1 x2 x3
          obtain ⟨x0, x1, x2, x3⟩ := (HXX.out _ KS).all
          go_wp2
          go_ret
          exact ⟨rfl, HE.out _ (K1'.trans KS)⟩

end Go.Proofs.Ytgdjdhkehgjgfaa.TK
