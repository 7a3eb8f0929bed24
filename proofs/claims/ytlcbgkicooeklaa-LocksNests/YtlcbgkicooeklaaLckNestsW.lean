/- Semaphores that a task took one behind the other are given in the other order, whatever other tasks took between; in no other one. -/
import Derived.Test.YtlcbgkicooeklaaLckNestM
namespace Go.Proofs.Ytlcbgkicooeklaa.LK
open Go.ChangeShapes Go.WideShapes Go.ChangeAt Go.RowKit Go.Proofs.Ytlcbgkicooeklaa.AR

theorem byte_in {n : Int} (h : (Lit.int .u8 n).wf = true) : 0 ≤ n ∧ n ≤ 255 := by
  simp [Lit.wf, IntKind.min, IntKind.max, IntKind.signed, IntKind.bits] at h
  omega

/-- under way: taking -/
def Ta (w wr : World) (v : Value) : Prop := ∃ A L zs, Ns w wr w.heap.size A L v zs ∧ NodS L ∧ Rng L ∧ mn L = zs
/-- under way: giving -/
def Gi (w wr : World) (v : Value) (zs : List Int) (j : Nat) : Prop := ∃ A L, Ns w wr w.heap.size A L v zs ∧ mn L = zs.take j

theorem take_last {zs : List Int} {q : Nat} (h : q < zs.length) : zs.take (q + 1) = zs.take q ++ [zs.getD q 0] := by
  rw [List.take_succ_eq_append_getElem h]
  simp [List.getD_eq_getElem?_getD, List.getElem?_eq_getElem h]

set_option maxRecDepth 100000 in
set_option maxHeartbeats 16000000 in
theorem locksNests_walk (oo : Option Addr) (n1 c1 : Nat) (xs : List Int) (po : Option Addr) (n2 c2 : Nat) (ys : List Int) (first : Int) (w : World) (h1 : KIntsAt .u8 w oo n1 xs) (h2 : KIntsAt .u8 w po n2 ys) (_ : (Lit.int .i64 first).wf = true) :
    Calls Try.prog 4 #[.slice oo n1 c1, .slice po n2 c2, .int .i64 first] w fun e w' => e = .returned (.bool true) ∧ Below w.heap.size w w' := by
  have HE : Hid (∀ w', Kp w w' → Below w.heap.size w w') := fun w' q => Kp.below q
  have HO : Hid (KIntsAt .u8 w oo n1 xs) := h1
  have HP : Hid (KIntsAt .u8 w po n2 ys) := h2
  have hn1 := h1.by'
  have hn2 := h2.by'
  clear h1 h2
  go_enter Try.func4, Try.ntmps4
  go_wp2_with fail
  refine (new_any _).mono ?_
  rintro e w1 ⟨rfl, r1, k1⟩
  have P1 : Hid (Ta w w1 (.slice none 0 0)) := ⟨_, [], [], ⟨lkOf_new r1 k1, nu_nil _ _, fun k hk => by simp [Value.ownBlock] at hk⟩, nodS_nil, rng_nil, rfl⟩
  clear r1 k1
  go_wp2
  go_loopw [8, 9] (fun v i wr => ∃ k : Nat, (k ≤ n1 ∨ k ≤ n2) ∧ i = .int .i64 k ∧ Hid (Ta w wr v)) (fun _ i _ => (max n1 n2) - (intOf i).toNat)
  case atStart => exact ⟨0, .inl (Nat.zero_le _), rfl, P1⟩
  case round =>
    obtain ⟨k, hk, rfl, G⟩ := hrel
    obtain ⟨A, L, zs, N0, hns, hrg, hmn⟩ := G.out
    have hfew := few hns hrg
    have hfz : zs.length ≤ 256 := by rw [← hmn]; have := mn_len L; omega
    have HMN : Hid (mn L = zs) := hmn
    have HNS : Hid (NodS L) := hns
    have HRG : Hid (Rng L) := hrg
    clear hmn hns hrg G
    by_cases hlt1 : k < n1
    · have hlt1' : (k : Int) < (n1 : Int) := by omega
      have hlt1'' : decide ((k : Int) < (n1 : Int)) = true := decide_eq_true hlt1'
      obtain ⟨b1, off1, rfl, hb1, cx, wx⟩ := (HO.out.kept (Kp.tb N0.x.kp)).one hlt1
      have HCX : Hid (∀ W, Kp w W → b1 < W.heap.size ∧ W.cell? ⟨b1, off1 + k, none⟩ = some (.int .u8 (xs.getD k 0))) := fun W q => by
        obtain ⟨b', off', e', hb', c', _⟩ := (HO.out.kept (Kp.tb q)).one hlt1
        cases e'
        exact ⟨hb', c'⟩
      obtain ⟨z0, z1⟩ := byte_in wx
      generalize xs.getD k 0 = z at *
      have vz1 : IntKind.i64.wrap z = z := by rw [IntKind.wrap_i64]; omega
      have vz2 : wrap64 z = z := by unfold wrap64; omega
      clear wx
      cases hh : heldB L z with
      | true =>
        have HQ : Hid (codeI (!heldB L z) = 10) := by show _ = _; rw [hh]; rfl
        have HT : Hid (takeL L ⟨1, z, 5⟩ = L) := takeL_held (h := ⟨1, z, 5⟩) hh
        clear hh
        go_wp2_with fail
        refine (take_any _ A L 1 z 5 _ N0.x.rep (by omega)).mono ?_
        rintro e w2 ⟨rfl, q2⟩
        rw [HT.out] at q2
        rw [HQ.out]
        obtain ⟨A2, N2⟩ := N0.went q2
        clear q2 N0 HQ HT cx
        by_cases hlt2 : k < n2
        · have hlt2' : (k : Int) < (n2 : Int) := by omega
          have hlt2'' : decide ((k : Int) < (n2 : Int)) = true := decide_eq_true hlt2'
          obtain ⟨b2, off2, rfl, hb2, cy, wy⟩ := (HP.out.kept (Kp.tb N2.x.kp)).one hlt2
          obtain ⟨y0, y1⟩ := byte_in wy
          generalize ys.getD k 0 = y at *
          have vy1 : IntKind.i64.wrap y = y := by rw [IntKind.wrap_i64]; omega
          have vy2 : wrap64 y = y := by unfold wrap64; omega
          clear wy
          go_wp2_with fail
          refine (take_any _ _ (L) 2 y 5 _ N2.x.rep (by have := hfew; omega)).mono ?_
          rintro e w8 ⟨rfl, q8⟩
          obtain ⟨A8, N8⟩ := N2.went q8
          have P8 : Hid (Ta w w8 (u8)) := ⟨A8, _, zs, N8, nodS_take HNS.out, rng_take HRG.out ⟨y0, y1⟩, by rw [mn_two]; exact HMN.out⟩
          clear q8 N8 cy
          go_wp2
          go_roundw
          case rel => exact ⟨k + 1, by omega, by go_num, P8⟩
          case measure => simp [intOf]; omega
        · have hlt2' : ¬ (k : Int) < (n2 : Int) := by omega
          have hlt2'' : decide ((k : Int) < (n2 : Int)) = false := decide_eq_false hlt2'
          have P8 : Hid (Ta w _ (u8)) := ⟨_, _, zs, N2, HNS.out, HRG.out, HMN.out⟩
          clear N2
          go_wp2
          go_roundw
          case rel => exact ⟨k + 1, by omega, by go_num, P8⟩
          case measure => simp [intOf]; omega
      | false =>
        have HQ : Hid (codeI (!heldB L z) = 0) := by show _ = _; rw [hh]; rfl
        have HNS2 : Hid (NodS (takeL L ⟨1, z, 5⟩)) := nodS_take HNS.out
        have HRG2 : Hid (Rng (takeL L ⟨1, z, 5⟩)) := rng_take HRG.out ⟨z0, z1⟩
        have HMN2 : Hid (mn (takeL L ⟨1, z, 5⟩) = zs ++ [z]) := by show _ = _; rw [mn_one hh, HMN.out]
        have hfew2 := few HNS2.out HRG2.out
        clear hh
        go_wp2_with fail
        refine (take_any _ A L 1 z 5 _ N0.x.rep (by omega)).mono ?_
        rintro e w2 ⟨rfl, q2⟩
        rw [HQ.out]
        obtain ⟨A2, N2⟩ := N0.went q2
        obtain ⟨hbx, cx2⟩ := HCX.out _ N2.x.kp
        generalize takeL L ⟨1, z, 5⟩ = L2 at *
        clear q2 N0 HQ cx
        have hsz := N2.x.kp.size
        by_cases hlt2 : k < n2
        · have hlt2' : (k : Int) < (n2 : Int) := by omega
          have hlt2'' : decide ((k : Int) < (n2 : Int)) = true := decide_eq_true hlt2'
          obtain ⟨b2, off2, rfl, hb2, cy, wy⟩ := (HP.out.kept (Kp.tb N2.x.kp)).one hlt2
          have HCY : Hid (∀ W, Kp w W → b2 < W.heap.size ∧ W.cell? ⟨b2, off2 + k, none⟩ = some (.int .u8 (ys.getD k 0))) := fun W q => by
            obtain ⟨b', off', e', hb', c', _⟩ := (HP.out.kept (Kp.tb q)).one hlt2
            cases e'
            exact ⟨hb', c'⟩
          obtain ⟨y0, y1⟩ := byte_in wy
          generalize ys.getD k 0 = y at *
          have vy1 : IntKind.i64.wrap y = y := by rw [IntKind.wrap_i64]; omega
          have vy2 : wrap64 y = y := by unfold wrap64; omega
          clear wy cy
          go_wp2_with (first
            | (at_builtin; refine wpList_append_num _ rfl _ _ 50 3 rfl Try.underlying50 num_info w.heap.size u8 zs rfl (by exact row_kept ((Step.refl (fun _ => False) _).alloc _) N2.l.row (fun _ _ q => q)) w2.heap.size z rfl (by exact alloc_at w2 _) (by omega) (by simp; omega) ?_; intro v3 w3 R3 hg3 hl3; have N3 : Ns w w3 w.heap.size A2 L2 v3 (zs ++ [z]) := N2.more (o := .cells #[.int .i64 z] 3) R3 hg3 hl3; obtain ⟨hby, cy3⟩ := HCY.out _ N3.x.kp)
            | fail)
          refine (take_any _ _ L2 2 y 5 _ N3.x.rep (by omega)).mono ?_
          rintro e w8 ⟨rfl, q8⟩
          obtain ⟨A8, N8⟩ := N3.went q8
          have P8 : Hid (Ta w w8 v3) := ⟨A8, _, zs ++ [z], N8, nodS_take HNS2.out, rng_take HRG2.out ⟨y0, y1⟩, by rw [mn_two]; exact HMN2.out⟩
          clear q8 N8 R3 hg3 hl3 N3 N2
          go_wp2
          go_roundw
          case rel => exact ⟨k + 1, by omega, by go_num, P8⟩
          case measure => simp [intOf]; omega
        · have hlt2' : ¬ (k : Int) < (n2 : Int) := by omega
          have hlt2'' : decide ((k : Int) < (n2 : Int)) = false := decide_eq_false hlt2'
          go_wp2_with (first
            | (at_builtin; refine wpList_append_num _ rfl _ _ 50 3 rfl Try.underlying50 num_info w.heap.size u8 zs rfl (by exact row_kept ((Step.refl (fun _ => False) _).alloc _) N2.l.row (fun _ _ q => q)) w2.heap.size z rfl (by exact alloc_at w2 _) (by omega) (by simp; omega) ?_; intro v3 w3 R3 hg3 hl3; have N3 : Ns w w3 w.heap.size A2 L2 v3 (zs ++ [z]) := N2.more (o := .cells #[.int .i64 z] 3) R3 hg3 hl3)
            | fail)
          have P8 : Hid (Ta w w3 v3) := ⟨_, _, zs ++ [z], N3, HNS2.out, HRG2.out, HMN2.out⟩
          exact ⟨⟨k + 1, by omega, by go_num, P8⟩, by simp [intOf]; omega⟩
    · have hlt1' : ¬ (k : Int) < (n1 : Int) := by omega
      have hlt1'' : decide ((k : Int) < (n1 : Int)) = false := decide_eq_false hlt1'
      by_cases hlt2 : k < n2
      · have hlt2' : (k : Int) < (n2 : Int) := by omega
        have hlt2'' : decide ((k : Int) < (n2 : Int)) = true := decide_eq_true hlt2'
        obtain ⟨b2, off2, rfl, hb2, cy, wy⟩ := (HP.out.kept (Kp.tb N0.x.kp)).one hlt2
        obtain ⟨y0, y1⟩ := byte_in wy
        generalize ys.getD k 0 = y at *
        have vy1 : IntKind.i64.wrap y = y := by rw [IntKind.wrap_i64]; omega
        have vy2 : wrap64 y = y := by unfold wrap64; omega
        clear wy
        go_wp2_with fail
        refine (take_any _ _ (L) 2 y 5 _ N0.x.rep (by have := hfew; omega)).mono ?_
        rintro e w8 ⟨rfl, q8⟩
        obtain ⟨A8, N8⟩ := N0.went q8
        have P8 : Hid (Ta w w8 (u8)) := ⟨A8, _, zs, N8, nodS_take HNS.out, rng_take HRG.out ⟨y0, y1⟩, by rw [mn_two]; exact HMN.out⟩
        clear q8 N8 cy
        go_wp2
        go_roundw
        case rel => exact ⟨k + 1, by omega, by go_num, P8⟩
        case measure => simp [intOf]; omega
      · have hlt2' : ¬ (k : Int) < (n2 : Int) := by omega
        have hlt2'' : decide ((k : Int) < (n2 : Int)) = false := decide_eq_false hlt2'
        obtain ⟨mo, mcap, hv⟩ := N0.l.form
        subst hv
        obtain ⟨m, hm⟩ : ∃ m, zs.length = m := ⟨_, rfl⟩
        have HZ : Hid (zs.length = m) := hm
        rw [hm] at N0 hfz ⊢
        have w1 : wrap64 ((m : Int) - 1) = (m : Int) - 1 := by unfold wrap64; omega
        have w2 : IntKind.i64.wrap ((m : Int) - 1) = (m : Int) - 1 := by rw [IntKind.wrap_i64]; omega
        have HGW : Hid (∀ W, (∃ A, Ns w W w.heap.size A L (.slice mo m mcap) zs) → Gi w W (.slice mo m mcap) zs m) := fun W ⟨A, q⟩ => ⟨A, L, q, by rw [HMN.out, List.take_of_length_le (by rw [HZ.out]; exact Nat.le_refl _)]⟩
        clear hm HNS HRG hfew
        by_cases hp : 0 < m
        · have hp' : (0 : Int) < (m : Int) := by omega
          have hp'' : decide ((0 : Int) < (m : Int)) = true := decide_eq_true hp'
          obtain ⟨q, rfl⟩ : ∃ q, m = q + 1 := ⟨m - 1, by omega⟩
          have eq1 : ((q + 1 : Nat) : Int) - 1 = (q : Int) := by omega
          have eq2 : (q : Int) + 1 - 1 = (q : Int) := by omega
          have hq0 : (0 : Int) ≤ (q : Int) := by omega
          have hq1 : (q : Int) < (q : Int) + 1 := by omega
          have hql : q < zs.length := by rw [HZ.out]; omega
          have w3 : wrap64 (q : Int) = (q : Int) := by unfold wrap64; omega
          have w4 : IntKind.i64.wrap (q : Int) = (q : Int) := by rw [IntKind.wrap_i64]; omega
          obtain ⟨g, rfl, hg0, cq⟩ := N0.l.one hql
          have HML : Hid (mn L = zs.take q ++ [zs.getD q 0]) := by show _ = _; rw [← take_last hql, HMN.out, List.take_of_length_le (by rw [HZ.out]; exact Nat.le_refl _)]
          by_cases hf : first = zs.getD q 0
          · have hf' : (first != zs.getD q 0) = false := by simp [hf]
            have HGI := HGW.out _ ⟨_, N0⟩
            have HGI : Hid (Gi w wr (.slice (some ⟨g, 0, none⟩) (q + 1) mcap) zs (q + 1)) := HGI
            clear hf HML HMN HGW
            generalize zs.getD q 0 = y at *
            go_wp2
            go_loopw [11] (fun i wr => ∃ j : Nat, j ≤ q + 1 ∧ i = .int .i64 ((j : Int) - 1) ∧ Hid (Gi w wr (.slice (some ⟨g, 0, none⟩) (q + 1) mcap) zs j)) (fun i _ => (intOf i + 1).toNat)
            case atStart => exact ⟨q + 1, Nat.le_refl _, by first | rfl | go_num, HGI⟩
            case round =>
              obtain ⟨j, hj, rfl, G⟩ := hrel
              obtain ⟨A5, L5, N5, hm5⟩ := G.out
              clear G HGI
              cases j with
              | zero =>
                obtain ⟨e1, e2⟩ := give_no (L := L5) (s := first) (.inl (by rw [hm5]; rfl))
                have HGV : Hid (∀ W, LRep W w.heap.size A5 L5 → Calls Try.prog 14 #[.pointer (some ⟨w.heap.size, 0, none⟩), .int .i64 1, .int .i64 first] W fun e w' => e = .returned (.int .i64 10) ∧ LWent W w.heap.size A5 L5 w') := fun W q => by
                  have := give_any _ A5 L5 1 first W q
                  rw [e1, e2] at this
                  exact this
                clear e1 e2 hm5
                go_wp2_with fail
                refine (answers_any _).mono ?_
                rintro e w6 ⟨rfl, k6⟩
                have N6 := N5.still k6
                clear k6 N5
                go_wp2_with fail
                refine (HGV.out _ N6.x.rep).mono ?_
                rintro e w7 ⟨rfl, q7⟩
                obtain ⟨A7, N7⟩ := N6.went q7
                go_wp2
                go_ret
                exact ⟨rfl, HE.out _ N7.x.kp⟩
              | succ p =>
                have ek : ((p + 1 : Nat) : Int) - 1 = (p : Int) := by omega
                have hpe : (0 : Int) ≤ (p : Int) := by omega
                have hqm : (p : Int) < (q : Int) + 1 := by omega
                rw [ek]
                have hpl : p < zs.length := by rw [HZ.out]; omega
                obtain ⟨g5, e5, hg5, cq5⟩ := N5.l.one hpl
                cases e5
                rw [take_last hpl] at hm5
                obtain ⟨e1, e2⟩ := give_yes hm5
                have HGV : Hid (∀ W, LRep W w.heap.size A5 L5 → Calls Try.prog 14 #[.pointer (some ⟨w.heap.size, 0, none⟩), .int .i64 1, .int .i64 (zs.getD p 0)] W fun e w' => e = .returned (.int .i64 0) ∧ LWent W w.heap.size A5 (giveL L5 1 (zs.getD p 0)) w') := fun W h => by
                  have := give_any _ A5 L5 1 (zs.getD p 0) W h
                  rw [e1] at this
                  exact this
                have HM5 : Hid (mn (giveL L5 1 (zs.getD p 0)) = zs.take p) := e2
                have wq1 : wrap64 ((p : Int) - 1) = (p : Int) - 1 := by unfold wrap64; omega
                have wq2 : IntKind.i64.wrap ((p : Int) - 1) = (p : Int) - 1 := by rw [IntKind.wrap_i64]; omega
                clear e1 e2 hm5
                generalize giveL L5 1 (zs.getD p 0) = L6 at *
                generalize zs.getD p 0 = y at *
                go_wp2_with fail
                refine (HGV.out _ N5.x.rep).mono ?_
                rintro e w6 ⟨rfl, q6⟩
                obtain ⟨A6, N6⟩ := N5.went q6
                have HG6 : Hid (Gi w w6 (.slice (some ⟨g, 0, none⟩) (q + 1) mcap) zs p) := ⟨A6, L6, N6, HM5.out⟩
                clear q6 N5 N6 cq5
                go_wp2
                go_roundw
                case rel => exact ⟨p, by omega, by first | rfl | go_num, HG6⟩
                case measure => simp [intOf]
          · have hf' : (first != zs.getD q 0) = true := bne_iff_ne.2 hf
            obtain ⟨e1, e2⟩ := give_no (L := L) (s := first) (.inr ⟨_, _, HML.out, hf⟩)
            have HGV : Hid (∀ W, LRep W w.heap.size A L → Calls Try.prog 14 #[.pointer (some ⟨w.heap.size, 0, none⟩), .int .i64 1, .int .i64 first] W fun e w' => e = .returned (.int .i64 10) ∧ LWent W w.heap.size A L w') := fun W h => by
              have := give_any _ A L 1 first W h
              rw [e1, e2] at this
              exact this
            clear e1 e2 hf HML
            generalize zs.getD q 0 = y at *
            go_wp2_with fail
            refine (HGV.out _ N0.x.rep).mono ?_
            rintro e w4 ⟨rfl, q4⟩
            obtain ⟨A4, N4⟩ := N0.went q4
            have HGI : Hid (Gi w w4 (.slice (some ⟨g, 0, none⟩) (q + 1) mcap) zs (q + 1)) := HGW.out _ ⟨_, N4⟩
            clear q4 N0 N4 HGV HGW HMN cq
            go_wp2
            go_loopw [11] (fun i wr => ∃ j : Nat, j ≤ q + 1 ∧ i = .int .i64 ((j : Int) - 1) ∧ Hid (Gi w wr (.slice (some ⟨g, 0, none⟩) (q + 1) mcap) zs j)) (fun i _ => (intOf i + 1).toNat)
            case atStart => exact ⟨q + 1, Nat.le_refl _, by first | rfl | go_num, HGI⟩
            case round =>
              obtain ⟨j, hj, rfl, G⟩ := hrel
              obtain ⟨A5, L5, N5, hm5⟩ := G.out
              clear G HGI
              cases j with
              | zero =>
                obtain ⟨e1, e2⟩ := give_no (L := L5) (s := first) (.inl (by rw [hm5]; rfl))
                have HGV : Hid (∀ W, LRep W w.heap.size A5 L5 → Calls Try.prog 14 #[.pointer (some ⟨w.heap.size, 0, none⟩), .int .i64 1, .int .i64 first] W fun e w' => e = .returned (.int .i64 10) ∧ LWent W w.heap.size A5 L5 w') := fun W q => by
                  have := give_any _ A5 L5 1 first W q
                  rw [e1, e2] at this
                  exact this
                clear e1 e2 hm5
                go_wp2_with fail
                refine (answers_any _).mono ?_
                rintro e w6 ⟨rfl, k6⟩
                have N6 := N5.still k6
                clear k6 N5
                go_wp2_with fail
                refine (HGV.out _ N6.x.rep).mono ?_
                rintro e w7 ⟨rfl, q7⟩
                obtain ⟨A7, N7⟩ := N6.went q7
                go_wp2
                go_ret
                exact ⟨rfl, HE.out _ N7.x.kp⟩
              | succ p =>
                have ek : ((p + 1 : Nat) : Int) - 1 = (p : Int) := by omega
                have hpe : (0 : Int) ≤ (p : Int) := by omega
                have hqm : (p : Int) < (q : Int) + 1 := by omega
                rw [ek]
                have hpl : p < zs.length := by rw [HZ.out]; omega
                obtain ⟨g5, e5, hg5, cq5⟩ := N5.l.one hpl
                cases e5
                rw [take_last hpl] at hm5
                obtain ⟨e1, e2⟩ := give_yes hm5
                have HGV : Hid (∀ W, LRep W w.heap.size A5 L5 → Calls Try.prog 14 #[.pointer (some ⟨w.heap.size, 0, none⟩), .int .i64 1, .int .i64 (zs.getD p 0)] W fun e w' => e = .returned (.int .i64 0) ∧ LWent W w.heap.size A5 (giveL L5 1 (zs.getD p 0)) w') := fun W h => by
                  have := give_any _ A5 L5 1 (zs.getD p 0) W h
                  rw [e1] at this
                  exact this
                have HM5 : Hid (mn (giveL L5 1 (zs.getD p 0)) = zs.take p) := e2
                have wq1 : wrap64 ((p : Int) - 1) = (p : Int) - 1 := by unfold wrap64; omega
                have wq2 : IntKind.i64.wrap ((p : Int) - 1) = (p : Int) - 1 := by rw [IntKind.wrap_i64]; omega
                clear e1 e2 hm5
                generalize giveL L5 1 (zs.getD p 0) = L6 at *
                generalize zs.getD p 0 = y at *
                go_wp2_with fail
                refine (HGV.out _ N5.x.rep).mono ?_
                rintro e w6 ⟨rfl, q6⟩
                obtain ⟨A6, N6⟩ := N5.went q6
                have HG6 : Hid (Gi w w6 (.slice (some ⟨g, 0, none⟩) (q + 1) mcap) zs p) := ⟨A6, L6, N6, HM5.out⟩
                clear q6 N5 N6 cq5
                go_wp2
                go_roundw
                case rel => exact ⟨p, by omega, by first | rfl | go_num, HG6⟩
                case measure => simp [intOf]
        · have hp' : ¬ (0 : Int) < (m : Int) := by omega
          obtain rfl : m = 0 := by omega
          have HGI : Hid (Gi w wr (.slice mo 0 mcap) zs 0) := HGW.out _ ⟨_, N0⟩
          clear HGW HMN N0
          go_wp2
          go_loopw [11] (fun i wr => ∃ j : Nat, j ≤ 0 ∧ i = .int .i64 ((j : Int) - 1) ∧ Hid (Gi w wr (.slice mo 0 mcap) zs j)) (fun i _ => (intOf i + 1).toNat)
          case atStart => exact ⟨0, Nat.le_refl _, by first | rfl | go_num, HGI⟩
          case round =>
            obtain ⟨j, hj, rfl, G⟩ := hrel
            obtain ⟨A5, L5, N5, hm5⟩ := G.out
            clear G HGI
            cases j with
            | zero =>
              obtain ⟨e1, e2⟩ := give_no (L := L5) (s := first) (.inl (by rw [hm5]; rfl))
              have HGV : Hid (∀ W, LRep W w.heap.size A5 L5 → Calls Try.prog 14 #[.pointer (some ⟨w.heap.size, 0, none⟩), .int .i64 1, .int .i64 first] W fun e w' => e = .returned (.int .i64 10) ∧ LWent W w.heap.size A5 L5 w') := fun W q => by
                have := give_any _ A5 L5 1 first W q
                rw [e1, e2] at this
                exact this
              clear e1 e2 hm5
              go_wp2_with fail
              refine (answers_any _).mono ?_
              rintro e w6 ⟨rfl, k6⟩
              have N6 := N5.still k6
              clear k6 N5
              go_wp2_with fail
              refine (HGV.out _ N6.x.rep).mono ?_
              rintro e w7 ⟨rfl, q7⟩
              obtain ⟨A7, N7⟩ := N6.went q7
              go_wp2
              go_ret
              exact ⟨rfl, HE.out _ N7.x.kp⟩
            | succ q =>
              exact absurd hj (by omega)

end Go.Proofs.Ytlcbgkicooeklaa.LK
