/- The document's own lists of what is held: spent, freed, over; the same; an error of a lock. -/
import Derived.Test.YtlcbgkicooeklaaLckCeil
namespace Go.Proofs.Ytlcbgkicooeklaa.LK
open Go.ChangeShapes Go.WideShapes Go.ChangeAt Go.RowKit Go.Proofs.Ytlcbgkicooeklaa.AR

theorem kp_drewN {a b : World} (h : Kp a b) (n : Nat) : Kp a (b.drewN n) := Step.drewN h n

/-- one more in a row of the call's own -/
theorem ls_more {w wr w4 : World} {e : TypeId} {v : Value} {M : List Hd} {y : Hd} {g4 cap4 : Nat} {o : Obj} (l : Ls wr e w.heap.size v M) (k : Kp w wr) (hl : M.length + 1 ≤ 5864062014805)
    (row4 : w4.ownsRow w.heap.size e 3 (.slice (some ⟨g4, 0, none⟩) (M.length + 1) cap4) (M.length + 1) (flatH (M ++ [y]))) (hg4 : (wr.alloc o).grownBy w4 v.ownBlock) :
    Ls w4 e w.heap.size (.slice (some ⟨g4, 0, none⟩) (M.length + 1) cap4) (M ++ [y]) ∧ Kp w w4 := by
  have k34 : Step (fun k => v.ownBlock = some k) wr w4 := ((Step.refl _ wr).alloc o).grown hg4 (fun k hk => hk)
  refine ⟨⟨by rw [List.length_append]; exact row4, by simp; omega⟩, Step.trans_new k k34 (fun i hi q => ?_)⟩
  have := (l.row.lt i q).1
  omega

/-- a list under way -/
structure Mk (w wr : World) (v : Value) (M : List Hd) : Prop where
  ls : Ls wr 33 w.heap.size v M
  kp : Kp w wr

/-! ### Free -/

set_option maxHeartbeats 4000000 in
theorem rfree_any (base : Nat) (v : Value) (L : List Hd) (t : Int) (w : World) (h : Ls w 33 base v L) :
    Calls Try.prog 20 #[v, .int .i64 t] w fun e w' => ∃ v', e = .returned v' ∧ Ls w' 33 w.heap.size v' (freeL L t) ∧ Kp w w' := by
  obtain ⟨bo, c2, rfl, hl'⟩ := h.lies
  have HL : Hid (L.length ≤ 5864062014805) := h.len
  have HH : Hid (HsAt w bo L.length L) := hl'
  have HE : Hid (∀ k, L.length ≤ k → keep (fun x => x.t == t) (L.take k) = freeL L t) := fun k hk => by rw [List.take_of_length_le hk]; rfl
  obtain ⟨n, hn⟩ : ∃ n, L.length = n := ⟨_, rfl⟩
  have HN : Hid (L.length = n) := hn
  have hlen := h.len
  rw [hn] at HH hlen ⊢
  clear hl' h hn
  go_enter Try.func20, Try.ntmps20
  go_wp2
  go_loopw [5, 6] (fun u i wr => ∃ k : Nat, k ≤ n ∧ i = .int .i64 k ∧ Hid (Mk w wr u (keep (fun x => x.t == t) (L.take k)))) (fun _ i _ => n - (intOf i).toNat)
  case atStart => exact ⟨0, Nat.zero_le _, rfl, ls_nil _ _ _, Step.refl _ _⟩
  case round =>
    obtain ⟨k, hk, rfl, G⟩ := hrel
    by_cases hlt : k < n
    · have hlt' : (k : Int) < (n : Int) := by omega
      have hkl : k < L.length := by rw [HN.out]; exact hlt
      obtain ⟨b, off, rfl, hb, c0, c1, c2', _⟩ := (HH.out.kp G.out.kp).one hlt
      by_cases he : (atH L k).t = t
      · have e' : ((atH L k).t != t) = false := by simp [he]
        have G2 : Hid (Mk w wr u5 (keep (fun x => x.t == t) (L.take (k + 1)))) := by
          show Mk _ _ _ _
          rw [keep_hit hkl (by simpa using he)]; exact G.out
        clear he
        generalize atH L k = x at *
        go_wp2
        go_roundw
        case rel => exact ⟨k + 1, by omega, by go_num, G2⟩
        case measure => simp [intOf]; omega
      · have e' : ((atH L k).t != t) = true := by simp [he]
        have HS : Hid (keep (fun x => x.t == t) (L.take (k + 1)) = keep (fun x => x.t == t) (L.take k) ++ [atH L k]) := keep_miss hkl (by simpa using he)
        have hq := keep_take_len (fun x => x.t == t) L k
        clear he
        generalize atH L k = y at *
        have lu := G.out.ls
        have kk := G.out.kp
        generalize keep (fun x => x.t == t) (L.take k) = M at *
        go_wp2_with (first
          | (at_builtin; refine wpList_append_three _ rfl _ _ 26 33 rfl Try.underlying26 hr_info w.heap.size u5 M rfl (by exact lu.row.alloc _) wr.heap.size y rfl (by exact alloc_at wr _) (by have := HL.out; have := HN.out; omega) (by have := kk.size; simp; omega) ?_; intro g4 cap4 w4 row4 hg4 hloc4)
          | fail)
        have G4 : Hid (Mk w w4 (.slice (some ⟨g4, 0, none⟩) (M.length + 1) cap4) (keep (fun x => x.t == t) (L.take (k + 1)))) := by
          have := ls_more lu kk (by have := HL.out; have := HN.out; omega) row4 hg4
          show Mk _ _ _ _
          rw [HS.out]
          exact ⟨this.1, this.2⟩
        exact ⟨⟨k + 1, by omega, by go_num, G4⟩, by simp [intOf]; omega⟩
    · have hlt' : ¬ (k : Int) < (n : Int) := by omega
      have HD : Hid (Mk w wr u5 (freeL L t)) := by show Mk _ _ _ _; rw [← HE.out k (by rw [HN.out]; omega)]; exact G.out
      go_wp2
      go_ret
      exact ⟨_, rfl, HD.out.ls, HD.out.kp⟩

/-! ### Spend -/

theorem alloc_at2 (w : World) (o o' : Obj) : ((w.alloc o).alloc o').heap[w.heap.size + 1]? = some o' := by
  have := alloc_at (w.alloc o) o'
  rw [World.size_alloc] at this
  exact this

theorem spT_snoc {L : List Hd} {t : Int} {k : Nat} (h : k < L.length) : (L.take (k + 1)).map (sp1 t) = (L.take k).map (sp1 t) ++ [sp1 t (atH L k)] := by
  rw [take_snocH h, List.map_append]; rfl

set_option maxHeartbeats 4000000 in
theorem rspend_any (base : Nat) (v : Value) (L : List Hd) (t : Int) (w : World) (h : Ls w 33 base v L) :
    Calls Try.prog 16 #[v, .int .i64 t] w fun e w' => ∃ v', e = .returned v' ∧ Ls w' 33 w.heap.size v' (spendL L t) ∧ Kp w w' := by
  obtain ⟨bo, c2, rfl, hl'⟩ := h.lies
  have HL : Hid (L.length ≤ 5864062014805) := h.len
  have HH : Hid (HsAt w bo L.length L) := hl'
  have HE : Hid (∀ k, L.length ≤ k → (L.take k).map (sp1 t) = spendL L t) := fun k hk => by rw [List.take_of_length_le hk]; rfl
  obtain ⟨n, hn⟩ : ∃ n, L.length = n := ⟨_, rfl⟩
  have HN : Hid (L.length = n) := hn
  have hlen := h.len
  rw [hn] at HH hlen ⊢
  clear hl' h hn
  go_enter Try.func16, Try.ntmps16
  go_wp2
  go_loopw [5, 6] (fun u i wr => ∃ k : Nat, k ≤ n ∧ i = .int .i64 k ∧ Hid (Mk w wr u ((L.take k).map (sp1 t)))) (fun _ i _ => n - (intOf i).toNat)
  case atStart => exact ⟨0, Nat.zero_le _, rfl, ls_nil _ _ _, Step.refl _ _⟩
  case round =>
    obtain ⟨k, hk, rfl, G⟩ := hrel
    by_cases hlt : k < n
    · have hlt' : (k : Int) < (n : Int) := by omega
      have hkl : k < L.length := by rw [HN.out]; exact hlt
      obtain ⟨b, off, rfl, hb, c0, c1, c2', _⟩ := (HH.out.kp G.out.kp).one hlt
      have HS : Hid ((L.take (k + 1)).map (sp1 t) = (L.take k).map (sp1 t) ++ [sp1 t (atH L k)]) := spT_snoc hkl
      have HQ : Hid (((L.take k).map (sp1 t)).length = k) := by show _ = _; simp; omega
      by_cases he : (atH L k).t = t
      · have e' : ((atH L k).t == t) = true := by simp [he]
        have HY : Hid (∀ y, y = wrap64 ((atH L k).l - 1) → sp1 t (atH L k) = ⟨(atH L k).t, (atH L k).s, y⟩) := by rintro y rfl; simp [sp1, he]
        clear he
        generalize sp1 t (atH L k) = z at *
        generalize atH L k = y at *
        have lu := G.out.ls
        have kk := G.out.kp
        generalize (L.take k).map (sp1 t) = M at *
        go_wp2_with (first
          | (at_builtin; refine wpList_append_three _ rfl _ _ 26 33 rfl Try.underlying26 hr_info w.heap.size u5 M rfl (by exact (lu.row.alloc _).alloc _) (wr.heap.size + 1) ((⟨y.t, y.s, wrap64 (y.l - 1)⟩ : Hd)) rfl (by exact alloc_at2 wr _ _) (by have := HL.out; have := HN.out; have := HQ.out; omega) (by have := kk.size; simp; omega) ?_; intro g4 cap4 w4 row4 hg4 hloc4)
          | fail)
        have G4 : Hid (Mk w w4 (.slice (some ⟨g4, 0, none⟩) (M.length + 1) cap4) ((L.take (k + 1)).map (sp1 t))) := by
          have := ls_more (lu.kp ((Step.refl _ _).alloc (.cells #[.int .i64 ((⟨y.t, y.s, wrap64 (y.l - 1)⟩ : Hd)).t, .int .i64 ((⟨y.t, y.s, wrap64 (y.l - 1)⟩ : Hd)).s, .int .i64 ((⟨y.t, y.s, wrap64 (y.l - 1)⟩ : Hd)).l] 33))) (kk.alloc _) (by have := HL.out; have := HN.out; have := HQ.out; omega) row4 hg4
          show Mk _ _ _ _
          rw [HS.out, HY.out _ rfl]
          exact ⟨this.1, this.2⟩
        exact ⟨⟨k + 1, by omega, by go_num, G4⟩, by simp [intOf]; omega⟩
      · have e' : ((atH L k).t == t) = false := by simp [he]
        have HY : Hid (sp1 t (atH L k) = atH L k) := by show _ = _; simp [sp1, he]
        clear he
        generalize sp1 t (atH L k) = z at *
        generalize atH L k = y at *
        have lu := G.out.ls
        have kk := G.out.kp
        generalize (L.take k).map (sp1 t) = M at *
        go_wp2_with (first
          | (at_builtin; refine wpList_append_three _ rfl _ _ 26 33 rfl Try.underlying26 hr_info w.heap.size u5 M rfl (by exact (lu.row.alloc _).alloc _) (wr.heap.size + 1) (y) rfl (by exact alloc_at2 wr _ _) (by have := HL.out; have := HN.out; have := HQ.out; omega) (by have := kk.size; simp; omega) ?_; intro g4 cap4 w4 row4 hg4 hloc4)
          | fail)
        have G4 : Hid (Mk w w4 (.slice (some ⟨g4, 0, none⟩) (M.length + 1) cap4) ((L.take (k + 1)).map (sp1 t))) := by
          have := ls_more (lu.kp ((Step.refl _ _).alloc (.cells #[.int .i64 (y).t, .int .i64 (y).s, .int .i64 (y).l] 33))) (kk.alloc _) (by have := HL.out; have := HN.out; have := HQ.out; omega) row4 hg4
          show Mk _ _ _ _
          rw [HS.out, HY.out]
          exact ⟨this.1, this.2⟩
        exact ⟨⟨k + 1, by omega, by go_num, G4⟩, by simp [intOf]; omega⟩
    · have hlt' : ¬ (k : Int) < (n : Int) := by omega
      have HD : Hid (Mk w wr u5 (spendL L t)) := by show Mk _ _ _ _; rw [← HE.out k (by rw [HN.out]; omega)]; exact G.out
      go_wp2
      go_ret
      exact ⟨_, rfl, HD.out.ls, HD.out.kp⟩

/-! ### Over -/

set_option maxHeartbeats 4000000 in
theorem rover_any (e : TypeId) (base : Nat) (v : Value) (L : List Hd) (t : Int) (w : World) (h : Ls w e base v L) :
    Calls Try.prog 18 #[v, .int .i64 t] w fun e w' => e = .returned (.bool (overB L t)) ∧ Kp w w' := by
  obtain ⟨bo, c2, rfl, hl'⟩ := h.lies
  have hlen := h.len
  have HH : Hid (HsAt w bo L.length L) := hl'
  obtain ⟨res, hres⟩ : ∃ res, overB L t = res := ⟨_, rfl⟩
  rw [hres]
  have HR : Hid (anyH (fun h => (h.t == t) && decide (h.l ≤ 0)) L L.length = res) := hres
  obtain ⟨n, hn⟩ : ∃ n, L.length = n := ⟨_, rfl⟩
  rw [hn] at hlen HH HR ⊢
  clear hres hl' h hn
  go_enter Try.func18, Try.ntmps18
  go_wp2
  go_loopw [5] (fun i wr => ∃ k : Nat, k ≤ n ∧ i = .int .i64 k ∧ Hid (∀ i, i < k → ((fun h : Hd => (h.t == t) && decide (h.l ≤ 0)) (atH L i)) = false) ∧ Kp w wr) (fun i _ => n - (intOf i).toNat)
  case atStart => exact ⟨0, Nat.zero_le _, rfl, fun i hi => by omega, Step.refl _ _⟩
  case round =>
    obtain ⟨k, hk, rfl, HL, hkp⟩ := hrel
    by_cases hlt : k < n
    · have hlt' : (k : Int) < (n : Int) := by omega
      obtain ⟨b, off, rfl, hb, c0, c1, c2', _⟩ := (HH.out.kp hkp).one hlt
      have HT : Hid ((fun h : Hd => (h.t == t) && decide (h.l ≤ 0)) (atH L k) = true → res = true) := fun q => by rw [← HR.out]; exact anyH_at hlt q
      have HF : Hid ((fun h : Hd => (h.t == t) && decide (h.l ≤ 0)) (atH L k) = false → ∀ i, i < k + 1 → ((fun h : Hd => (h.t == t) && decide (h.l ≤ 0)) (atH L i)) = false) := fun q i hi => by
        by_cases hik : i < k
        · exact HL.out i hik
        · obtain rfl : i = k := by omega
          exact q
      clear HL
      cases h1 : (atH L k).t == t with
      | false =>
        have HN := HF.out (by simp only [h1, Bool.false_and])
        have HN' : Hid (∀ i, i < k + 1 → ((fun h : Hd => (h.t == t) && decide (h.l ≤ 0)) (atH L i)) = false) := HN
        clear HN HF HT
        generalize atH L k = x at *
        go_wp2
        go_roundw
        case rel => exact ⟨k + 1, by omega, by go_num, HN', hkp⟩
        case measure => simp [intOf]; omega
      | true =>
        cases h2 : decide ((atH L k).l ≤ 0) with
        | false =>
          have HN := HF.out (by simp only [h1, h2, Bool.true_and])
          have HN' : Hid (∀ i, i < k + 1 → ((fun h : Hd => (h.t == t) && decide (h.l ≤ 0)) (atH L i)) = false) := HN
          clear HN HF HT
          generalize atH L k = x at *
          go_wp2
          go_roundw
          case rel => exact ⟨k + 1, by omega, by go_num, HN', hkp⟩
          case measure => simp [intOf]; omega
        | true =>
          have HN : Hid (res = true) := HT.out (by simp only [h1, h2, Bool.true_and])
          clear HF HT
          generalize atH L k = x at *
          go_wp2
          go_ret
          exact ⟨by rw [HN.out]; rfl, hkp⟩
    · have hlt' : ¬ (k : Int) < (n : Int) := by omega
      have HN : Hid (res = false) := by show res = false; rw [← HR.out]; exact anyH_f.2 (fun i hi => HL.out i (by omega))
      clear HL
      go_wp2
      go_ret
      exact ⟨by rw [HN.out]; rfl, hkp⟩

/-! ### the same, and an error -/

set_option maxHeartbeats 4000000 in
theorem same_any (e1 e2 : TypeId) (b1 b2 : Nat) (v1 v2 : Value) (L : List Hd) (w : World) (h1 : Ls w e1 b1 v1 L) (h2 : Ls w e2 b2 v2 L) :
    Calls Try.prog 23 #[v1, v2] w fun e w' => e = .returned (.bool true) ∧ Kp w w' := by
  have hlen := h1.len
  obtain ⟨o1, c1, rfl, q1⟩ := h1.lies
  obtain ⟨o2, c2, rfl, q2⟩ := h2.lies
  have H1 : Hid (HsAt w o1 L.length L) := q1
  have H2 : Hid (HsAt w o2 L.length L) := q2
  obtain ⟨n, hn⟩ : ∃ n, L.length = n := ⟨_, rfl⟩
  rw [hn] at hlen H1 H2 ⊢
  clear q1 q2 h1 h2 hn
  go_enter Try.func23, Try.ntmps23
  go_wp2
  go_loopw [5] (fun i wr => ∃ k : Nat, k ≤ n ∧ i = .int .i64 k ∧ Kp w wr) (fun i _ => n - (intOf i).toNat)
  case atStart => exact ⟨0, Nat.zero_le _, rfl, Step.refl _ _⟩
  case round =>
    obtain ⟨k, hk, rfl, kp⟩ := hrel
    by_cases hlt : k < n
    · have hlt' : (k : Int) < (n : Int) := by omega
      have i1 : (0 : Int) ≤ (k : Int) := by omega
      have i3 : ((k : Int)).toNat = k := by omega
      obtain ⟨b1, f1, rfl, hb1, a0, a1, a2, _⟩ := (H1.out.kp kp).one hlt
      obtain ⟨b2, f2, rfl, hb2, d0, d1, d2, _⟩ := (H2.out.kp kp).one hlt
      generalize atH L k = x at *
      have t1 : (x.t != x.t) = false := by simp
      have t2 : (x.s != x.s) = false := by simp
      have t3 : (x.l != x.l) = false := by simp
      go_wp2_with fail
      go_quiet (fail)
      generalize hwq : World.drewN wr _ = w2
      have k2 : Kp w w2 := by rw [← hwq]; exact kp_drewN kp _
      clear hwq
      go_wp2
      go_roundw
      case rel => exact ⟨k + 1, by omega, by go_num, k2⟩
      case measure => simp [intOf]; omega
    · have hlt' : ¬ (k : Int) < (n : Int) := by omega
      go_wp2
      go_ret
      exact ⟨rfl, kp⟩

theorem code_any (b : Bool) (w : World) :
    Calls Try.prog 12 #[.bool b] w fun e w' => e = .returned (.int .i64 (codeI b)) ∧ w = w' := by
  cases b with
  | true =>
    have q : codeI true = 0 := rfl
    rw [q]
    go_enter Try.func12, Try.ntmps12
    go_wp2
    go_ret
    exact ⟨rfl, rfl⟩
  | false =>
    have q : codeI false = 10 := rfl
    rw [q]
    go_enter Try.func12, Try.ntmps12
    go_wp2
    go_ret
    exact ⟨rfl, rfl⟩

end Go.Proofs.Ytlcbgkicooeklaa.LK
