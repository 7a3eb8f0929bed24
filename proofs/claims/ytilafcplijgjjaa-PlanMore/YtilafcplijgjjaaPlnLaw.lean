/- What the statements ask of every program, and what can be said of the moment: in plain words; their own functions walked. -/
import Derived.Test.YtilafcplijgjjaaPlnFun
import Derived.Test.YtilafcplijgjjaaSlkGoodW
import Derived.Test.YtilafcplijgjjaaRowAt
namespace Go.Proofs.Ytilafcplijgjjaa.PN
open Go.ChangeShapes Go.WideShapes Go.ChangeAt Go.RowKit Go.Proofs.Ytilafcplijgjjaa.AR Go.Proofs.Ytilafcplijgjjaa.TB Go.Proofs.Ytilafcplijgjjaa.TK Go.Proofs.Ytilafcplijgjjaa.JB Go.Proofs.Ytilafcplijgjjaa.FX Go.Proofs.Ytilafcplijgjjaa.AD Go.Proofs.Ytilafcplijgjjaa.SK
open Go.Proofs.Ytilafcplijgjjaa.LK (Hd atH HsAt C3)

theorem ndB_none {t : Tk} (h : t.dl = 0) (d : Int) : ndB t d = false := by unfold ndB; rw [h]; rfl
/-- what there is none of needs nothing -/
theorem good_nd {w : World} {v : Vw} {a : Int} (hv : VL w v) (h : goodV v a = true) (d : Int) : ∀ t ∈ v.T, t.p ≤ 0 → ndB t d = false := by
  simp only [goodV, Bool.and_eq_true] at h
  obtain ⟨⟨⟨_, gt⟩, _⟩, _⟩ := h
  intro t ht hp
  obtain ⟨i, hi, e⟩ := List.mem_iff_getElem.1 ht
  have hk : v.T[i]? = some t := by rw [List.getElem?_eq_getElem hi, e]
  have := allB_t.1 gt i (by have := hv.t.ln; omega)
  simp only [tOk, hk, Bool.and_eq_true, Bool.or_eq_true] at this
  rcases this.1 with q | q
  · exact ndB_none (noB_t q).2.2.2 d
  · have := (bt_of q).2.1
    omega
theorem ul_of {w : World} {v : Vw} (h : VL w v) (g : VG v) : UL w v := ⟨h.t, h.n, h.j, g.nl⟩

/-! ### ahead of the moment -/

theorem mn_left (a b : Int) : mn a b ≤ a := by unfold mn; split <;> omega
theorem mn_right (a b : Int) : mn a b ≤ b := by unfold mn; split <;> omega
theorem mn_le {a b c : Int} (h1 : c ≤ a) (h2 : c ≤ b) : c ≤ mn a b := by unfold mn; split <;> omega
theorem mn_or (a b : Int) : mn a b = a ∨ mn a b = b := by unfold mn; split <;> simp
theorem coI_now (v : Vw) (k : Nat) : v.now ≤ coI v k := by unfold coI mx; split <;> omega
theorem untT_now {v : Vw} {d : Int} (h : v.now ≤ 1099511627776) : ∀ k, v.now ≤ untT v d k
  | 0 => h
  | k + 1 => by
    cases q : ndX v.T (k : Int) d with
    | true => rw [untT_in q]; exact mn_le (untT_now h k) (coI_now v k)
    | false => rw [untT_not q]; exact untT_now h k
theorem untI_now {v : Vw} (g : VG v) (d : Int) : v.now ≤ untI v d := by
  have h := g.now
  cases q : jobN v d with
  | true => rw [untI_job q]; exact Int.le_refl _
  | false => rw [untI_not q]; exact untT_now (by omega) _
theorem untT_le {v : Vw} {d : Int} {k : Nat} (h : ndX v.T (k : Int) d = true) : ∀ {n : Nat}, k < n → untT v d n ≤ coI v k
  | n + 1, hn => by
    by_cases e : k = n
    · subst e; rw [untT_in h]; exact mn_right _ _
    · have h1 := untT_le h (n := n) (by omega)
      cases q : ndX v.T (n : Int) d with
      | true => rw [untT_in q]; exact Int.le_trans (mn_left _ _) h1
      | false => rw [untT_not q]; exact h1
theorem untI_le {v : Vw} {d : Int} {k : Nat} (h : ndX v.T (k : Int) d = true) (hk : k < v.tl) : untI v d ≤ coI v k := by
  cases q : jobN v d with
  | true => rw [untI_job q]; exact coI_now v k
  | false => rw [untI_not q]; exact untT_le h hk
theorem untI_has {v : Vw} {d : Int} {k : Nat} (h : ndX v.T (k : Int) d = true) (hj : (jof v.J (k : Int)).isSome = true) : untI v d = v.now := by
  obtain ⟨j, e⟩ := Option.isSome_iff_exists.1 hj
  refine untI_job (List.any_eq_true.2 ⟨j, (jof_mem e).1, ?_⟩)
  rw [(jof_mem e).2]
  exact h
theorem untT_one {v : Vw} {d : Int} : ∀ n, untT v d n = 1099511627776 ∨ ∃ k, k < n ∧ ndX v.T (k : Int) d = true ∧ coI v k = untT v d n
  | 0 => .inl rfl
  | n + 1 => by
    have ih := untT_one (v := v) (d := d) n
    cases q : ndX v.T (n : Int) d with
    | true =>
      rw [untT_in q]
      rcases mn_or (untT v d n) (coI v n) with e | e
      · rw [e]
        rcases ih with h | ⟨k, h1, h2, h3⟩
        · exact .inl h
        · exact .inr ⟨k, by omega, h2, h3⟩
      · exact .inr ⟨n, by omega, q, e.symm⟩
    | false =>
      rw [untT_not q]
      rcases ih with h | ⟨k, h1, h2, h3⟩
      · exact .inl h
      · exact .inr ⟨k, by omega, h2, h3⟩

/-- is it never, or now, or may one of the first k have a job just then? -/
def justB (v : Vw) (d : Int) : Nat → Bool
  | 0 => (untI v d == 1099511627776) || (untI v d == v.now)
  | k + 1 => if ndX v.T (k : Int) d = true then justB v d k || (coI v k == untI v d) else justB v d k
theorem just_in {v : Vw} {d : Int} {k : Nat} (h : ndX v.T (k : Int) d = true) : justB v d (k + 1) = (justB v d k || (coI v k == untI v d)) := by simp [justB, h]
theorem just_not {v : Vw} {d : Int} {k : Nat} (h : ndX v.T (k : Int) d = false) : justB v d (k + 1) = justB v d k := by simp [justB, h]
theorem just_one {v : Vw} {d : Int} {k : Nat} (h : justB v d k = true) : justB v d (k + 1) = true := by
  cases q : ndX v.T (k : Int) d with
  | true => rw [just_in q, h]; rfl
  | false => rw [just_not q]; exact h
theorem just_keep {v : Vw} {d : Int} {k : Nat} (h : justB v d k = true) : ∀ {n : Nat}, k ≤ n → justB v d n = true
  | 0, hn => by obtain rfl : k = 0 := by omega
                exact h
  | n + 1, hn => by
    by_cases e : k = n + 1
    · subst e; exact h
    · exact just_one (just_keep h (by omega))
theorem just_end (v : Vw) (d : Int) : justB v d v.tl = true := by
  cases q : jobN v d with
  | true => exact just_keep (k := 0) (by simp [justB, untI_job q]) (Nat.zero_le _)
  | false =>
    rcases untT_one (v := v) (d := d) v.tl with h | ⟨k, h1, h2, h3⟩
    · exact just_keep (k := 0) (by simp [justB, untI_not q, h]) (Nat.zero_le _)
    · refine just_keep (k := k + 1) ?_ h1
      rw [just_in h2, untI_not q, h3]
      simp

/-! ### one task more -/

def more (v : Vw) (ta : Option Addr) (tc : Nat) (t : Tk) (na : Option Addr) (nc : Nat) (x : Int) : Vw := { v with ta := ta, tl := v.tl + 1, tc := tc, T := v.T ++ [t], na := na, nl := v.nl + 1, nc := nc, N := v.N ++ [x] }

section
variable {v : Vw} {ta na : Option Addr} {tc nc : Nat} {t : Tk} {x : Int}
theorem ndX_more {T : List Tk} {t : Tk} {n : Nat} (hl : T.length = n) {k d : Int} (h : k < (n : Int)) : ndX (T ++ [t]) k d = ndX T k d := by
  unfold ndX
  by_cases h0 : 0 ≤ k
  · rw [if_pos h0, if_pos h0, List.getElem?_append_left (by omega)]
  · rw [if_neg h0, if_neg h0]
theorem coI_more (hl : v.N.length = v.nl) {k : Nat} (hk : k < v.nl) : coI (more v ta tc t na nc x) k = coI v k := by
  unfold coI
  show mx ((v.N ++ [x]).getD k 0) v.now = _
  rw [List.getD_eq_getElem?_getD, List.getElem?_append_left (by omega), ← List.getD_eq_getElem?_getD]
theorem untT_more (ht : v.T.length = v.tl) (hl : v.N.length = v.nl) (e : v.nl = v.tl) {d : Int} : ∀ {k : Nat}, k ≤ v.tl → untT (more v ta tc t na nc x) d k = untT v d k
  | 0, _ => rfl
  | k + 1, hk => by
    have h1 : ndX (more v ta tc t na nc x).T (k : Int) d = ndX v.T (k : Int) d := ndX_more ht (by omega)
    have h2 := coI_more (v := v) (ta := ta) (na := na) (tc := tc) (nc := nc) (t := t) (x := x) hl (k := k) (by omega)
    have h3 := untT_more ht hl e (d := d) (k := k) (by omega)
    cases q : ndX v.T (k : Int) d with
    | true => rw [untT_in q, untT_in (h1.trans q), h2, h3]
    | false => rw [untT_not q, untT_not (h1.trans q), h3]
theorem jobN_more (ht : v.T.length = v.tl) (hJ : ∀ j ∈ v.J, 0 ≤ j.t ∧ j.t < v.tl) {d : Int} : jobN (more v ta tc t na nc x) d = jobN v d := by
  show (v.J.any fun j => ndX (v.T ++ [t]) j.t d) = v.J.any fun j => ndX v.T j.t d
  rw [Bool.eq_iff_iff, List.any_eq_true, List.any_eq_true]
  constructor
  · rintro ⟨j, hj, q⟩
    exact ⟨j, hj, by rw [← ndX_more (t := t) ht (hJ j hj).2]; exact q⟩
  · rintro ⟨j, hj, q⟩
    exact ⟨j, hj, by rw [ndX_more (t := t) ht (hJ j hj).2]; exact q⟩
theorem last_more (ht : v.T.length = v.tl) {d : Int} : ndX (more v ta tc t na nc x).T (v.tl : Int) d = ndB t d := by
  refine ndX_at (k := v.tl) ?_ d
  show (v.T ++ [t])[v.tl]? = some t
  rw [List.getElem?_append_right (by omega), ht]
  simp
theorem more_le (ht : v.T.length = v.tl) (hl : v.N.length = v.nl) (e : v.nl = v.tl) (hJ : ∀ j ∈ v.J, 0 ≤ j.t ∧ j.t < v.tl) (d : Int) : untI (more v ta tc t na nc x) d ≤ untI v d ∧ (ndB t d = false → untI (more v ta tc t na nc x) d = untI v d) := by
  have h1 := jobN_more (ta := ta) (na := na) (tc := tc) (nc := nc) (t := t) (x := x) ht hJ (d := d)
  cases q : jobN v d with
  | true =>
    rw [untI_job q, untI_job (h1.trans q)]
    exact ⟨Int.le_refl _, fun _ => rfl⟩
  | false =>
    rw [untI_not q, untI_not (h1.trans q)]
    have h2 := untT_more (ta := ta) (na := na) (tc := tc) (nc := nc) (t := t) (x := x) ht hl e (d := d) (Nat.le_refl v.tl)
    show untT (more v ta tc t na nc x) d (v.tl + 1) ≤ _ ∧ (_ → untT (more v ta tc t na nc x) d (v.tl + 1) = _)
    have h3 := last_more (ta := ta) (na := na) (tc := tc) (nc := nc) (t := t) (x := x) (d := d) ht
    cases z : ndB t d with
    | true =>
      rw [untT_in (h3.trans z), h2]
      exact ⟨mn_left _ _, fun q => by cases q⟩
    | false =>
      rw [untT_not (h3.trans z), h2]
      exact ⟨Int.le_refl _, fun _ => rfl⟩
end

/-! ### what is asked of every program -/

abbrev mZ : Mc := ⟨none, 0, 0, [], none, 0, 0, [], none, 0, 0, [], 0, 0, 0, 0, 0, 0⟩
abbrev tP (h : Nat) : Tk := ⟨4, 1, none, 0, 0, [], some ⟨h, 0, none⟩, 1, 1, [1]⟩
abbrev tQ : Tk := ⟨9, 1, none, 0, 0, [], none, 0, 0, []⟩
/-- two tasks, of which the first needs 1; without a job, and with one of the first -/
abbrev vP (h n : Nat) : Vw := ⟨mZ, some ⟨h + 1, 0, none⟩, 2, 2, [tP h, tQ], some ⟨n, 0, none⟩, 2, 2, [12, 3], none, 0, 0, [], none, 0, 0, [], 5⟩
abbrev vQ (h n j : Nat) : Vw := ⟨mZ, some ⟨h + 1, 0, none⟩, 2, 2, [tP h, tQ], some ⟨n, 0, none⟩, 2, 2, [12, 3], some ⟨j, 0, none⟩, 1, 1, [⟨0, 0, 0, 0, 0, false⟩], none, 0, 0, [], 5⟩
theorem vp_one (h n : Nat) : untI (vP h n) 1 = 12 := by rfl
theorem vp_zero (h n : Nat) : untI (vP h n) 0 = 1099511627776 := by rfl
theorem vq_one (h n j : Nat) : untI (vQ h n j) 1 = 5 := by rfl

/-- the blocks that are made ahead of the first numbers -/
structure Ap (h : Nat) (W : World) : Prop where
  d : W.heap[h]? = some (.cells #[.int .i64 1] 3 (0, 0))
  t : W.heap[h + 1]? = some (.cells #[.int .i64 4, .int .i64 1, .slice none 0 0, .slice (some ⟨h, 0, none⟩) 1 1, .int .i64 9, .int .i64 1, .slice none 0 0, .slice none 0 0] 39 (0, 0))
theorem Ap.kp {h : Nat} {W W' : World} (a : Ap h W) (k : Kp W W') : Ap h W' := ⟨kp_block a.d k, kp_block a.t k⟩
theorem Ap.tasks {h : Nat} {W : World} (a : Ap h W) : LAt W (some ⟨h + 1, 0, none⟩) 2 [tP h, tQ] := by
  refine RW.lat_block a.t rfl rfl (fun t ht => ?_) (by simp)
  simp only [List.mem_cons, List.not_mem_nil, or_false] at ht
  rcases ht with rfl | rfl
  · refine ⟨RW.no_nums _ _, RW.nat_block a.d rfl rfl (fun z hz => ?_) (by simp)⟩
    simp only [List.mem_cons, List.not_mem_nil, or_false] at hz
    subst hz
    unfold I64; omega
  · exact ⟨RW.no_nums _ _, RW.no_nums _ _⟩
theorem ap_nums {n : Nat} {W : World} (b : W.heap[n]? = some (.cells #[.int .i64 12, .int .i64 3] 3 (0, 0))) : NAt W (some ⟨n, 0, none⟩) 2 [12, 3] := by
  refine RW.nat_block b rfl rfl (fun z hz => ?_) (by simp)
  simp only [List.mem_cons, List.not_mem_nil, or_false] at hz
  rcases hz with rfl | rfl <;> (unfold I64; omega)
theorem ap_new (w : World) : ∃ W0, Hid (W0 = (w.alloc (.cells #[.int .i64 1] 3)).alloc (.cells #[.int .i64 4, .int .i64 1, .slice none 0 0, .slice (some ⟨w.heap.size, 0, none⟩) 1 1, .int .i64 9, .int .i64 1, .slice none 0 0, .slice none 0 0] 39)) ∧ Ap w.heap.size W0 ∧ Kp w W0 :=
  ⟨_, rfl, ⟨kp_block (heap_alloc_at _ _) ((Kp.refl _).alloc _), SK.alloc2_at _ _ _⟩, ((Kp.refl _).alloc _).alloc _⟩
theorem vp_lies {h : Nat} {W : World} (a : Ap h W) : UL (W.alloc (.cells #[.int .i64 12, .int .i64 3] 3)) (vP h W.heap.size) :=
  ⟨(a.kp ((Kp.refl _).alloc _)).tasks, ap_nums (heap_alloc_at _ _), no_js _, rfl⟩
theorem vq_lies {h : Nat} {W : World} (a : Ap h W) : UL ((W.alloc (.cells #[.int .i64 12, .int .i64 3] 3)).alloc (.cells #[.int .i64 0, .int .i64 0, .int .i64 0, .int .i64 0, .int .i64 0, .bool false] 41)) (vQ h W.heap.size (W.heap.size + 1)) := by
  refine ⟨(a.kp (((Kp.refl _).alloc _).alloc _)).tasks, ap_nums (kp_block (heap_alloc_at _ _) ((Kp.refl _).alloc _)), RW.jat_block (SK.alloc2_at _ _ _) rfl rfl (fun j hj => ?_) (by simp), rfl⟩
  simp only [List.mem_cons, List.not_mem_nil, or_false] at hj
  subst hj
  refine ⟨?_, ?_, ?_, ?_, ?_⟩ <;> (show I64 0; unfold I64; omega)

set_option maxRecDepth 100000 in
set_option maxHeartbeats 8000000 in
theorem ganswers_any (w : World) :
    Calls Try.prog 7 #[] w fun e w' => e = .returned (.bool true) ∧ Kp w w' := by
  obtain ⟨W0, HW, A0, K0⟩ := ap_new w
  have HA : Hid (∀ W, Kp W0 W → Ap w.heap.size W) := fun W q => A0.kp q
  have HK : Hid (Kp w W0) := K0
  have H1 : Hid (Calls Try.prog 8 #[.slice (some ⟨w.heap.size + 1, 0, none⟩) 2 2, .slice (some ⟨W0.heap.size, 0, none⟩) 2 2, .slice none 0 0, .int .i64 1, .int .i64 5] (W0.alloc (.cells #[.int .i64 12, .int .i64 3] 3))
      fun e w' => e = .returned (.int .i64 12) ∧ Kp W0 w') := by
    have y := until_any (vP w.heap.size W0.heap.size) 1 _ (vp_lies A0)
    rw [vp_one] at y
    exact y.mono fun e w' ⟨z1, z2⟩ => ⟨z1, ((Kp.refl _).alloc _).trans z2⟩
  have H2 : Hid (∀ W, Kp W0 W → Calls Try.prog 8 #[.slice (some ⟨w.heap.size + 1, 0, none⟩) 2 2, .slice (some ⟨W.heap.size, 0, none⟩) 2 2, .slice none 0 0, .int .i64 0, .int .i64 5] (W.alloc (.cells #[.int .i64 12, .int .i64 3] 3))
      fun e w' => e = .returned (.int .i64 1099511627776) ∧ Kp W w') := fun W q => by
    have y := until_any (vP w.heap.size W.heap.size) 0 _ (vp_lies (A0.kp q))
    rw [vp_zero] at y
    exact y.mono fun e w' ⟨z1, z2⟩ => ⟨z1, ((Kp.refl _).alloc _).trans z2⟩
  have H3 : Hid (∀ W, Kp W0 W → Calls Try.prog 8 #[.slice (some ⟨w.heap.size + 1, 0, none⟩) 2 2, .slice (some ⟨W.heap.size, 0, none⟩) 2 2, .slice (some ⟨W.heap.size + 1, 0, none⟩) 1 1, .int .i64 1, .int .i64 5] ((W.alloc (.cells #[.int .i64 12, .int .i64 3] 3)).alloc (.cells #[.int .i64 0, .int .i64 0, .int .i64 0, .int .i64 0, .int .i64 0, .bool false] 41))
      fun e w' => e = .returned (.int .i64 5) ∧ Kp W w') := fun W q => by
    have y := until_any (vQ w.heap.size W.heap.size (W.heap.size + 1)) 1 _ (vq_lies (A0.kp q))
    rw [vq_one] at y
    exact y.mono fun e w' ⟨z1, z2⟩ => ⟨z1, (((Kp.refl _).alloc _).alloc _).trans z2⟩
  have H1' := H1.out
  rw [show W0.heap.size = w.heap.size + 1 + 1 from by rw [HW.out]; simp] at H1'
  have H1'' : Hid _ := H1'
  clear A0 K0 H1 H1'
  go_enter Try.func7, Try.ntmps7
  go_wp2_with fail
  rw [← HW.out]
  clear HW
  refine Calls.mono H1''.out ?_
  rintro e w1 ⟨rfl, k1⟩
  have HK1 : Hid (Kp W0 w1) := k1
  clear H1'' k1
  go_wp2_with fail
  refine Calls.mono (H2.out _ HK1.out) ?_
  rintro e w2 ⟨rfl, k2⟩
  have HK2 : Hid (Kp W0 w2) := HK1.out.trans k2
  clear H2 k2
  go_wp2_with fail
  refine Calls.mono (H3.out _ HK2.out) ?_
  rintro e w3 ⟨rfl, k3⟩
  have HK3 : Hid (Kp W0 w3) := HK2.out.trans k3
  clear H3 k3
  go_wp2
  go_ret
  exact ⟨rfl, HK.out.trans HK3.out⟩

end Go.Proofs.Ytilafcplijgjjaa.PN
