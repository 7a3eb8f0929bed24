/- A list of jobs sorted by the library's SortFunc with the program's own order: the order walked, the library's contract laid. -/
import Derived.Test.YtphaedkmijdphaaRdyMem
import Derived.Test.YtphaedkmijdphaaRdyLay
namespace Go.Proofs.Ytphaedkmijdphaa.RD
open Go.ChangeShapes Go.WideShapes Go.ChangeAt Go.RowKit Go.Proofs.Ytphaedkmijdphaa.AR Go.Proofs.Ytphaedkmijdphaa.HP Go.Proofs.Ytphaedkmijdphaa.HM Go.Sort

/-- only new blocks, and draws -/
def Gr (w w' : World) : Prop := ∃ q os, w' = grow (w.drewN q) os
theorem Gr.refl (w : World) : Gr w w := ⟨0, #[], by simp [World.drewN]⟩
theorem Gr.alloc {w w' : World} (h : Gr w w') (o : Obj) : Gr w (w'.alloc o) := by
  obtain ⟨q, os, rfl⟩ := h
  exact ⟨q, os ++ #[o], by rw [alloc_eq_grow, grow_grow]⟩
theorem Gr.drewN {w w' : World} (h : Gr w w') (n : Nat) : Gr w (w'.drewN n) := by
  obtain ⟨q, os, rfl⟩ := h
  refine ⟨q + n, os, ?_⟩
  show grow ((w.drewN q).drewN n) os = _
  congr 1
  simp [World.drewN, Nat.add_assoc]
theorem Gr.drew {w w' : World} (h : Gr w w') : Gr w w'.drew := h.drewN 1
theorem Gr.trans {a b c : World} (h : Gr a b) (k : Gr b c) : Gr a c := by
  obtain ⟨q, os, rfl⟩ := k
  have h1 := h.drewN q
  obtain ⟨p, os', e⟩ := h1
  exact ⟨p, os' ++ os, by rw [e, grow_grow]⟩
theorem Gr.kp {w w' : World} (h : Gr w w') : Kp w w' := by
  obtain ⟨q, os, rfl⟩ := h
  exact ⟨rfl, rfl, rfl, by simp, fun k hk _ => heap_grow_old _ _ hk⟩

def cmpI (x y : Int) : Int := if x < y then -1 else if y < x then 1 else 0
/-- the first of two that is not 0 -/
def orI (x y : Int) : Int := if x = 0 then y else x
/-- the program's order -/
def urgI (a b : Jb) : Int := orI (cmpI a.d b.d) (cmpI a.t b.t)

theorem cmpI_bd (x y : Int) : -1 ≤ cmpI x y ∧ cmpI x y ≤ 1 := by unfold cmpI; split <;> (try split) <;> omega
theorem urgI_lt (a b : Jb) : (decide (urgI a b < 0)) = ltJ a b := by
  rw [Bool.eq_iff_iff, ltJ_iff, decide_eq_true_iff]
  unfold urgI orI cmpI
  split <;> split <;> (try split) <;> (try split) <;> omega

theorem nan_any (x : Int) (w : World) :
    Calls Try.prog 47 #[.int .i64 x] w fun e w' => e = .returned (.bool false) ∧ w = w' := by
  go_enter Try.func47, Try.ntmps47
  go_wp2
  go_ret
  exact ⟨by simp, rfl⟩

theorem compare_any (x y : Int) (w : World) :
    Calls Try.prog 34 #[.int .i64 x, .int .i64 y] w fun e w' => e = .returned (.int .i64 (cmpI x y)) ∧ w = w' := by
  obtain ⟨c, hc⟩ : ∃ c, cmpI x y = c := ⟨_, rfl⟩
  rw [hc]
  have HC : Hid (cmpI x y = c) := hc
  clear hc
  by_cases h1 : x < y
  · have e : c = -1 := by rw [← HC.out]; unfold cmpI; rw [if_pos h1]
    subst e
    go_enter Try.func34, Try.ntmps34
    go_wp2_with (go_at_call 47; refine (nan_any _ _).mono ?_; rintro e w' ⟨rfl, rfl⟩)
    go_ret
    exact ⟨rfl, rfl⟩
  · by_cases h2 : y < x
    · have e : c = 1 := by rw [← HC.out]; unfold cmpI; rw [if_neg h1, if_pos h2]
      subst e
      go_enter Try.func34, Try.ntmps34
      go_wp2_with (go_at_call 47; refine (nan_any _ _).mono ?_; rintro e w' ⟨rfl, rfl⟩)
      go_ret
      exact ⟨rfl, rfl⟩
    · have e : c = 0 := by rw [← HC.out]; unfold cmpI; rw [if_neg h1, if_neg h2]
      subst e
      go_enter Try.func34, Try.ntmps34
      go_wp2_with (go_at_call 47; refine (nan_any _ _).mono ?_; rintro e w' ⟨rfl, rfl⟩)
      go_ret
      exact ⟨rfl, rfl⟩

/-- the first of two that is not 0 -/
theorem or_any (g : Nat) (x y : Int) (w : World) (h0 : w.cell? ⟨g, 0, none⟩ = some (.int .i64 x)) (h1 : w.cell? ⟨g, 1, none⟩ = some (.int .i64 y)) :
    Calls Try.prog 33 #[.slice (some ⟨g, 0, none⟩) 2 2] w fun e w' => e = .returned (.int .i64 (orI x y)) ∧ w = w' := by
  by_cases hx : x = 0
  · subst hx
    have e : orI 0 y = y := if_pos rfl
    rw [e]
    clear e
    by_cases hy : y = 0
    · subst hy
      go_enter Try.func33, Try.ntmps33
      go_wp2
      refine wp_loop_rounds 3 ?_
      rw [rounds_succ]
      go_wp2
      rw [rounds_succ]
      go_wp2
      rw [rounds_succ]
      go_wp2
      go_ret
      exact ⟨rfl, rfl⟩
    · have q : (y == 0) = false := beq_eq_false_iff_ne.2 hy
      go_enter Try.func33, Try.ntmps33
      go_wp2
      refine wp_loop_rounds 2 ?_
      rw [rounds_succ]
      go_wp2
      rw [rounds_succ]
      go_wp2
      go_ret
      exact ⟨rfl, rfl⟩
  · have e : orI x y = x := if_neg hx
    rw [e]
    clear e
    have q : (x == 0) = false := beq_eq_false_iff_ne.2 hx
    go_enter Try.func33, Try.ntmps33
    go_wp2
    refine wp_loop_rounds 1 ?_
    rw [rounds_succ]
    go_wp2
    go_ret
    exact ⟨rfl, rfl⟩

theorem two_at (W : World) (x y : Value) (t : TypeId) : (W.alloc (.cells #[x, y] t)).drew.cell? ⟨W.heap.size, 0, none⟩ = some x ∧ (W.alloc (.cells #[x, y] t)).drew.cell? ⟨W.heap.size, 1, none⟩ = some y := by
  have h : (W.alloc (.cells #[x, y] t)).drew.heap[W.heap.size]? = some (.cells #[x, y] t) := alloc_at W _
  constructor <;> (unfold World.cell?; rw [h]; rfl)

set_option maxHeartbeats 4000000 in
theorem urgency_any (a b : Jb) (w : World) :
    Calls Try.prog 27 #[.agg #[.int .i64 a.t, .int .i64 a.r, .int .i64 a.d, .int .i64 a.l, .int .i64 a.x, .bool a.s], .agg #[.int .i64 b.t, .int .i64 b.r, .int .i64 b.d, .int .i64 b.l, .int .i64 b.x, .bool b.s]] w fun e w' => e = .returned (.int .i64 (urgI a b)) ∧ Gr w w' := by
  have HU : Hid (urgI a b = orI (cmpI a.d b.d) (cmpI a.t b.t)) := rfl
  rw [HU.out]
  obtain ⟨W0, HW⟩ : ∃ W0, Hid (W0 = (w.alloc (.cells #[.int .i64 a.t, .int .i64 a.r, .int .i64 a.d, .int .i64 a.l, .int .i64 a.x, .bool a.s] 27)).alloc (.cells #[.int .i64 b.t, .int .i64 b.r, .int .i64 b.d, .int .i64 b.l, .int .i64 b.x, .bool b.s] 27)) := ⟨_, rfl⟩
  have HG : Hid (Gr w W0) := by show Gr w W0; rw [HW.out]; exact ((Gr.refl w).alloc _).alloc _
  have ba : BJ W0 w.heap.size a := ⟨by rw [HW.out, Below.heap_alloc _ _ _ (by simp)]; exact alloc_at w _⟩
  have bb : BJ W0 (w.heap.size + 1) b := ⟨by rw [HW.out]; have := alloc_at (w.alloc (.cells #[.int .i64 a.t, .int .i64 a.r, .int .i64 a.d, .int .i64 a.l, .int .i64 a.x, .bool a.s] 27)) (.cells #[.int .i64 b.t, .int .i64 b.r, .int .i64 b.d, .int .i64 b.l, .int .i64 b.x, .bool b.s] 27); simpa using this⟩
  go_enter Try.func27, Try.ntmps27
  go_wp2_with fail
  rw [← HW.out]
  obtain ⟨p0, p1, p2, p3, p4, p5⟩ := ba.all
  obtain ⟨q0, q1, q2, q3, q4, q5⟩ := bb.all
  go_region_held3 (fun w' => w'.cell? ⟨w.heap.size, 0, none⟩ = some (.int .i64 a.t) ∧ w'.cell? ⟨w.heap.size, 2, none⟩ = some (.int .i64 a.d) ∧ w'.cell? ⟨w.heap.size + 1, 0, none⟩ = some (.int .i64 b.t) ∧ w'.cell? ⟨w.heap.size + 1, 2, none⟩ = some (.int .i64 b.d)) (go_keep) (first
    | (go_at_call 34; refine (compare_any _ _ _).mono ?_; rintro e w3 ⟨rfl, rfl⟩)
    | (go_at_call 33; refine (or_any _ (cmpI a.d b.d) (cmpI a.t b.t) _ (two_at _ _ _ _).1 (two_at _ _ _ _).2).mono ?_; rintro e w3 ⟨rfl, rfl⟩)
    | fail)
  go_wp2
  go_ret
  exact ⟨rfl, (HG.out.alloc _).drew⟩

/-! ### a row of jobs, as the library's contract speaks of it -/

abbrev T6 := Int × Int × Int × Int × Int × Bool
def tup (j : Jb) : T6 := (j.t, j.r, j.d, j.l, j.x, j.s)
def job (a : T6) : Jb := ⟨a.1, a.2.1, a.2.2.1, a.2.2.2.1, a.2.2.2.2.1, a.2.2.2.2.2⟩
theorem job_tup (j : Jb) : job (tup j) = j := rfl
theorem tup_job (a : T6) : tup (job a) = a := rfl
def encT (a : T6) : List Value := [.int .i64 a.1, .int .i64 a.2.1, .int .i64 a.2.2.1, .int .i64 a.2.2.2.1, .int .i64 a.2.2.2.2.1, .bool a.2.2.2.2.2]
def urgT (a b : T6) : Int := urgI (job a) (job b)

theorem urgT_lt (a b : T6) : ltOf urgT a b = ltJ (job a) (job b) := urgI_lt (job a) (job b)
theorem urgT_swo : SWO (ltOf urgT) := by
  refine ⟨fun x => ?_, fun x y z h1 h2 => ?_, fun x y z h1 h2 => ?_⟩
  · rw [urgT_lt, ltJ_false]; omega
  · rw [urgT_lt] at *; rw [ltJ_iff] at *; omega
  · rw [urgT_lt] at *; rw [ltJ_false] at *; omega

theorem flatJ_at {L : List Jb} {t : Nat} (h : t < L.length * 6) : (flatJ L)[t]? = some ((encT (tup (atJ L (t / 6))))[t % 6]!) := by
  have hi : t / 6 < L.length := by omega
  obtain ⟨q0, q1, q2, q3, q4, q5⟩ := flatJ_get L (t / 6) hi
  have hm : t % 6 = 0 ∨ t % 6 = 1 ∨ t % 6 = 2 ∨ t % 6 = 3 ∨ t % 6 = 4 ∨ t % 6 = 5 := by omega
  rcases hm with e | e | e | e | e | e
  · have : t = t / 6 * 6 := by omega
    rw [e]; conv => lhs; rw [this]
    rw [q0]; rfl
  · have : t = t / 6 * 6 + 1 := by omega
    rw [e]; conv => lhs; rw [this]
    rw [q1]; rfl
  · have : t = t / 6 * 6 + 2 := by omega
    rw [e]; conv => lhs; rw [this]
    rw [q2]; rfl
  · have : t = t / 6 * 6 + 3 := by omega
    rw [e]; conv => lhs; rw [this]
    rw [q3]; rfl
  · have : t = t / 6 * 6 + 4 := by omega
    rw [e]; conv => lhs; rw [this]
    rw [q4]; rfl
  · have : t = t / 6 * 6 + 5 := by omega
    rw [e]; conv => lhs; rw [this]
    rw [q5]; rfl

theorem flat_of (d : Array T6) : (flatK encT 6 d).toList = flatJ (d.toList.map job) := by
  apply List.ext_getElem?
  intro t
  by_cases h : t < d.size * 6
  · rw [flatJ_at (by simpa using h)]
    have hi : t / 6 < d.size := by omega
    rw [List.getElem?_eq_getElem (by simpa using h), Array.getElem_toList]
    have := get_flatK encT 6 d t h
    rw [getElem!_pos _ t (by simpa using h)] at this
    rw [this]
    congr 3
    rw [getElem!_pos d _ hi]
    simp [atJ, hi, tup_job]
  · rw [List.getElem?_eq_none (by simp; omega), List.getElem?_eq_none (by rw [flatJ_len]; simp; omega)]

theorem putCells_take (F cur : Array Value) (h : F.size ≤ cur.size) : (putCells id 0 F cur).toList.take F.size = F.toList := by
  apply List.ext_getElem?
  intro i
  rw [List.getElem?_take]
  by_cases hi : i < F.size
  · rw [if_pos hi]
    simp [putCells, hi, Array.getElem?_eq_getElem (Nat.lt_of_lt_of_le hi h)]
  · rw [if_neg hi, List.getElem?_eq_none (by simp; omega)]

theorem putCells_size (F cur : Array Value) : (putCells id 0 F cur).size = cur.size := by simp [putCells]

/-- a row that holds other jobs, as many -/
theorem row_sorted {w : World} {base g cap n m : Nat} {L : List Jb} {d : Array T6} {os : Array Obj} (h : w.ownsRow base 27 6 (.slice (some ⟨g, 0, none⟩) n cap) n (flatJ L)) (hd : d.size = n) :
    (sortWorldK encT 6 w g 0 m d os).ownsRow base 27 6 (.slice (some ⟨g, 0, none⟩) n cap) n (flatJ (d.toList.map job)) ∧ Step (fun k => k = g) w (sortWorldK encT 6 w g 0 m d os) := by
  refine ⟨⟨by rw [flatJ_len]; simp [hd], ?_⟩, ?_⟩
  · rcases h.2 with ⟨q, _⟩ | ⟨g', cap', cur, q, hb, hg, hnc, hcm, hcs, htake⟩
    · simp at q
    · simp only [Value.slice.injEq, Option.some.injEq, Addr.mk.injEq, and_true, true_and] at q
      obtain ⟨rfl, rfl⟩ := q
      have hF : (flatK encT 6 d).size = n * 6 := by rw [size_flatK, hd]
      refine .inr ⟨g, cap, putCells id 0 (flatK encT 6 d) cur, rfl, hb, ?_, hnc, hcm, by rw [putCells_size]; exact hcs, ?_⟩
      · unfold sortWorldK
        rw [heap_grow_old _ _ (by show g < (putRowK encT 6 (Sort.ahead w m) g 0 d).heap.size; simp only [putRowK, putRow, mapBlock, Array.size_modify]; exact lt_of_block hg)]
        simp only [putRowK, putRow, mapBlock]
        rw [Array.getElem?_modify, if_pos rfl]
        show Option.map _ w.heap[g]? = _
        rw [hg]
        rfl
      · rw [← hF, putCells_take _ _ (by rw [hF, hcs]; exact Nat.mul_le_mul_right 6 hnc), flat_of]
  · refine ⟨rfl, rfl, rfl, ?_, fun k hk hA => ?_⟩
    · unfold sortWorldK
      rw [size_grow]
      simp only [putRowK, putRow, mapBlock, Array.size_modify]
      exact Nat.le_add_right _ _
    · unfold sortWorldK
      rw [heap_grow_old _ _ (by simp only [putRowK, putRow, mapBlock, Array.size_modify]; exact hk)]
      simp only [putRowK, putRow, mapBlock]
      rw [Array.getElem?_modify, if_neg (fun e => hA e.symm)]
      rfl

theorem row_holds {w : World} {base g cap n : Nat} {L : List Jb} (h : w.ownsRow base 27 6 (.slice (some ⟨g, 0, none⟩) n cap) n (flatJ L)) (hl : L.length = n) : HoldsK encT 6 w g 0 (L.map tup).toArray := by
  intro j hj
  have hj' : j < n * 6 := by simpa [hl] using hj
  refine ⟨?_, by rw [Nat.zero_add]; exact h.frozenAt j⟩
  rw [Nat.zero_add, h.cellAt j hj']
  have e := flat_of (L.map tup).toArray
  have e2 : ((L.map tup).toArray.toList.map job) = L := by simp [Function.comp_def, job_tup]
  rw [e2] at e
  rw [← e, getElem!_pos _ j hj]
  simp

theorem perm_of {d d' : Array T6} (h : PermIn 0 d.size d d') : d'.toList.Perm d.toList := by
  obtain ⟨hs, _, hp⟩ := h
  rw [Array.extract_eq_self_of_le (by omega)] at hp
  have e : d.extract 0 d.size = d := Array.extract_eq_self_of_le (by omega)
  rw [e] at hp
  exact hp

theorem sorted_of {d : Array T6} (hs : SortedIn (ltOf urgT) 0 d.size d) (hn : (tks (d.toList.map job)).Nodup) : SJ (d.toList.map job) := by
  unfold SJ
  rw [List.pairwise_iff_getElem]
  intro i j hi hj hij
  have hi' : i < d.size := by simpa using hi
  have hj' : j < d.size := by simpa using hj
  have h1 := hs i j (Nat.zero_le _) hij hj'
  rw [getElem!_pos d i hi', getElem!_pos d j hj', urgT_lt] at h1
  simp only [List.getElem_map, Array.getElem_toList]
  cases q : ltJ (job d[i]) (job d[j]) with
  | true => rfl
  | false =>
    exfalso
    have e := ltB_total q h1
    have e1 : (job d[i]).t = (job d[j]).t := show (pr (job d[i])).1 = (pr (job d[j])).1 by rw [e]
    have hp := (List.pairwise_iff_getElem.1 (List.nodup_iff_pairwise_ne.1 hn)) i j (by simpa [tks] using hi') (by simpa [tks] using hj') hij
    apply hp
    simpa [tks] using e1

theorem aggJ (w : World) : (isAgg 27).run Try.prog w = .ok true w := Try.isAgg27 w
theorem sizeJ (w : World) : (Go.sizeOf 27).run Try.prog w = .ok 6 w := Try.sizeOf27 w

/-- jobs of different tasks, sorted by the program's order -/
theorem sort_any (base g cap : Nat) (L : List Jb) (w : World) (h : Ls w base (.slice (some ⟨g, 0, none⟩) L.length cap) L) (hn : (tks L).Nodup) :
    Calls Try.prog 26 #[.slice (some ⟨g, 0, none⟩) L.length cap, .func (.func 27) #[] #[]] w fun e w' => e = .returned (.tuple #[]) ∧ ∃ M, SJ M ∧ M.Perm L ∧ Ls w' base (.slice (some ⟨g, 0, none⟩) L.length cap) M ∧ Step (fun k => k = g) w w' := by
  have eg : ∀ args w, (callFunc 27 args).run Try.prog w = .ok (.enter 27 args) w := enters_of Try.func27 (by kernel_rfl) rfl
  have hz : (L.map tup).toArray.size = L.length := by simp
  have hc : CmpLays Try.prog 27 #[] encT 6 urgT g 0 (L.map tup).toArray.size w := fun m os dk _ x y => (urgency_any (job x) (job y) _).mono fun e w' ⟨he, hw⟩ => ⟨he, hw⟩
  have hcon := AnyQ.slices_SortFunc sortJob 6 aggJ sizeJ encT (fun _ => rfl) (fun x v hv => by simp [encT] at hv; rcases hv with rfl | rfl | rfl | rfl | rfl | rfl <;> rfl) urgT urgT_swo 27 #[] g 0 cap (L.map tup).toArray w eg hc (row_holds h.row rfl) ((h.row.lt g rfl).2) (by rw [hz]; have := h.len; omega)
  rw [hz] at hcon
  change Calls Try.prog 26 _ _ _ at hcon
  refine hcon.mono ?_
  rintro e w' ⟨rfl, d', n, os, hp, hs, rfl⟩
  rw [← hz] at hp
  have hp' := (perm_of hp).map job
  have e2 : ((L.map tup).toArray.toList.map job) = L := by simp [Function.comp_def, job_tup]
  rw [e2] at hp'
  have hd : d'.size = L.length := by have := hp.1; rw [hz] at this; exact this
  rw [← hd] at hs
  have hr := row_sorted (m := n) (os := os) h.row hd
  refine ⟨rfl, _, sorted_of hs ((hp'.map _).nodup_iff.2 hn), hp', ⟨?_, ?_⟩, hr.2⟩
  · have : (d'.toList.map job).length = L.length := by simp [hd]
    rw [this]; exact hr.1
  · have : (d'.toList.map job).length = L.length := by simp [hd]
    rw [this]; exact h.len

end Go.Proofs.Ytphaedkmijdphaa.RD
