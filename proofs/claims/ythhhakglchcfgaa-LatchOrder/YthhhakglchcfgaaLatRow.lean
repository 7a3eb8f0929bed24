/- The statement's lists of calls: four numbers each; what its waits and first answer. -/
import Derived.Test.YthhhakglchcfgaaLatAns
import Derived.OwnWalk
import Derived.Maps.AppendAt
import Derived.Deep.AppendLies
import Derived.Laws.OwnMore
import Derived.BigRegion
import Derived.BigQuiet
namespace Go.Proofs.Ythhhakglchcfgaa.LT
open Go.ChangeShapes Go.WideShapes Go.ChangeAt Go.RowKit Go.Proofs.Ythhhakglchcfgaa.HP Go.Maps Go.Proofs.Ythhhakglchcfgaa.HM Go.Proofs.Ythhhakglchcfgaa.HW Go.Proofs.Ythhhakglchcfgaa.AR

/-- a call: its kind, its task, its moment, its cycles -/
abbrev O4 := Int × Int × Int × Int

/-- what waits, by the calls that put it -/
def tl (M : List O4) : List T3 := M.map (·.2)
theorem tl_len (M : List O4) : (tl M).length = M.length := by simp [tl]
theorem tl_snoc (M : List O4) (x : O4) : tl (M ++ [x]) = tl M ++ [x.2] := by simp [tl]

def atO (M : List O4) (i : Nat) : O4 := M.getD i (0, 0, 0, 0)
theorem atO_get {M : List O4} {i : Nat} (h : i < M.length) : atO M i = M[i] := by simp [atO, h]
theorem atO_mem {M : List O4} {i : Nat} (h : i < M.length) : atO M i ∈ M := by rw [atO_get h]; exact List.getElem_mem h
theorem mem_atO {M : List O4} {x : O4} (h : x ∈ M) : ∃ i, i < M.length ∧ atO M i = x := by
  obtain ⟨i, hi, e⟩ := List.getElem_of_mem h
  exact ⟨i, hi, by rw [atO_get hi]; exact e⟩

/-- the cells of a row of calls -/
def flatO : List O4 → List Value
  | [] => []
  | e :: r => .int .i64 e.1 :: .int .i64 e.2.1 :: .int .i64 e.2.2.1 :: .int .i64 e.2.2.2 :: flatO r

theorem flatO_len : ∀ M : List O4, (flatO M).length = M.length * 4
  | [] => rfl
  | e :: r => by simp [flatO, flatO_len r]; omega
theorem flatO_append : ∀ (L M : List O4), flatO (L ++ M) = flatO L ++ flatO M
  | [], M => rfl
  | e :: r, M => by simp [flatO, flatO_append r M]
theorem flatO_get : ∀ (M : List O4) (i : Nat), i < M.length → (flatO M)[i * 4]? = some (.int .i64 (atO M i).1) ∧ (flatO M)[i * 4 + 1]? = some (.int .i64 (atO M i).2.1) ∧ (flatO M)[i * 4 + 2]? = some (.int .i64 (atO M i).2.2.1) ∧ (flatO M)[i * 4 + 3]? = some (.int .i64 (atO M i).2.2.2)
  | [], i, h => by simp at h
  | e :: r, 0, _ => by simp [flatO, atO]
  | e :: r, i + 1, h => by
    have := flatO_get r i (by simpa using h)
    rw [show (i + 1) * 4 = i * 4 + 1 + 1 + 1 + 1 from by omega]
    simp only [flatO, List.getElem?_cons_succ]
    simpa [atO] using this
theorem flatO_one : ∀ (M : List O4) (v : Value), v ∈ flatO M → v.oneCell' = true
  | [], v, h => by simp [flatO] at h
  | e :: r, v, h => by
    simp only [flatO, List.mem_cons] at h
    rcases h with rfl | rfl | rfl | rfl | h
    · rfl
    · rfl
    · rfl
    · rfl
    · exact flatO_one r v h
theorem flatO_take (M : List O4) (k q : Nat) (u : Value) (h : (flatO (M.take k))[q]? = some u) : (flatO M)[q]? = some u := by
  have e : flatO M = flatO (M.take k) ++ flatO (M.drop k) := by rw [← flatO_append, List.take_append_drop]
  rw [e, List.getElem?_append_left (List.getElem?_eq_some_iff.1 h).1]
  exact h
theorem flatO_drop (M : List O4) (k : Nat) (hk : k ≤ M.length) (q : Nat) (u : Value) (h : (flatO (M.drop k))[q]? = some u) : (flatO M)[k * 4 + q]? = some u := by
  have e : flatO M = flatO (M.take k) ++ flatO (M.drop k) := by rw [← flatO_append, List.take_append_drop]
  have hl : (flatO (M.take k)).length = k * 4 := by rw [flatO_len, List.length_take]; congr 1; omega
  rw [e, List.getElem?_append_right (by omega), hl, show k * 4 + q - k * 4 = q from by omega]
  exact h

theorem op_info : (Try.prog.info? 26).map (fun i => (i.zero, i.size, i.bytes)) = some (some (.agg #[.int .i64 0, .int .i64 0, .int .i64 0, .int .i64 0]), 4, 32) := by kernel_rfl

/-! ### a list that lies there -/

structure OAt (w : World) (ao : Option Addr) (len : Nat) (M : List O4) : Prop where
  ln : M.length = len
  row : len = 0 ∨ ∃ b off, ao = some ⟨b, off, none⟩ ∧ b < w.heap.size ∧ ∀ q u, (flatO M)[q]? = some u → w.cell? ⟨b, off + q, none⟩ = some u

theorem OAt.kept {w w' : World} {ao : Option Addr} {len : Nat} {M : List O4} (h : OAt w ao len M) (s : Step (fun _ => False) w w') : OAt w' ao len M := by
  refine ⟨h.ln, ?_⟩
  rcases h.row with h0 | ⟨b, off, e, hb, hc⟩
  · exact .inl h0
  · exact .inr ⟨b, off, e, Nat.lt_of_lt_of_le hb s.size, fun q u hq => by rw [World.cell?_of_block (w := w) (s.block b hb (fun q => q))]; exact hc q u hq⟩

/-- a call lies there -/
structure C4 (w : World) (g o : Nat) (x : O4) : Prop where
  k : w.cell? ⟨g, o, none⟩ = some (.int .i64 x.1)
  t : w.cell? ⟨g, o + 1, none⟩ = some (.int .i64 x.2.1)
  a : w.cell? ⟨g, o + 2, none⟩ = some (.int .i64 x.2.2.1)
  c : w.cell? ⟨g, o + 3, none⟩ = some (.int .i64 x.2.2.2)

theorem OAt.pos {w : World} {ao : Option Addr} {len : Nat} {M : List O4} (h : OAt w ao len M) (hp : 0 < len) : ∃ b off, ao = some ⟨b, off, none⟩ ∧ b < w.heap.size ∧ ∀ i, i < len → C4 w b (off + i * 4) (atO M i) := by
  rcases h.row with h0 | ⟨b, off, e, hb, hc⟩
  · omega
  · refine ⟨b, off, e, hb, fun i hi => ?_⟩
    obtain ⟨c0, c1, c2, c3⟩ := flatO_get M i (by rw [h.ln]; exact hi)
    exact ⟨hc _ _ c0, by rw [Nat.add_assoc]; exact hc _ _ c1, by rw [Nat.add_assoc]; exact hc _ _ c2, by rw [Nat.add_assoc]; exact hc _ _ c3⟩

/-- a row of the call's own, as a list -/
theorem oat_row {w : World} {base : Nat} {v : Value} {M : List O4} (h : w.ownsRow base 26 4 v M.length (flatO M)) : ∃ ao cap, v = .slice ao M.length cap ∧ OAt w ao M.length M ∧ M.length ≤ cap ∧ cap ≤ maxLen := by
  rcases h.2 with ⟨hv, hn⟩ | ⟨g, cap, cur, rfl, hb, hg, hnc, hcm, r⟩
  · refine ⟨none, 0, by rw [hv, hn], ⟨rfl, .inl hn⟩, by omega, by unfold maxLen; omega⟩
  · refine ⟨some ⟨g, 0, none⟩, cap, rfl, ⟨rfl, .inr ⟨g, 0, rfl, lt_of_block hg, fun q u hq => ?_⟩⟩, hnc, hcm⟩
    have hl : q < M.length * 4 := by
      have := (List.getElem?_eq_some_iff.1 hq).1
      rw [flatO_len] at this
      exact this
    rw [Nat.zero_add, h.cellAt q hl]
    exact hq

/-! ### waits -/

theorem not_yet {M : List O4} {k : Nat} {task : Int} (h : ∀ i, i < k → (atO M i).2.1 ≠ task) (hn : (atO M k).2.1 ≠ task) : ∀ i, i < k + 1 → (atO M i).2.1 ≠ task := fun i hi => by
  by_cases e : i = k
  · subst e; exact hn
  · exact h i (by omega)

theorem idt_at {M : List O4} {k : Nat} (h : k < M.length) : (atO M k).2.1 ∈ idt (tl M) := by
  refine List.mem_map.2 ⟨(atO M k).2, List.mem_map_of_mem (atO_mem h), rfl⟩
theorem idt_none {M : List O4} {task : Int} (h : ∀ i, i < M.length → (atO M i).2.1 ≠ task) : task ∉ idt (tl M) := by
  intro q
  obtain ⟨t, ht, e⟩ := List.mem_map.1 q
  obtain ⟨x, hx, rfl⟩ := List.mem_map.1 ht
  obtain ⟨i, hi, rfl⟩ := mem_atO hx
  exact h i hi e

/-- so far none is of that task -/
def Not (M : List O4) (task : Int) (k : Nat) : Prop := ∀ i, i < k → (atO M i).2.1 ≠ task

set_option maxHeartbeats 2000000 in
theorem has_any (ao : Option Addr) (len cap : Nat) (M : List O4) (task : Int) (w : World) (h : OAt w ao len M) (hl : len ≤ 4398046511104) :
    Calls Try.prog 8 #[.slice ao len cap, .int .i64 task] w fun e w' => e = .returned (.bool (decide (task ∈ idt (tl M)))) ∧ w' = w := by
  have hln : Hid (M.length = len) := h.ln
  obtain ⟨dq, hdq⟩ : ∃ dq, Hid (decide (task ∈ idt (tl M)) = dq) := ⟨_, rfl⟩
  rw [hdq.out]
  go_enter Try.func8, Try.ntmps8
  go_wp2
  go_loop [5] (fun i => ∃ k : Nat, k ≤ len ∧ i = .int .i64 k ∧ Not M task k) (fun i => len - (intOf i).toNat)
  case atStart => exact ⟨0, Nat.zero_le _, rfl, fun i hi => by omega⟩
  case round =>
    obtain ⟨k, hk, rfl, hno⟩ := hrel
    by_cases hlt : k < len
    · have hlt' : (k : Int) < (len : Int) := by omega
      obtain ⟨b, off, rfl, hb, hc⟩ := h.pos (by omega)
      have c1 := (hc k hlt).t
      by_cases e : (atO M k).2.1 = task
      · have eb : ((atO M k).2.1 == task) = true := by simp [e]
        have HI : Hid (dq = true) := hdq.out.symm.trans <| decide_eq_true (e ▸ idt_at (by rw [hln.out]; exact hlt))
        clear hc e
        go_wp2
        go_ret
        obtain rfl := HI.out
        exact ⟨rfl, rfl⟩
      · have eb : ((atO M k).2.1 == task) = false := by simpa using e
        have HN : Not M task (k + 1) := not_yet hno e
        clear hc e
        go_wp2
        go_round
        case rel => exact ⟨k + 1, by omega, by go_num, HN⟩
        case measure => simp [intOf]; omega
    · have hlt' : ¬ (k : Int) < (len : Int) := by omega
      have HI : Hid (dq = false) := hdq.out.symm.trans <| decide_eq_false (idt_none (fun i hi => hno i (by rw [hln.out] at hi; omega)))
      go_wp2
      go_ret
      obtain rfl := HI.out
      exact ⟨rfl, rfl⟩

/-! ### first -/

/-- of the first k b is the index of what comes first by now, or -1 -/
def Fi (M : List O4) (now : Int) (k : Nat) (b : Int) : Prop :=
  (b = -1 ∧ ∀ i, i < k → now < (atO M i).2.2.1) ∨ ∃ j, j < k ∧ b = (j : Int) ∧ (atO M j).2.2.1 ≤ now ∧ ∀ i, i < k → (atO M i).2.2.1 ≤ now → ltB (pr (atO M i).2) (pr (atO M j).2) = false

theorem fi_zero (M : List O4) (now : Int) : Fi M now 0 (-1) := .inl ⟨rfl, fun i hi => by omega⟩

theorem up_to {P : Nat → Prop} {k : Nat} (h : ∀ i, i < k → P i) (hk : P k) : ∀ i, i < k + 1 → P i := fun i hi => by
  by_cases e : i = k
  · subst e; exact hk
  · exact h i (by omega)

theorem fi_late {M : List O4} {now : Int} {k : Nat} {b : Int} (h : Fi M now k b) (hl : now < (atO M k).2.2.1) : Fi M now (k + 1) b := by
  rcases h with ⟨hb, hn⟩ | ⟨j, hj, hb, hd, hm⟩
  · exact .inl ⟨hb, up_to hn hl⟩
  · exact .inr ⟨j, by omega, hb, hd, up_to hm (fun q => by omega)⟩
theorem fi_one {M : List O4} {now : Int} {k : Nat} (hn : ∀ i, i < k → now < (atO M i).2.2.1) (hd : (atO M k).2.2.1 ≤ now) : Fi M now (k + 1) k :=
  .inr ⟨k, by omega, rfl, hd, up_to (fun i hi q => by have := hn i hi; omega) (fun _ => ltB_irrefl _)⟩
theorem fi_turn {M : List O4} {now : Int} {k j : Nat} (hm : ∀ i, i < k → (atO M i).2.2.1 ≤ now → ltB (pr (atO M i).2) (pr (atO M j).2) = false) (hd : (atO M k).2.2.1 ≤ now) (hb : ltB (pr (atO M k).2) (pr (atO M j).2) = true) : Fi M now (k + 1) k :=
  .inr ⟨k, by omega, rfl, hd, up_to (fun i hi q => lt_ge_trans hb (hm i hi q)) (fun _ => ltB_irrefl _)⟩
theorem fi_stay {M : List O4} {now : Int} {k j : Nat} (hj : j < k) (hjd : (atO M j).2.2.1 ≤ now) (hm : ∀ i, i < k → (atO M i).2.2.1 ≤ now → ltB (pr (atO M i).2) (pr (atO M j).2) = false) (hb : ltB (pr (atO M k).2) (pr (atO M j).2) = false) : Fi M now (k + 1) j :=
  .inr ⟨j, by omega, rfl, hjd, up_to hm (fun _ => hb)⟩

set_option maxRecDepth 100000 in
set_option maxHeartbeats 8000000 in
theorem first_any (ao : Option Addr) (len cap : Nat) (M : List O4) (now : Int) (w : World) (h : OAt w ao len M) (hl : len ≤ 4398046511104) :
    Calls Try.prog 14 #[.slice ao len cap, .int .i64 now] w fun e w' => ∃ b, e = .returned (.int .i64 b) ∧ Fi M now len b ∧ Step (fun _ => False) w w' := by
  have hs2 : ∀ (a b : World) n, Step (fun _ => False) a b → Step (fun _ => False) a (b.drewN n) := fun a b n h => ⟨h.os, h.tape, h.output, h.size, h.block⟩
  go_enter Try.func14, Try.ntmps14
  try dsimp only [List.append]
  go_wp2
  go_loopw [5, 6] (fun b i wr => ∃ (k : Nat) (x : Int), k ≤ len ∧ i = .int .i64 k ∧ b = .int .i64 x ∧ Fi M now k x ∧ Hid (Step (fun _ => False) w wr)) (fun _ i _ => len - (intOf i).toNat)
  case atStart => exact ⟨0, -1, Nat.zero_le _, rfl, rfl, fi_zero M now, Step.refl _ _⟩
  case round =>
    obtain ⟨k, x, hk, rfl, rfl, hF, hst⟩ := hrel
    by_cases hlt : k < len
    · have hlt' : (k : Int) < (len : Int) := by omega
      obtain ⟨b, off, rfl, hb, hc⟩ := (h.kept hst.out).pos (by omega)
      have c1 := (hc k hlt).t
      have c2 := (hc k hlt).a
      by_cases hd : (atO M k).2.2.1 ≤ now
      · have d1 : decide ((atO M k).2.2.1 ≤ now) = true := decide_eq_true hd
        rcases hF with ⟨rfl, hn⟩ | ⟨j, hj, rfl, hjd, hm⟩
        · have HF : Fi M now (k + 1) k := fi_one hn hd
          clear hc hn hd
          generalize atO M k = y at c1 c2 d1
          go_wp2_with fail
          go_quiet (fail)
          go_wp2
          go_roundw
          case rel => exact ⟨k + 1, k, by omega, by go_num, rfl, HF, hs2 _ _ _ hst.out⟩
          case measure => simp [intOf]; omega
        · have e1 := (hc j (by omega)).t
          have e2 := (hc j (by omega)).a
          have j1 : (j : Int) < (len : Int) := by omega
          have d2 : decide ((j : Int) < 0) = false := decide_eq_false (by omega)
          clear hc
          cases hq : ltB (pr (atO M k).2) (pr (atO M j).2) with
          | true =>
            have HF : Fi M now (k + 1) k := fi_turn hm hd hq
            rw [ltB_iff] at hq
            simp only [pr] at hq
            clear hm hd hjd
            generalize atO M k = y at *
            generalize atO M j = z at *
            by_cases hx : y.2.2.1 < z.2.2.1
            · have d3 : decide (y.2.2.1 < z.2.2.1) = true := decide_eq_true hx
              clear hq hx
              go_wp2_with fail
              go_quiet (fail)
              go_wp2
              go_roundw
              case rel => exact ⟨k + 1, k, by omega, by go_num, rfl, HF, hs2 _ _ _ hst.out⟩
              case measure => simp [intOf]; omega
            · have d3 : decide (y.2.2.1 < z.2.2.1) = false := decide_eq_false hx
              have d4 : (y.2.2.1 == z.2.2.1) = true := by simp; omega
              have d5 : decide (y.2.1 < z.2.1) = true := decide_eq_true (by omega)
              clear hq hx
              go_wp2_with fail
              go_quiet (fail)
              go_wp2
              go_roundw
              case rel => exact ⟨k + 1, k, by omega, by go_num, rfl, HF, hs2 _ _ _ hst.out⟩
              case measure => simp [intOf]; omega
          | false =>
            have HF : Fi M now (k + 1) j := fi_stay hj hjd hm hq
            rw [ltB_false] at hq
            simp only [pr] at hq
            clear hm hd hjd
            generalize atO M k = y at *
            generalize atO M j = z at *
            have d3 : decide (y.2.2.1 < z.2.2.1) = false := decide_eq_false (by omega)
            by_cases hx : y.2.2.1 = z.2.2.1
            · have d4 : (y.2.2.1 == z.2.2.1) = true := by simp [hx]
              have d5 : decide (y.2.1 < z.2.1) = false := decide_eq_false (by omega)
              clear hq hx
              go_wp2_with fail
              go_quiet (fail)
              go_wp2
              go_roundw
              case rel => exact ⟨k + 1, j, by omega, by go_num, rfl, HF, hs2 _ _ _ hst.out⟩
              case measure => simp [intOf]; omega
            · have d4 : (y.2.2.1 == z.2.2.1) = false := by simpa using hx
              clear hq hx
              go_wp2_with fail
              go_quiet (fail)
              go_wp2
              go_roundw
              case rel => exact ⟨k + 1, j, by omega, by go_num, rfl, HF, hs2 _ _ _ hst.out⟩
              case measure => simp [intOf]; omega
      · have HF : Fi M now (k + 1) x := fi_late hF (by omega)
        have d1 : decide ((atO M k).2.2.1 ≤ now) = false := decide_eq_false hd
        clear hc hF hd
        generalize atO M k = y at c1 c2 d1
        go_wp2_with fail
        go_quiet (fail)
        go_wp2
        go_roundw
        case rel => exact ⟨k + 1, x, by omega, by go_num, rfl, HF, hs2 _ _ _ hst.out⟩
        case measure => simp [intOf]; omega
    · have hlt' : ¬ (k : Int) < (len : Int) := by omega
      obtain rfl : k = len := by omega
      go_wp2
      go_ret
      exact ⟨x, rfl, hF, hst.out⟩

end Go.Proofs.Ythhhakglchcfgaa.LT
