/- Which numbers the chapter speaks of; what the statements ask of every program: that it answers at all. -/
import Derived.Test.YtfkefhilkfnffaaJobFun
namespace Go.Proofs.Ytfkefhilkfnffaa.JB
open Go.ChangeShapes Go.WideShapes Go.ChangeAt Go.RowKit Go.Proofs.Ytfkefhilkfnffaa.AR Go.Proofs.Ytfkefhilkfnffaa.TB Go.Proofs.Ytfkefhilkfnffaa.TK

/-- the first k are near -/
def nrB (zs : List Int) : Nat → Bool
  | 0 => true
  | k + 1 => nrB zs k && inB (zs.getD k 0) (-1073741824) 1073741824

theorem nrB_f {zs : List Int} {k : Nat} (h : inB (zs.getD k 0) (-1073741824) 1073741824 = false) : ∀ {n : Nat}, k < n → nrB zs n = false
  | n + 1, hn => by
    by_cases e : k = n
    · subst e; simp only [nrB, h, Bool.and_false]
    · have := nrB_f h (n := n) (by omega)
      simp only [nrB, this, Bool.false_and]

set_option maxHeartbeats 4000000 in
theorem near_any (b off len cap : Nat) (zs : List Int) (w : World) (hc : ∀ i, i < len → w.cell? ⟨b, off + i, none⟩ = some (.int .i64 (zs.getD i 0))) (hl : len ≤ 1000) :
    Calls Try.prog 8 #[.slice (some ⟨b, off, none⟩) len cap] w fun e w' => e = .returned (.bool (nrB zs len)) ∧ w = w' := by
  obtain ⟨res, hres⟩ : ∃ res, nrB zs len = res := ⟨_, rfl⟩
  rw [hres]
  have HR : Hid (nrB zs len = res) := hres
  have HC : Hid (∀ i, i < len → w.cell? ⟨b, off + i, none⟩ = some (.int .i64 (zs.getD i 0))) := hc
  clear hres hc
  go_enter Try.func8, Try.ntmps8
  go_wp2
  go_loopw [3] (fun i wr => ∃ k : Nat, k ≤ len ∧ i = .int .i64 k ∧ Hid (nrB zs k = true) ∧ wr = w) (fun i _ => len - (intOf i).toNat)
  case atStart => exact ⟨0, Nat.zero_le _, rfl, rfl, rfl⟩
  case round =>
    obtain ⟨k, hk, rfl, HN, rfl⟩ := hrel
    by_cases hlt : k < len
    · have hlt' : (k : Int) < (len : Int) := by omega
      have c := HC.out k hlt
      by_cases h1 : zs.getD k 0 < -1073741824
      · have q : inB (zs.getD k 0) (-1073741824) 1073741824 = false := inB_f.2 (by omega)
        have HF : Hid (false = res) := (nrB_f q hlt).symm.trans HR.out
        clear q HN HR HC
        generalize zs.getD k 0 = x at *
        go_wp2
        go_ret
        exact ⟨congrArg (fun b => Ending.returned (Value.bool b)) HF.out, rfl⟩
      · by_cases h2 : 1073741824 < zs.getD k 0
        · have q : inB (zs.getD k 0) (-1073741824) 1073741824 = false := inB_f.2 (by omega)
          have HF : Hid (false = res) := (nrB_f q hlt).symm.trans HR.out
          clear q HN HR HC
          generalize zs.getD k 0 = x at *
          go_wp2
          go_ret
          exact ⟨congrArg (fun b => Ending.returned (Value.bool b)) HF.out, rfl⟩
        · have q : inB (zs.getD k 0) (-1073741824) 1073741824 = true := inB_t.2 (by omega)
          have HT : Hid (nrB zs (k + 1) = true) := by show _ = _; simp only [nrB, HN.out, q, Bool.and_self]
          clear q HN HR HC
          generalize zs.getD k 0 = x at *
          go_wp2
          go_roundw
          case rel => exact ⟨k + 1, by omega, by go_num, HT, trivial⟩
          case measure => simp [intOf]; omega
    · have hlt' : ¬ (k : Int) < (len : Int) := by omega
      obtain rfl : k = len := by omega
      have HF : Hid (true = res) := HN.out.symm.trans HR.out
      clear HN HR HC
      go_wp2
      go_ret
      exact ⟨congrArg (fun b => Ending.returned (Value.bool b)) HF.out, rfl⟩

/-- a block of numbers -/
theorem nums_at {W : World} {g : Nat} {ty : TypeId} {zs : List Int} (h : W.heap[g]? = some (.cells (zs.map (Value.int .i64)).toArray ty (0, 0))) : ∀ i, i < zs.length → W.cell? ⟨g, 0 + i, none⟩ = some (.int .i64 (zs.getD i 0)) := by
  intro i hi
  simp [World.cell?, h, List.getD_eq_getElem?_getD, List.getElem?_eq_getElem hi]

/-- the job that is asked, at first and behind a cycle -/
theorem ans_new (w : World) : Calls Try.prog 10 #[.int .i64 2, .agg #[.int .i64 10, .int .i64 1, .slice none 0 0, .slice none 0 0], .int .i64 5, .int .i64 2] w fun e w' => e = .returned (.agg #[.int .i64 2, .int .i64 5, .int .i64 15, .int .i64 1, .int .i64 2, .bool false]) ∧ Kp w w' := by
  have h := new_any 2 ⟨10, 1, none, 0, 0, [], none, 0, 0, []⟩ 5 2 w
  rw [nwJ_in (by dsimp only; omega)] at h
  exact h

theorem ans_step (w : World) : Calls Try.prog 11 #[.agg #[.int .i64 2, .int .i64 5, .int .i64 15, .int .i64 1, .int .i64 2, .bool false]] w fun e w' => e = .returned (.tuple #[.agg #[.int .i64 2, .int .i64 5, .int .i64 15, .int .i64 0, .int .i64 1, .bool false], .int .i64 3]) ∧ Kp w w' := by
  have h := step_any ⟨2, 5, 15, 1, 2, false⟩ w
  rw [stJ_in (by dsimp only; omega) (by dsimp only; omega)] at h
  exact h

set_option maxHeartbeats 4000000 in
theorem janswers_any (w : World) : Calls Try.prog 9 #[] w fun e w' => e = .returned (.bool true) ∧ Kp w w' := by
  go_enter Try.func9, Try.ntmps9
  go_wp2_with (first
    | (go_at_call 10; refine (ans_new _).mono ?_; rintro e w1 ⟨rfl, k1⟩; obtain ⟨V1, HV1⟩ : ∃ V1, Hid (V1 = w1.alloc (.cells #[.int .i64 2, .int .i64 5, .int .i64 15, .int .i64 1, .int .i64 2, .bool false] 28)) := ⟨_, rfl⟩; have B1 : Hid (BJ V1 w1.heap.size ⟨2, 5, 15, 1, 2, false⟩) := by {show BJ _ _ _; rw [HV1.out]; exact bj_new w1 ⟨2, 5, 15, 1, 2, false⟩}; have K1 : Hid (Kp w V1) := by {show Kp _ _; rw [HV1.out]; exact k1.alloc _})
    | (go_at_call 11; rw [← HV1.out]; clear HV1; refine (ans_step _).mono ?_; rintro e w2 ⟨rfl, k2⟩; have B2 := B1.out.kp k2; have L2 := B2.lt; obtain ⟨b0, b1, b2, b3, b4, b5⟩ := B2.all; have K2 : Hid (Kp w w2) := K1.out.trans k2; clear B1 k2 K1 B2)
    | fail)
  go_ret
  exact ⟨rfl, K2.out.alloc _⟩

end Go.Proofs.Ytfkefhilkfnffaa.JB
