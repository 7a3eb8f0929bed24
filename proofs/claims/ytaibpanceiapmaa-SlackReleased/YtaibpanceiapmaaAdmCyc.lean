/- The list of each task's cycles, in memory of its own. -/
import Derived.Test.YtaibpanceiapmaaAdmPlain
import Derived.Test.YtaibpanceiapmaaTskRow
namespace Go.Proofs.Ytaibpanceiapmaa.AD
open Go.ChangeShapes Go.WideShapes Go.ChangeAt Go.RowKit Go.Proofs.Ytaibpanceiapmaa.AR Go.Proofs.Ytaibpanceiapmaa.TB Go.Proofs.Ytaibpanceiapmaa.TK Go.Proofs.Ytaibpanceiapmaa.FX

/-- the first k are there already -/
structure Fil (w : World) (g k : Nat) (L : List Tk) (len : Nat) : Prop where
  blk : ∃ cu : List Value, w.heap[g]? = some (.cells cu.toArray 3 (0, 0)) ∧ cu.length = len ∧ ∀ i, i < k → cu[i]? = some (.int .i64 ((cyc L).getD i 0))

theorem Fil.kp {w w' : World} {g k len : Nat} {L : List Tk} (h : Fil w g k L len) (q : Kp w w') : Fil w' g k L len := by
  obtain ⟨cu, h1, h2, h3⟩ := h.blk
  exact ⟨cu, kp_block h1 q, h2, h3⟩

theorem Fil.one {w : World} {g k len : Nat} {L : List Tk} (h : Fil w g k L len) {i : Nat} (hi : i < len) : g < w.heap.size ∧ w.frozen? ⟨g, i, none⟩ = false ∧ ∃ v, w.cell? ⟨g, i, none⟩ = some v := by
  obtain ⟨cu, h1, h2, h3⟩ := h.blk
  refine ⟨lt_blk h1, by simp [World.frozen?, h1], ?_⟩
  have hil : i < cu.length := by omega
  exact ⟨cu[i], by simp [World.cell?, h1, hil]⟩

theorem Fil.set {w : World} {g k len : Nat} {L : List Tk} (h : Fil w g k L len) {t : Tk} (ht : L[k]? = some t) (hk : k < len) : Fil (w.setCell ⟨g, k, none⟩ (.int .i64 t.c)) g (k + 1) L len := by
  obtain ⟨cu, h1, h2, h3⟩ := h.blk
  refine ⟨cu.set k (.int .i64 t.c), ?_, by simp [h2], fun i hi => ?_⟩
  · rw [heap_setCell_same w g k _ _ _ h1]
    simp
  · by_cases e : i = k
    · subst e
      rw [cyc_at ht]
      have : i < cu.length := by omega
      simp [this]
    · have hne : ¬ k = i := fun q => e q.symm
      rw [List.getElem?_set]
      simp only [hne, if_false]
      exact h3 i (by omega)

theorem Fil.row {w : World} {g len : Nat} {L : List Tk} (h : Fil w g len L len) (hl : L.length = len) (hc : ∀ t ∈ L, BT t) (hb : len ≤ 64) : NAt w (some ⟨g, 0, none⟩) len (cyc L) := by
  obtain ⟨cu, h1, h2, h3⟩ := h.blk
  refine ⟨⟨by simp [cyc, hl], ?_, .inr ⟨g, 0, rfl, lt_blk h1, fun i hi => ?_⟩⟩, by omega⟩
  · intro z hz
    obtain ⟨t, ht, rfl⟩ := List.mem_map.1 hz
    have := (hc t ht).c
    unfold I64; omega
  · have := h3 i hi
    have hil : i < cu.length := by omega
    simp only [World.cell?, h1, Nat.zero_add]
    simpa using this

set_option maxHeartbeats 8000000 in
theorem cycles_any (ao : Option Addr) (len cap : Nat) (L : List Tk) (w : World) (h : LAt w ao len L) (hc : ∀ t ∈ L, BT t) (hb : len ≤ 64) :
    Calls Try.prog 54 #[.slice ao len cap] w fun e w' => ∃ ao', e = .returned (.slice ao' len len) ∧ NAt w' ao' len (cyc L) ∧ Kp w w' := by
  have hby := h.by'
  have H : Hid (LAt w ao len L) := h
  have HC : Hid (∀ t ∈ L, BT t) := hc
  clear h hc
  obtain ⟨i0, hi, hz0, hz1, hz2⟩ := info_parts int_info
  go_enter Try.func54, Try.ntmps54
  go_wp2_with (first
    | (refine wpList_make_full _ rfl _ _ 28 rfl w.heap.size 3 i0 _ 1 Try.underlying28 hi hz0 hz1 .i64 .i64 (len : Int) (len : Int) len rfl rfl rfl rfl (by rw [hz2]; omega) (by unfold maxLen; omega) (Nat.le_refl _) ?_; intro w1 row1 hg1; have K1 : Kp w w1 := ⟨hg1.os, hg1.tape, hg1.output, hg1.size, fun k hk => hg1.block k hk (by simp)⟩; obtain ⟨hblk, hlen⟩ := row_block row1 rfl; clear hg1 row1; generalize (madeCells (Value.int .i64 0).cells (len * 1)).toList = cur at *)
    | fail)
  have F0 : Hid (Fil w1 w.heap.size 0 L len) := ⟨cur, hblk.out, hlen, fun i hi => by omega⟩
  clear hblk hlen hi hz0 hz1 hz2
  go_loopw [11] (fun i wr => ∃ (k : Nat), k ≤ len ∧ i = .int .i64 k ∧ Hid (Fil wr w.heap.size k L len) ∧ Kp w wr) (fun i _ => len - (intOf i).toNat)
  case atStart => exact ⟨0, Nat.zero_le _, rfl, F0, K1⟩
  case round =>
    obtain ⟨k, hk, rfl, HF, hkp⟩ := hrel
    by_cases hlt : k < len
    · have hlt' : (k : Int) < (len : Int) := by omega
      obtain ⟨b, off, t, rfl, hb2, hg, ht, c0, c1, c2, c3⟩ := (H.out.kept hkp).one hlt
      obtain ⟨hgl, hfz, v0, hv0⟩ := HF.out.one hlt
      have HN : Hid (∀ o, Fil ((wr.setCell ⟨w.heap.size, k, none⟩ (.int .i64 t.c)).alloc o) w.heap.size (k + 1) L len) := fun o => (HF.out.set hg hlt).kp ((Kp.refl _).alloc o)
      clear HF ht hg
      go_wp2
      go_roundw
      case rel => exact ⟨k + 1, by omega, by go_num, HN.out _, (hkp.setCell (Nat.le_refl _) _).alloc _⟩
      case measure => simp [intOf]; omega
    · have hlt' : ¬ (k : Int) < (len : Int) := by omega
      obtain rfl : k = len := by omega
      have HN : Hid (NAt wr (some ⟨w.heap.size, 0, none⟩) k (cyc L)) := HF.out.row H.out.ln HC.out hb
      clear HF
      go_wp2
      go_ret
      exact ⟨_, rfl, HN.out, hkp⟩

end Go.Proofs.Ytaibpanceiapmaa.AD
