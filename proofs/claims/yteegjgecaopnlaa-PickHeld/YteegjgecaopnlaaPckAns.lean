/- What the statements ask of every program: that it answers at all. -/
import Derived.Test.YteegjgecaopnlaaPckFun
import Derived.Test.YteegjgecaopnlaaRowAt
namespace Go.Proofs.Yteegjgecaopnlaa.PK
open Go.ChangeShapes Go.WideShapes Go.ChangeAt Go.RowKit Go.Proofs.Yteegjgecaopnlaa.AR Go.Proofs.Yteegjgecaopnlaa.TB Go.Proofs.Yteegjgecaopnlaa.TK Go.Proofs.Yteegjgecaopnlaa.JB Go.Proofs.Yteegjgecaopnlaa.RW

/-- the tasks, the jobs that are asked -/
def aTs : List Tk := [⟨20, 0, none, 0, 0, [], none, 0, 0, []⟩, ⟨30, 0, none, 0, 0, [], none, 0, 0, []⟩, ⟨5, 0, none, 0, 0, [], none, 0, 0, []⟩]
def aJs : List Jb := [⟨1, 0, 0, 0, 0, false⟩, ⟨2, 0, 0, 0, 0, false⟩]

theorem kp_new (w : World) (o : Obj) : Kp w (w.alloc o) := (Kp.refl w).alloc o

theorem ans_lists {w W0 : World} (e : W0 = ((w.alloc (.cells #[.int .i64 20, .int .i64 0, .slice none 0 0, .slice none 0 0, .int .i64 30, .int .i64 0, .slice none 0 0, .slice none 0 0, .int .i64 5, .int .i64 0, .slice none 0 0, .slice none 0 0] 32)).alloc
      (.cells #[.int .i64 1, .int .i64 0, .int .i64 0, .int .i64 0, .int .i64 0, .bool false, .int .i64 2, .int .i64 0, .int .i64 0, .int .i64 0, .int .i64 0, .bool false] 30))) :
    LAt W0 (some ⟨w.heap.size, 0, none⟩) 3 aTs ∧ JsAt W0 (some ⟨w.heap.size + 1, 0, none⟩) 2 aJs ∧ Kp w W0 := by
  have b1 := blk_kept (blk_new w (.cells #[.int .i64 20, .int .i64 0, .slice none 0 0, .slice none 0 0, .int .i64 30, .int .i64 0, .slice none 0 0, .slice none 0 0, .int .i64 5, .int .i64 0, .slice none 0 0, .slice none 0 0] 32)) (kp_new _ (.cells #[.int .i64 1, .int .i64 0, .int .i64 0, .int .i64 0, .int .i64 0, .bool false, .int .i64 2, .int .i64 0, .int .i64 0, .int .i64 0, .int .i64 0, .bool false] 30))
  have b2 := blk_new (w.alloc (.cells #[.int .i64 20, .int .i64 0, .slice none 0 0, .slice none 0 0, .int .i64 30, .int .i64 0, .slice none 0 0, .slice none 0 0, .int .i64 5, .int .i64 0, .slice none 0 0, .slice none 0 0] 32)) (.cells #[.int .i64 1, .int .i64 0, .int .i64 0, .int .i64 0, .int .i64 0, .bool false, .int .i64 2, .int .i64 0, .int .i64 0, .int .i64 0, .int .i64 0, .bool false] 30)
  rw [World.size_alloc] at b2
  rw [← e] at b1 b2
  refine ⟨lat_block b1 rfl rfl (fun t ht => ?_) (by omega), jat_block b2 rfl rfl (fun j hj => ?_) (by omega), by rw [e]; exact ((Kp.refl _).alloc _).alloc _⟩
  · simp only [aTs, List.mem_cons, List.not_mem_nil, or_false] at ht
    rcases ht with rfl | rfl | rfl <;> exact ⟨no_nums _ _, no_nums _ _⟩
  · simp only [aJs, List.mem_cons, List.not_mem_nil, or_false] at hj
    rcases hj with rfl | rfl <;> exact ⟨by simp [I64], by simp [I64], by simp [I64], by simp [I64], by simp [I64]⟩

theorem ans_stack (W : World) : NAt (W.alloc (.cells #[.int .i64 0, .int .i64 2] 3)) (some ⟨W.heap.size, 0, none⟩) 2 [0, 2] :=
  nat_block (blk_new W _) rfl rfl (fun z hz => by
    simp only [List.mem_cons, List.not_mem_nil, or_false] at hz
    rcases hz with rfl | rfl <;> (unfold I64; omega)) (by omega)

theorem ans_1 : chI aTs aJs [0, 2] 30 = 2 := by decide
theorem ans_2 : chI aTs aJs [0, 2] 31 = 1 := by decide

set_option maxHeartbeats 4000000 in
theorem panswers_any (w : World) :
    Calls Try.prog 9 #[] w fun e w' => e = .returned (.bool true) ∧ Kp w w' := by
  obtain ⟨W0, HW⟩ : ∃ W0, Hid (W0 = ((w.alloc (.cells #[.int .i64 20, .int .i64 0, .slice none 0 0, .slice none 0 0, .int .i64 30, .int .i64 0, .slice none 0 0, .slice none 0 0, .int .i64 5, .int .i64 0, .slice none 0 0, .slice none 0 0] 32)).alloc
      (.cells #[.int .i64 1, .int .i64 0, .int .i64 0, .int .i64 0, .int .i64 0, .bool false, .int .i64 2, .int .i64 0, .int .i64 0, .int .i64 0, .int .i64 0, .bool false] 30))) := ⟨_, rfl⟩
  obtain ⟨a1, a2, a3⟩ := ans_lists HW.out
  have HC : Hid (∀ c W, Kp W0 W → Calls Try.prog 7 #[.slice (some ⟨w.heap.size, 0, none⟩) 3 3, .slice (some ⟨w.heap.size + 1, 0, none⟩) 2 2, .slice (some ⟨W.heap.size, 0, none⟩) 2 2, .int .i64 c] (W.alloc (.cells #[.int .i64 0, .int .i64 2] 3))
      fun e w' => e = .returned (.tuple #[.int .i64 (chI aTs aJs [0, 2] c), .bool (decide (0 < 2))]) ∧ Kp W w') := fun c W k =>
    (choose_any _ 3 3 aTs _ 2 2 aJs _ 2 2 [0, 2] c _ (a1.kept (k.trans (kp_new _ _))) (a2.kept (k.trans (kp_new _ _))) (ans_stack W)).mono (fun e w' ⟨q, k'⟩ => ⟨q, (kp_new _ _).trans k'⟩)
  have H1 := HC.out 30 W0 (Kp.refl _)
  rw [show W0.heap.size = w.heap.size + 1 + 1 from by rw [HW.out]; simp] at H1
  have H2 := HC.out 31
  rw [ans_1] at H1
  rw [ans_2] at H2
  clear HC a1 a2
  replace H2 : Hid _ := H2
  have HK : Hid (Kp w W0) := a3
  clear a3
  go_enter Try.func9, Try.ntmps9
  go_wp2_with fail
  rw [← HW.out]
  clear HW
  refine H1.mono ?_
  clear H1
  rintro e w1 ⟨rfl, k1⟩
  go_wp2_with fail
  refine (H2.out _ k1).mono ?_
  rintro e w2 ⟨rfl, k2⟩
  go_wp2
  go_ret
  exact ⟨rfl, (HK.out.trans k1).trans k2⟩

end Go.Proofs.Yteegjgecaopnlaa.PK
