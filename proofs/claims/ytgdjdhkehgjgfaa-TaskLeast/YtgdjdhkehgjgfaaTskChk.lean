/- Which tasks may be: the program's Check, and the document's own, walked. -/
import Derived.Test.YtgdjdhkehgjgfaaTskFnd
import Derived.Test.YtgdjdhkehgjgfaaTskRow
import Derived.Test.YtgdjdhkehgjgfaaChk
namespace Go.Proofs.Ytgdjdhkehgjgfaa.TK
open Go.ChangeShapes Go.WideShapes Go.ChangeAt Go.RowKit Go.Proofs.Ytgdjdhkehgjgfaa.AR Go.Proofs.Ytgdjdhkehgjgfaa.TB

/-- a machine, with its rows -/
structure Mc where
  aL : Option Addr
  lL : Nat
  cL : Nat
  rL : List (List Int)
  aS : Option Addr
  lS : Nat
  cS : Nat
  rS : List (List Int)
  aD : Option Addr
  lD : Nat
  cD : Nat
  rD : List (List Int)
  idle : Int
  crit : Int
  sw : Int
  swe : Int
  sems : Int
  hor : Int

def Mc.v (m : Mc) : Value := .agg #[.slice m.aL m.lL m.cL, .slice m.aS m.lS m.cS, .slice m.aD m.lD m.cD, .int .i64 m.idle, .int .i64 m.crit, .int .i64 m.sw, .int .i64 m.swe, .int .i64 m.sems, .int .i64 m.hor]
def Mc.At (w : World) (m : Mc) : Prop := Mach w m.aL m.lL m.rL m.aS m.lS m.rS m.aD m.lD m.rD
def Mc.may (m : Mc) : Bool := mayB m.lL m.rL m.lS m.rS m.lD m.rD m.idle m.crit m.sw m.swe m.sems m.hor
theorem Mc.At.kept {w w' : World} {m : Mc} (h : m.At w) (k : Kp w w') : m.At w' := Mach.kept h k

/-- a block with a machine in it -/
structure B9 (w : World) (g : Nat) (m : Mc) : Prop where
  blk : w.heap[g]? = some (.cells #[.slice m.aL m.lL m.cL, .slice m.aS m.lS m.cS, .slice m.aD m.lD m.cD, .int .i64 m.idle, .int .i64 m.crit, .int .i64 m.sw, .int .i64 m.swe, .int .i64 m.sems, .int .i64 m.hor] 26 (0, 0))
theorem B9.lt {w : World} {g : Nat} {m : Mc} (h : B9 w g m) : g < w.heap.size := lt_blk h.blk
theorem B9.all {w : World} {g : Nat} {m : Mc} (h : B9 w g m) : w.cell? ⟨g, 0, none⟩ = some (.slice m.aL m.lL m.cL) ∧ w.cell? ⟨g, 1, none⟩ = some (.slice m.aS m.lS m.cS) ∧ w.cell? ⟨g, 2, none⟩ = some (.slice m.aD m.lD m.cD) ∧ w.cell? ⟨g, 3, none⟩ = some (.int .i64 m.idle) ∧ w.cell? ⟨g, 4, none⟩ = some (.int .i64 m.crit) ∧
    w.cell? ⟨g, 5, none⟩ = some (.int .i64 m.sw) ∧ w.cell? ⟨g, 6, none⟩ = some (.int .i64 m.swe) ∧ w.cell? ⟨g, 7, none⟩ = some (.int .i64 m.sems) ∧ w.cell? ⟨g, 8, none⟩ = some (.int .i64 m.hor) := by simp [World.cell?, h.blk]
theorem B9.kp {w w' : World} {g : Nat} {m : Mc} (h : B9 w g m) (k : Kp w w') : B9 w' g m := ⟨kp_block h.blk k⟩
theorem b9_new (w : World) (m : Mc) : B9 (w.alloc (.cells #[.slice m.aL m.lL m.cL, .slice m.aS m.lS m.cS, .slice m.aD m.lD m.cD, .int .i64 m.idle, .int .i64 m.crit, .int .i64 m.sw, .int .i64 m.swe, .int .i64 m.sems, .int .i64 m.hor] 26)) w.heap.size m := ⟨heap_alloc_at w _⟩
abbrev TB4 (w : World) (g : Nat) (t : Tk) : Prop := B4 w g (.int .i64 t.p) (.int .i64 t.c) (.slice t.sa t.sl t.sc) (.slice t.da t.dl t.dc)

/-- a machine's box and a task's, one behind the other -/
theorem two_box (w : World) (m : Mc) (t : Tk) : ∃ W0, Hid (W0 = (w.alloc (.cells #[.slice m.aL m.lL m.cL, .slice m.aS m.lS m.cS, .slice m.aD m.lD m.cD, .int .i64 m.idle, .int .i64 m.crit, .int .i64 m.sw, .int .i64 m.swe, .int .i64 m.sems, .int .i64 m.hor] 26)).alloc (.cells #[.int .i64 t.p, .int .i64 t.c, .slice t.sa t.sl t.sc, .slice t.da t.dl t.dc] 29)) ∧
    Kp w W0 ∧ B9 W0 w.heap.size m ∧ TB4 W0 (w.heap.size + 1) t := by
  refine ⟨_, rfl, ((Kp.refl _).alloc _).alloc _, (b9_new w m).kp ((Kp.refl _).alloc _), ?_⟩
  have := b4_new (w := w.alloc (.cells #[.slice m.aL m.lL m.cL, .slice m.aS m.lS m.cS, .slice m.aD m.lD m.cD, .int .i64 m.idle, .int .i64 m.crit, .int .i64 m.sw, .int .i64 m.swe, .int .i64 m.sems, .int .i64 m.hor] 26)) (a := .int .i64 t.p) (b := .int .i64 t.c) (c := .slice t.sa t.sl t.sc) (d := .slice t.da t.dl t.dc) (Kp.refl _)
  rw [World.size_alloc] at this
  exact this

/-! ### plain -/

def tmB (m : Mc) (t : Tk) : Bool := inB t.p 1 m.hor && inB t.c 1 4096
def scB (m : Mc) (t : Tk) : Bool := decide ((t.sl : Int) ≤ m.sems) && !anyB (fun x => !inB x 0 t.c) t.sz t.sl
/-- the device ahead, or -1 -/
def ahdD (zs : List Int) : Nat → Int
  | 0 => -1
  | k + 1 => zs.getD k 0
def Dv (n : Nat) (zs : List Int) (k : Nat) : Prop := ∀ i, i < k → ahdD zs i + 1 ≤ zs.getD i 0 ∧ zs.getD i 0 ≤ (n : Int) - 1
def decDv (n : Nat) (zs : List Int) (k : Nat) : Decidable (Dv n zs k) := by unfold Dv; exact inferInstance
def dvB (m : Mc) (t : Tk) : Bool := @decide (Dv m.lD t.dz t.dl) (decDv m.lD t.dz t.dl)
theorem dvB_t {m : Mc} {t : Tk} : dvB m t = true ↔ Dv m.lD t.dz t.dl := by simp [dvB]
theorem dvB_f {m : Mc} {t : Tk} : dvB m t = false ↔ ¬ Dv m.lD t.dz t.dl := by simp [dvB]
theorem Dv.ge {n : Nat} {zs : List Int} : ∀ {k : Nat}, Dv n zs k → -1 ≤ ahdD zs k ∧ ahdD zs k ≤ (n : Int) - 1
  | 0, _ => by simp [ahdD]; omega
  | k + 1, h => by
    have h1 := h k (by omega)
    have h2 := Dv.ge (k := k) (fun i hi => h i (by omega))
    simp only [ahdD]; omega
theorem Dv.more {n : Nat} {zs : List Int} {k : Nat} (h : Dv n zs k) (h1 : ahdD zs k + 1 ≤ zs.getD k 0 ∧ zs.getD k 0 ≤ (n : Int) - 1) : Dv n zs (k + 1) := fun i hi => by
  by_cases hk : i < k
  · exact h i hk
  · obtain rfl : i = k := by omega
    exact h1
/-- may t be, on m? -/
def tkB (m : Mc) (t : Tk) : Bool := tmB m t && scB m t && dvB m t

/-! ### the program's -/

theorem times_any (m : Mc) (t : Tk) (w : World) :
    Calls Try.prog 22 #[m.v, t.v] w fun e w' => e = .returned (.bool (tmB m t)) ∧ Kp w w' := by
  unfold Mc.v Tk.v tmB
  cases h1 : inB t.p 1 m.hor <;> cases h2 : inB t.c 1 4096
  all_goals
    go_enter Try.func22, Try.ntmps22
    go_wp2_with (first
      | (go_at_call 25; refine (twithin_any _ _ _ _).mono ?_; rintro e w1 ⟨rfl, rfl⟩)
      | fail)
    all_goals
      go_ret
      exact ⟨by simp_all, ((Kp.refl _).alloc _).alloc _⟩

theorem sections_lit (c : Int) (B : Nat) (w : World) (hb : B < w.heap.size) (hc : w.cell? ⟨B, 1, none⟩ = some (.int .i64 c)) :
    Lit1 w 32 (.pointer (some ⟨B, 0, none⟩)) (fun x => !inB x 0 c) := by
  intro w' x hk
  have hc' := (hk.cell (p := ⟨B, 1, none⟩) hb).trans hc
  simp only
  go_enter Try.func32, Try.ntmps32
  go_wp2_with (first
    | (go_at_call 25; refine (twithin_any _ _ _ _).mono ?_; rintro e w1 ⟨rfl, rfl⟩)
    | fail)
  go_ret
  exact ⟨by simp_all, Kp.refl _⟩

set_option maxHeartbeats 4000000 in
theorem sections_any (m : Mc) (t : Tk) (w : World) (h : TAt w t) :
    Calls Try.prog 23 #[m.v, t.v] w fun e w' => e = .returned (.bool (scB m t)) ∧ Kp w w' := by
  have hmf : ∀ (fn : Fn) (first cap : Array Value) (w : World), (Instr.makeFunc fn first cap).run Try.prog w = .ok (.func fn first cap) w := fun _ _ _ _ => rfl
  obtain ⟨W0, HW, K0, P0, X0⟩ := two_box w m t
  have HC : Hid (Calls Try.prog 26 #[.slice t.sa t.sl t.sc, .func (.func 32) #[] #[.pointer (some ⟨w.heap.size + 1, 0, none⟩)]] W0
      fun e w' => e = .returned (.bool (anyB (fun x => !inB x 0 t.c) t.sz t.sl)) ∧ Kp W0 w') := contains_any _ _ _ _ _ _ _ W0 (h.s.kept K0) (enters_of Try.func32 (by kernel_rfl) rfl) (sections_lit t.c _ W0 X0.lt X0.all.2.1)
  have HK : Hid (Kp w W0) := K0
  obtain ⟨p0, p1, p2, p3, p4, p5, p6, p7, p8⟩ := P0.all
  obtain ⟨x0, x1, x2, x3⟩ := X0.all
  unfold Mc.v Tk.v scB
  clear K0 P0 X0 h
  by_cases hs : (t.sl : Int) ≤ m.sems
  · have hd : decide ((t.sl : Int) ≤ m.sems) = true := decide_eq_true hs
    rw [hd]
    generalize anyB (fun x => !inB x 0 t.c) t.sz t.sl = u at *
    go_enter Try.func23, Try.ntmps23
    go_wp2_with fail
    rw [← HW.out]
    refine HC.out.mono ?_
    rintro e w1 ⟨rfl, k1⟩
    go_wp2
    go_ret
    exact ⟨by simp, HK.out.trans k1⟩
  · have hd : decide ((t.sl : Int) ≤ m.sems) = false := decide_eq_false hs
    rw [hd]
    generalize anyB (fun x => !inB x 0 t.c) t.sz t.sl = u at *
    go_enter Try.func23, Try.ntmps23
    go_wp2
    go_ret
    exact ⟨by simp, ((Kp.refl _).alloc _).alloc _⟩

set_option maxHeartbeats 4000000 in
theorem devices_any (m : Mc) (t : Tk) (w : World) (h : TAt w t) (hm : m.lD ≤ 9223372036854775807) :
    Calls Try.prog 24 #[m.v, t.v] w fun e w' => e = .returned (.bool (dvB m t)) ∧ Kp w w' := by
  obtain ⟨W0, HW, K0, P0, X0⟩ := two_box w m t
  have hby := h.d.by'
  obtain ⟨res, hres⟩ : ∃ res, dvB m t = res := ⟨_, rfl⟩
  rw [hres]
  have HR : Hid (dvB m t = res) := hres
  clear hres
  unfold Mc.v Tk.v
  have hh : W0.heap.size = w.heap.size + 2 := by rw [HW.out]; simp
  obtain ⟨p0, p1, p2, p3, p4, p5, p6, p7, p8⟩ := P0.all
  obtain ⟨x0, x1, x2, x3⟩ := X0.all
  go_enter Try.func24, Try.ntmps24
  go_wp2
  rw [← HW.out]
  go_loopw [5, 11] (fun a i wr => ∃ (k : Nat) (av : Int), k ≤ t.dl ∧ i = .int .i64 k ∧ a = .int .i64 av ∧ Hid (ahdD t.dz k = av ∧ Dv m.lD t.dz k) ∧ Kp W0 wr) (fun _ i _ => t.dl - (intOf i).toNat)
  case atStart => exact ⟨0, _, Nat.zero_le _, rfl, rfl, ⟨rfl, fun i hi => by omega⟩, Kp.refl _⟩
  case round =>
    obtain ⟨k, av, hk, rfl, rfl, HL, hkp⟩ := hrel
    have q2 := (P0.kp hkp).all.2.2.1
    have HG := HL.out.2.ge
    rw [HL.out.1] at HG
    by_cases hlt : k < t.dl
    · have hlt' : (k : Int) < (t.dl : Int) := by omega
      obtain ⟨b, off, hda, hb, hc⟩ := (h.d.kept (K0.trans hkp)).one hlt
      cases hq : inB (t.dz.getD k 0) (av + 1) ((m.lD : Int) - 1) with
      | true =>
        have HN : Hid (ahdD t.dz (k + 1) = t.dz.getD k 0 ∧ Dv m.lD t.dz (k + 1)) := ⟨rfl, HL.out.2.more (by rw [HL.out.1]; exact inB_t.1 hq)⟩
        clear HL HR
        generalize t.dz.getD k 0 = x at *
        rw [hda] at *
        go_wp2_with (first
          | (go_at_call 25; refine (twithin_any _ _ _ _).mono ?_; rintro e w1 ⟨rfl, rfl⟩)
          | fail)
        go_roundw
        case rel => exact ⟨k + 1, x, by omega, by go_num, rfl, HN, hkp⟩
        case measure => simp [intOf]; omega
      | false =>
        have HN : Hid (dvB m t = false) := dvB_f.2 (fun q => inB_f.1 hq (by rw [← HL.out.1]; exact q k hlt))
        clear HL
        generalize t.dz.getD k 0 = x at *
        rw [hda] at *
        go_wp2_with (first
          | (go_at_call 25; refine (twithin_any _ _ _ _).mono ?_; rintro e w1 ⟨rfl, rfl⟩)
          | fail)
        go_ret
        exact ⟨congrArg (fun b => Ending.returned (Value.bool b)) (HN.out.symm.trans HR.out), K0.trans hkp⟩
    · have hlt' : ¬ (k : Int) < (t.dl : Int) := by omega
      obtain rfl : k = t.dl := by omega
      have HN : Hid (dvB m t = true) := dvB_t.2 HL.out.2
      clear HL
      go_wp2
      go_ret
      exact ⟨congrArg (fun b => Ending.returned (Value.bool b)) (HN.out.symm.trans HR.out), K0.trans hkp⟩

end Go.Proofs.Ytgdjdhkehgjgfaa.TK
