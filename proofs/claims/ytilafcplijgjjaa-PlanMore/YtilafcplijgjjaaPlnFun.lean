/- How long a device is not needed: in plain words; the program's answer and the document's own, walked. -/
import Derived.Test.YtilafcplijgjjaaSlkRef
import Derived.Test.YtilafcplijgjjaaTskFnd
namespace Go.Proofs.Ytilafcplijgjjaa.PN
open Go.ChangeShapes Go.WideShapes Go.ChangeAt Go.RowKit Go.Proofs.Ytilafcplijgjjaa.AR Go.Proofs.Ytilafcplijgjjaa.TB Go.Proofs.Ytilafcplijgjjaa.TK Go.Proofs.Ytilafcplijgjjaa.JB Go.Proofs.Ytilafcplijgjjaa.FX Go.Proofs.Ytilafcplijgjjaa.AD Go.Proofs.Ytilafcplijgjjaa.SK
open Go.Proofs.Ytilafcplijgjjaa.LK (Hd atH HsAt C3)

/-- does the task of that number need d? -/
def ndX (T : List Tk) (x d : Int) : Bool := if 0 ≤ x then (match T[x.toNat]? with
  | some t => ndB t d
  | none => false) else false
theorem ndX_at {T : List Tk} {k : Nat} {t : Tk} (h : T[k]? = some t) (d : Int) : ndX T (k : Int) d = ndB t d := by simp [ndX, h]
theorem ndX_low {T : List Tk} {x d : Int} (h : ¬ 0 ≤ x) : ndX T x d = false := by unfold ndX; rw [if_neg h]
theorem ndX_high {T : List Tk} {x d : Int} {n : Nat} (hl : T.length = n) (h : ¬ x < (n : Int)) : ndX T x d = false := by
  unfold ndX
  rw [if_pos (by omega), List.getElem?_eq_none (by omega)]

/-- the least moment of the first k that need it -/
def untT (v : Vw) (d : Int) : Nat → Int
  | 0 => 1099511627776
  | k + 1 => if ndX v.T (k : Int) d = true then mn (untT v d k) (coI v k) else untT v d k
theorem untT_in {v : Vw} {d : Int} {k : Nat} (h : ndX v.T (k : Int) d = true) : untT v d (k + 1) = mn (untT v d k) (coI v k) := by simp [untT, h]
theorem untT_not {v : Vw} {d : Int} {k : Nat} (h : ndX v.T (k : Int) d = false) : untT v d (k + 1) = untT v d k := by simp [untT, h]
/-- has one that needs it a job? -/
def jobN (v : Vw) (d : Int) : Bool := v.J.any fun j => ndX v.T j.t d
def untI (v : Vw) (d : Int) : Int := if jobN v d = true then v.now else untT v d v.tl
theorem untI_job {v : Vw} {d : Int} (h : jobN v d = true) : untI v d = v.now := by unfold untI; rw [if_pos h]
theorem untI_not {v : Vw} {d : Int} (h : jobN v d = false) : untI v d = untT v d v.tl := by unfold untI; rw [if_neg (by simp [h])]
/-- has one of the first k jobs such a task? -/
def jobK (v : Vw) (d : Int) : Nat → Bool
  | 0 => false
  | k + 1 => jobK v d k || (match v.J[k]? with
    | some j => ndX v.T j.t d
    | none => false)
theorem jobK_at {v : Vw} {d : Int} {k : Nat} {j : Jb} (h : v.J[k]? = some j) : jobK v d (k + 1) = (jobK v d k || ndX v.T j.t d) := by simp [jobK, h]
theorem jobK_take {v : Vw} {d : Int} : ∀ k, jobK v d k = (v.J.take k).any fun j => ndX v.T j.t d
  | 0 => by simp [jobK]
  | k + 1 => by
    rw [List.take_add_one, List.any_append, ← jobK_take k]
    cases h : v.J[k]? with
    | none => simp [jobK, h]
    | some j => simp [jobK, h]
theorem jobK_all {v : Vw} {d : Int} {n : Nat} (h : v.J.length = n) : jobK v d n = jobN v d := by
  rw [jobK_take, List.take_of_length_le (by omega)]
  rfl

/-- what lies there -/
structure UL (w : World) (v : Vw) : Prop where
  t : LAt w v.ta v.tl v.T
  n : NAt w v.na v.nl v.N
  j : JsAt w v.ja v.jl v.J
  e : v.nl = v.tl
theorem UL.kept {w w' : World} {v : Vw} (h : UL w v) (k : Kp w w') : UL w' v := ⟨h.t.kept k, h.n.kept k, h.j.kept k, h.e⟩

set_option maxHeartbeats 4000000 in
theorem pneeds_any (ta : Option Addr) (tl tc : Nat) (T : List Tk) (x d : Int) (w : World) (h : LAt w ta tl T) :
    Calls Try.prog 18 #[.slice ta tl tc, .int .i64 x, .int .i64 d] w fun e w' => e = .returned (.bool (ndX T x d)) ∧ Kp w w' := by
  have hby := h.by'
  by_cases h1 : 0 ≤ x
  · by_cases h2 : x < (tl : Int)
    · obtain ⟨k, rfl⟩ : ∃ k : Nat, x = (k : Int) := ⟨x.toNat, by omega⟩
      have hk : k < tl := by omega
      obtain ⟨b, off, t, rfl, hb, hg, ht, c0, c1, c2, c3⟩ := h.one hk
      rw [ndX_at hg]
      have HN : Hid (Calls Try.prog 25 #[.agg #[.int .i64 t.p, .int .i64 t.c, .slice t.sa t.sl t.sc, .slice t.da t.dl t.dc], .int .i64 d] w fun e w' => e = .returned (.bool (ndB t d)) ∧ Kp w w') := needs_any t d w ht
      have d1 : decide (0 ≤ (k : Int)) = true := decide_eq_true h1
      have d2 : decide ((k : Int) < (tl : Int)) = true := decide_eq_true h2
      have kn : ((k : Int)).toNat = k := by omega
      generalize ndB t d = r at *
      clear h hg ht
      go_enter Try.func18, Try.ntmps18
      go_wp2_with fail
      refine Calls.mono HN.out ?_
      rintro e w1 ⟨rfl, k1⟩
      go_wp2
      go_ret
      exact ⟨by first | rfl | simp, k1⟩
    · rw [ndX_high h.ln h2]
      have d1 : decide (0 ≤ x) = true := decide_eq_true h1
      have d2 : decide (x < (tl : Int)) = false := decide_eq_false h2
      clear h
      go_enter Try.func18, Try.ntmps18
      go_wp2
      go_ret
      exact ⟨by first | rfl | simp, Kp.refl _⟩
  · rw [ndX_low h1]
    have d1 : decide (0 ≤ x) = false := decide_eq_false h1
    clear h
    go_enter Try.func18, Try.ntmps18
    go_wp2
    go_ret
    exact ⟨by first | rfl | simp, Kp.refl _⟩

theorem pcomes_any (v : Vw) (k : Nat) (w : World) (h : NAt w v.na v.nl v.N) (hk : k < v.nl) :
    Calls Try.prog 19 #[.slice v.na v.nl v.nc, .int .i64 k, .int .i64 v.now] w fun e w' => e = .returned (.int .i64 (coI v k)) ∧ Kp w w' := by
  obtain ⟨b, off, e, hb, c0⟩ := h.one hk
  have HC : Hid (coI v k = mx (v.N.getD k 0) v.now) := rfl
  have MX : ∀ ts t w, (Builtin.max_ ts t #[.int .i64 (v.N.getD k 0), .int .i64 v.now]).run Try.prog w = .ok (.int .i64 (mx (v.N.getD k 0) v.now)) w := fun ts t w => run_max2 ts t (v.N.getD k 0) v.now w
  generalize mx (v.N.getD k 0) v.now = r at *
  generalize v.N.getD k 0 = x at *
  clear h
  have h1 : ¬ (k : Int) < 0 := by omega
  have h2 : (k : Int) < (v.nl : Int) := by omega
  have h3 : ¬ (v.nl : Int) ≤ (k : Int) := by omega
  have h4 : 0 ≤ (k : Int) := by omega
  have h5 : (k : Int).toNat = k := by omega
  rw [e] at *
  clear e
  go_enter Try.func19, Try.ntmps19
  go_wp2
  go_ret
  exact ⟨congrArg (fun x => Ending.returned (Value.int .i64 x)) HC.out.symm, Kp.refl _⟩

set_option maxHeartbeats 4000000 in
/-- a job of a task that needs it -/
theorem until_lit (ta : Option Addr) (tl tc : Nat) (T : List Tk) (d : Int) (B C : Nat) (w : World) (hB : B < w.heap.size) (hC : C < w.heap.size) (cB : w.cell? ⟨B, 0, none⟩ = some (.slice ta tl tc)) (cC : w.cell? ⟨C, 0, none⟩ = some (.int .i64 d)) (h : LAt w ta tl T) :
    LitJ w 17 #[.pointer (some ⟨B, 0, none⟩), .pointer (some ⟨C, 0, none⟩)] (fun j => ndX T j.t d) := by
  intro w' j hk
  show Calls Try.prog 17 #[.agg #[.int .i64 j.t, .int .i64 j.r, .int .i64 j.d, .int .i64 j.l, .int .i64 j.x, .bool j.s], .pointer (some ⟨B, 0, none⟩), .pointer (some ⟨C, 0, none⟩)] w' _
  obtain ⟨V, HV, KV, TV⟩ := jb_box w' j
  have e1 : V.cell? ⟨B, 0, none⟩ = some (.slice ta tl tc) := ((hk.trans KV).cell (p := ⟨B, 0, none⟩) hB).trans cB
  have e2 : V.cell? ⟨C, 0, none⟩ = some (.int .i64 d) := ((hk.trans KV).cell (p := ⟨C, 0, none⟩) hC).trans cC
  have HN : Hid (Calls Try.prog 18 #[.slice ta tl tc, .int .i64 j.t, .int .i64 d] V fun e w' => e = .returned (.bool (ndX T j.t d)) ∧ Kp V w') := pneeds_any ta tl tc T j.t d V (h.kept (hk.trans KV))
  obtain ⟨y0, y1, y2, y3, y4, y5⟩ := TV V (Kp.refl _)
  have HK : Hid (Kp w' V) := KV
  clear hk cB cC hB hC TV KV h
  simp only
  generalize ndX T j.t d = r at *
  go_enter Try.func17, Try.ntmps17
  go_upto_region 1 with fail
  rw [← HV.out]
  clear HV
  go_wp2_with fail
  refine Calls.mono HN.out ?_
  rintro e w1 ⟨rfl, k1⟩
  go_wp2
  go_ret
  exact ⟨rfl, HK.out.trans k1⟩

/-- the tasks' and the device's own blocks -/
theorem two_box (w : World) (ta : Option Addr) (tl tc : Nat) (d : Int) : ∃ W0, Hid (W0 = (w.alloc (.cells #[.slice ta tl tc] 27)).alloc (.cells #[.int .i64 d] 3)) ∧ Kp w W0 ∧ ∀ W, Kp W0 W → W.cell? ⟨w.heap.size, 0, none⟩ = some (.slice ta tl tc) ∧ W.cell? ⟨w.heap.size + 1, 0, none⟩ = some (.int .i64 d) ∧ w.heap.size + 1 < W.heap.size := by
  refine ⟨_, rfl, ((Kp.refl _).alloc _).alloc _, fun W q => ?_⟩
  have h1 := kp_block (kp_block (heap_alloc_at w (.cells #[.slice ta tl tc] 27)) ((Kp.refl _).alloc (.cells #[.int .i64 d] 3))) q
  have h2 := kp_block (alloc2_at w (.cells #[.slice ta tl tc] 27) (.cells #[.int .i64 d] 3)) q
  exact ⟨cell_of h1 rfl, cell_of h2 rfl, lt_blk h2⟩

set_option maxRecDepth 100000 in
set_option maxHeartbeats 8000000 in
theorem until_any (v : Vw) (d : Int) (w : World) (h : UL w v) :
    Calls Try.prog 8 #[.slice v.ta v.tl v.tc, .slice v.na v.nl v.nc, .slice v.ja v.jl v.jc, .int .i64 d, .int .i64 v.now] w fun e w' => e = .returned (.int .i64 (untI v d)) ∧ Kp w w' := by
  have hmf : ∀ (fn : Fn) (first cap : Array Value) (w : World), (Instr.makeFunc fn first cap).run Try.prog w = .ok (.func fn first cap) w := fun _ _ _ _ => rfl
  obtain ⟨W0, HW, K0, P0⟩ := two_box w v.ta v.tl v.tc d
  have HP : Hid (∀ W, Kp W0 W → W.cell? ⟨w.heap.size, 0, none⟩ = some (.slice v.ta v.tl v.tc) ∧ W.cell? ⟨w.heap.size + 1, 0, none⟩ = some (.int .i64 d) ∧ w.heap.size + 1 < W.heap.size) := P0
  have HK : Hid (Kp w W0) := K0
  have HL : Hid (Calls Try.prog 16 #[.slice v.ja v.jl v.jc, .func (.func 17) #[] #[.pointer (some ⟨w.heap.size, 0, none⟩), .pointer (some ⟨w.heap.size + 1, 0, none⟩)]] W0
      fun e w' => e = .returned (.bool (jobN v d)) ∧ Kp W0 w') := by
    obtain ⟨c1, c2, c3⟩ := P0 W0 (Kp.refl _)
    exact containsJ_any _ _ _ _ _ _ _ _ W0 (h.j.kept K0) (enters_of Try.func17 (by kernel_rfl) rfl) (until_lit v.ta v.tl v.tc v.T d w.heap.size (w.heap.size + 1) W0 (by omega) c3 c1 c2 (h.t.kept K0))
  have HNe : Hid (∀ W (k : Nat), Kp W0 W → Calls Try.prog 18 #[.slice v.ta v.tl v.tc, .int .i64 (k : Int), .int .i64 d] W fun e w' => e = .returned (.bool (ndX v.T (k : Int) d)) ∧ Kp W w') := fun W k q => pneeds_any v.ta v.tl v.tc v.T k d W (h.t.kept (K0.trans q))
  have HCo : Hid (∀ W (k : Nat), k < v.tl → Kp W0 W → Calls Try.prog 19 #[.slice v.na v.nl v.nc, .int .i64 (k : Int), .int .i64 v.now] W fun e w' => e = .returned (.int .i64 (coI v k)) ∧ Kp W w') := fun W k hk q => pcomes_any v k W (h.n.kept (K0.trans q)) (by rw [h.e]; exact hk)
  have hby := h.t.by'
  obtain ⟨res, hres⟩ : ∃ res, untI v d = res := ⟨_, rfl⟩
  rw [hres]
  have HR : Hid (untI v d = res) := hres
  obtain ⟨p0, p1, p2⟩ := P0 W0 (Kp.refl _)
  clear hres K0 P0 h
  cases hj : jobN v d with
  | true =>
    rw [hj] at HL
    have HN : Hid (v.now = res) := by show _ = _; rw [← HR.out, untI_job hj]
    have HL' : Hid _ := HL.out
    clear hj HL HR
    go_enter Try.func8, Try.ntmps8
    go_wp2_with fail
    rw [← HW.out]
    clear HW
    refine Calls.mono HL'.out ?_
    rintro e w1 ⟨rfl, k1⟩
    go_wp2
    go_ret
    exact ⟨congrArg (fun x => Ending.returned (Value.int .i64 x)) HN.out, HK.out.trans k1⟩
  | false =>
    rw [hj] at HL
    have HN : Hid (untT v d v.tl = res) := by show _ = _; rw [← HR.out, untI_not hj]
    have HL' : Hid _ := HL.out
    clear hj HL HR
    go_enter Try.func8, Try.ntmps8
    go_wp2_with fail
    rw [← HW.out]
    clear HW
    refine Calls.mono HL'.out ?_
    rintro e w1 ⟨rfl, k1⟩
    have HK1 : Hid (Kp W0 w1) := k1
    clear p0 p1 p2 HL' k1
    obtain ⟨p0, p1, p2⟩ := HP.out _ HK1.out
    go_wp2
    clear p0 p1 p2
    go_loopw [11, 19] (fun l i wr => ∃ (k : Nat) (lv : Int), k ≤ v.tl ∧ i = .int .i64 k ∧ l = .int .i64 lv ∧ Hid (untT v d k = lv) ∧ Kp W0 wr) (fun _ i _ => v.tl - (intOf i).toNat)
    case atStart => exact ⟨0, _, Nat.zero_le _, rfl, rfl, rfl, HK1.out⟩
    case round =>
      obtain ⟨k, lv, hk, rfl, rfl, HU, hkp⟩ := hrel
      have HKr : Hid (Kp W0 wr) := hkp
      obtain ⟨p0, p1, p2⟩ := HP.out _ hkp
      by_cases hlt : k < v.tl
      · have hlt' : (k : Int) < (v.tl : Int) := by omega
        have HNk : Hid (Calls Try.prog 18 #[.slice v.ta v.tl v.tc, .int .i64 (k : Int), .int .i64 d] wr fun e w' => e = .returned (.bool (ndX v.T (k : Int) d)) ∧ Kp wr w') := HNe.out wr k hkp
        have HCk : Hid (∀ W, Kp W0 W → Calls Try.prog 19 #[.slice v.na v.nl v.nc, .int .i64 (k : Int), .int .i64 v.now] W fun e w' => e = .returned (.int .i64 (coI v k)) ∧ Kp W w') := fun W q => HCo.out W k hlt q
        have HT1 : Hid (ndX v.T (k : Int) d = true → untT v d (k + 1) = mn lv (coI v k)) := fun q => by rw [untT_in q, HU.out]
        have HT2 : Hid (ndX v.T (k : Int) d = false → untT v d (k + 1) = lv) := fun q => by rw [untT_not q, HU.out]
        have MN : ∀ ts t w, (Builtin.min_ ts t #[.int .i64 lv, .int .i64 (coI v k)]).run Try.prog w = .ok (.int .i64 (mn lv (coI v k))) w := fun ts t w => run_min2 ts t lv (coI v k) w
        generalize ndX v.T (k : Int) d = nd at *
        generalize mn lv (coI v k) = r at *
        generalize coI v k = co at *
        clear hkp HNe HCo HU HN
        cases nd with
        | true =>
          have HT : Hid (untT v d (k + 1) = r) := HT1.out rfl
          clear HT1 HT2
          go_wp2_with fail
          refine Calls.mono HNk.out ?_
          rintro e w3 ⟨rfl, k3⟩
          have HK3 : Hid (Kp W0 w3) := HKr.out.trans k3
          clear k3 p0 p1 p2
          go_wp2_with fail
          refine Calls.mono (HCk.out _ HK3.out) ?_
          rintro e w4 ⟨rfl, k4⟩
          go_wp2
          go_roundw
          case rel => exact ⟨k + 1, r, by omega, by go_num, rfl, HT.out, HK3.out.trans k4⟩
          case measure => simp [intOf]; omega
        | false =>
          have HT : Hid (untT v d (k + 1) = lv) := HT2.out rfl
          clear HT1 HT2 MN
          go_wp2_with fail
          refine Calls.mono HNk.out ?_
          rintro e w3 ⟨rfl, k3⟩
          go_wp2
          go_roundw
          case rel => exact ⟨k + 1, lv, by omega, by go_num, rfl, HT.out, HKr.out.trans k3⟩
          case measure => simp [intOf]; omega
      · have hlt' : ¬ (k : Int) < (v.tl : Int) := by omega
        obtain rfl : k = v.tl := by omega
        have HF : Hid (lv = res) := HU.out.symm.trans HN.out
        clear HU HN
        go_wp2
        go_ret
        exact ⟨congrArg (fun x => Ending.returned (Value.int .i64 x)) HF.out, HK.out.trans HKr.out⟩

set_option maxRecDepth 100000 in
set_option maxHeartbeats 8000000 in
theorem runtil_any (v : Vw) (d : Int) (w : World) (h : UL w v) (hJ : ∀ j ∈ v.J, 0 ≤ j.t ∧ j.t < v.tl) (hZ : ∀ t ∈ v.T, t.p ≤ 0 → ndB t d = false) :
    Calls Try.prog 9 #[.slice v.ta v.tl v.tc, .slice v.na v.nl v.nc, .slice v.ja v.jl v.jc, .int .i64 d, .int .i64 v.now] w fun e w' => e = .returned (.int .i64 (untI v d)) ∧ Kp w w' := by
  have H0 : Hid (UL w v) := h
  have hby := h.t.by'
  have hjy := h.j.by'
  have HJ : Hid (∀ j ∈ v.J, 0 ≤ j.t ∧ j.t < v.tl) := hJ
  have HZ : Hid (∀ t ∈ v.T, t.p ≤ 0 → ndB t d = false) := hZ
  have HJl : Hid (v.J.length = v.jl) := h.j.ln
  have HFr : Hid (∀ W (k : Nat), k < v.tl → Kp w W → Calls Try.prog 21 #[.slice v.na v.nl v.nc, .int .i64 k, .int .i64 v.now] W fun e w' => e = .returned (.int .i64 (coI v k)) ∧ W = w') := fun W k hk q => from_any v k W (h.n.kept q) (by rw [h.e]; exact hk)
  obtain ⟨res, hres⟩ : ∃ res, untI v d = res := ⟨_, rfl⟩
  rw [hres]
  have HR : Hid (untI v d = res) := hres
  clear hres h hJ hZ
  go_enter Try.func9, Try.ntmps9
  go_wp2
  go_loopw [11, 12] (fun l i wr => ∃ (k : Nat) (lv : Int), k ≤ v.tl ∧ i = .int .i64 k ∧ l = .int .i64 lv ∧ Hid (untT v d k = lv) ∧ Kp w wr) (fun _ i _ => v.tl - (intOf i).toNat)
  case atStart => exact ⟨0, _, Nat.zero_le _, rfl, rfl, rfl, Kp.refl _⟩
  case round =>
    obtain ⟨k, lv, hk, rfl, rfl, HU, hkp⟩ := hrel
    have HKr : Hid (Kp w wr) := hkp
    by_cases hlt : k < v.tl
    · have hlt' : (k : Int) < (v.tl : Int) := by omega
      have k0 : (0 : Int) ≤ (k : Int) := by omega
      have kn : ((k : Int)).toNat = k := by omega
      obtain ⟨b, off, t, e, hb, hg, ht, c0, c1, c2, c3⟩ := (H0.out.t.kept hkp).one hlt
      have hx : ndX v.T (k : Int) d = ndB t d := ndX_at hg d
      have HT1 : Hid (ndB t d = true → untT v d (k + 1) = mn lv (coI v k)) := fun q => by rw [untT_in (hx.trans q), HU.out]
      have HT2 : Hid (ndB t d = false → untT v d (k + 1) = lv) := fun q => by rw [untT_not (hx.trans q), HU.out]
      have HZt : Hid (t.p ≤ 0 → ndB t d = false) := HZ.out t (List.mem_of_getElem? hg)
      have HNk : Hid (Calls Try.prog 10 #[.agg #[.int .i64 t.p, .int .i64 t.c, .slice t.sa t.sl t.sc, .slice t.da t.dl t.dc], .int .i64 d] wr fun e w' => e = .returned (.bool (ndB t d)) ∧ Kp wr w') := rneeds_any t d wr ht
      have HCk : Hid (∀ W, Kp w W → Calls Try.prog 21 #[.slice v.na v.nl v.nc, .int .i64 (k : Int), .int .i64 v.now] W fun e w' => e = .returned (.int .i64 (coI v k)) ∧ W = w') := fun W q => HFr.out W k hlt q
      have HMn : Hid (∀ W, Calls Try.prog 20 #[.int .i64 lv, .int .i64 (coI v k)] W fun e w' => e = .returned (.int .i64 (mn lv (coI v k))) ∧ W = w') := fun W => rmin_at lv (coI v k) W
      generalize ndB t d = nd at *
      generalize mn lv (coI v k) = r at *
      generalize coI v k = co at *
      rw [e]
      clear e hg ht hx hkp HFr HU HZ HJ HR
      by_cases hp : 0 < t.p
      · have d1 : decide (0 < t.p) = true := decide_eq_true hp
        cases nd with
        | true =>
          have HT : Hid (untT v d (k + 1) = r) := HT1.out rfl
          clear HT1 HT2 HZt
          go_wp2_with fail
          refine Calls.mono HNk.out ?_
          rintro e w3 ⟨rfl, k3⟩
          have HK3 : Hid (Kp w w3) := HKr.out.trans k3
          clear k3 c0 c1 c2 c3
          go_wp2_with fail
          refine Calls.mono (HCk.out _ HK3.out) ?_
          rintro e w4 ⟨rfl, rfl⟩
          go_wp2_with fail
          refine Calls.mono (HMn.out _) ?_
          rintro e w4 ⟨rfl, rfl⟩
          go_wp2
          go_roundw
          case rel => exact ⟨k + 1, r, by omega, by go_num, rfl, HT.out, HK3.out⟩
          case measure => simp [intOf]; omega
        | false =>
          have HT : Hid (untT v d (k + 1) = lv) := HT2.out rfl
          clear HT1 HT2 HZt
          go_wp2_with fail
          refine Calls.mono HNk.out ?_
          rintro e w3 ⟨rfl, k3⟩
          go_wp2
          go_roundw
          case rel => exact ⟨k + 1, lv, by omega, by go_num, rfl, HT.out, HKr.out.trans k3⟩
          case measure => simp [intOf]; omega
      · have d1 : decide (0 < t.p) = false := decide_eq_false hp
        have HT : Hid (untT v d (k + 1) = lv) := HT2.out (HZt.out (by omega))
        clear HT1 HT2 HZt HNk HCk HMn
        go_wp2
        go_roundw
        case rel => exact ⟨k + 1, lv, by omega, by go_num, rfl, HT.out, HKr.out⟩
        case measure => simp [intOf]; omega
    · have hlt' : ¬ (k : Int) < (v.tl : Int) := by omega
      obtain rfl : k = v.tl := by omega
      have HU' : Hid (untT v d v.tl = lv) := HU.out
      have HR1 : Hid (jobK v d v.jl = true → v.now = res) := fun q => by rw [← HR.out, untI_job (by rw [← jobK_all HJl.out]; exact q)]
      have HR2 : Hid (jobK v d v.jl = false → lv = res) := fun q => by rw [← HR.out, untI_not (by rw [← jobK_all HJl.out]; exact q), HU'.out]
      clear HU HR hkp HFr HU' HZ
      go_wp2
      go_loopw [11, 13] (fun l i wi => ∃ (k : Nat), k ≤ v.jl ∧ i = .int .i64 k ∧ Hid (l = .int .i64 (if jobK v d k = true then v.now else lv)) ∧ Kp w wi) (fun _ i _ => v.jl - (intOf i).toNat)
      case atStart => exact ⟨0, Nat.zero_le _, rfl, rfl, HKr.out⟩
      case round =>
        clear HKr
        obtain ⟨k, hk, rfl, HM, hkp⟩ := hrel
        have HKr : Hid (Kp w wr) := hkp
        by_cases hlt : k < v.jl
        · have hlt' : (k : Int) < (v.jl : Int) := by omega
          have k0 : (0 : Int) ≤ (k : Int) := by omega
          have kn : ((k : Int)).toNat = k := by omega
          obtain ⟨b, off, j, e, hb, hg, hi, c0, c1, c2, c3, c4, c5⟩ := (H0.out.j.kept hkp).one hlt
          obtain ⟨j0, j1⟩ := HJ.out j (List.mem_of_getElem? hg)
          obtain ⟨n, hn⟩ : ∃ n : Nat, j.t = (n : Int) := ⟨j.t.toNat, by omega⟩
          have hnl : n < v.tl := by omega
          have n0 : (0 : Int) ≤ (n : Int) := by omega
          have n1 : (n : Int) < (v.tl : Int) := by omega
          have nn : ((n : Int)).toNat = n := by omega
          obtain ⟨b2, off2, t, e2, hb2, hg2, ht, x0, x1, x2, x3⟩ := (H0.out.t.kept hkp).one hnl
          have hq : jobK v d (k + 1) = (jobK v d k || ndB t d) := by rw [jobK_at hg, hn, ndX_at hg2]
          have HQ : Hid (jobK v d (k + 1) = (jobK v d k || ndB t d)) := hq
          have HNk : Hid (Calls Try.prog 10 #[.agg #[.int .i64 t.p, .int .i64 t.c, .slice t.sa t.sl t.sc, .slice t.da t.dl t.dc], .int .i64 d] wr fun e w' => e = .returned (.bool (ndB t d)) ∧ Kp wr w') := rneeds_any t d wr ht
          generalize ndB t d = nd at *
          rw [hn] at c0
          rw [e, e2]
          clear e e2 hg hg2 hi ht hq hkp hn j0 j1 HJ HR1 HR2
          cases nd with
          | true =>
            have HT : Hid (jobK v d (k + 1) = true) := by show _ = _; rw [HQ.out, Bool.or_true]
            clear HQ
            go_wp2_with fail
            refine Calls.mono HNk.out ?_
            rintro e w3 ⟨rfl, k3⟩
            go_wp2
            go_roundw
            case rel => exact ⟨k + 1, by omega, by go_num, by show _ = _; rw [HT.out]; rfl, HKr.out.trans k3⟩
            case measure => simp [intOf]; omega
          | false =>
            have HT : Hid (jobK v d (k + 1) = jobK v d k) := by show _ = _; rw [HQ.out, Bool.or_false]
            clear HQ
            go_wp2_with fail
            refine Calls.mono HNk.out ?_
            rintro e w3 ⟨rfl, k3⟩
            go_wp2
            go_roundw
            case rel => exact ⟨k + 1, by omega, by go_num, by show _ = _; rw [HT.out]; exact HM.out, HKr.out.trans k3⟩
            case measure => simp [intOf]; omega
        · have hlt' : ¬ (k : Int) < (v.jl : Int) := by omega
          obtain rfl : k = v.jl := by omega
          obtain ⟨l2, hl2⟩ : ∃ l2, (if jobK v d v.jl = true then v.now else lv) = l2 := ⟨_, rfl⟩
          have HF : Hid (l2 = res) := by
            show _ = _
            rw [← hl2]
            cases q : jobK v d v.jl with
            | true => exact HR1.out q
            | false => exact HR2.out q
          have HM' := HM.out
          rw [hl2] at HM'
          subst HM'
          clear HM HR1 HR2 hl2
          go_wp2
          go_ret
          exact ⟨congrArg (fun x => Ending.returned (Value.int .i64 x)) HF.out, HKr.out⟩

end Go.Proofs.Ytilafcplijgjjaa.PN
