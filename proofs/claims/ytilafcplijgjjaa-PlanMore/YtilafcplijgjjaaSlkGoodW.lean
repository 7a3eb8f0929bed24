/- Of which views the statements speak. -/
import Derived.Test.YtilafcplijgjjaaSlkLaw
import Derived.Test.YtilafcplijgjjaaAdmGood
import Derived.Deep.CutRange
namespace Go.Proofs.Ytilafcplijgjjaa.SK
open Go.ChangeShapes Go.WideShapes Go.ChangeAt Go.RowKit Go.Proofs.Ytilafcplijgjjaa.AR Go.Proofs.Ytilafcplijgjjaa.TB Go.Proofs.Ytilafcplijgjjaa.TK Go.Proofs.Ytilafcplijgjjaa.JB Go.Proofs.Ytilafcplijgjjaa.FX Go.Proofs.Ytilafcplijgjjaa.AD
open Go.Proofs.Ytilafcplijgjjaa.LK (Hd atH HsAt C3)

/-- the first k are so -/
def allB (f : Nat → Bool) : Nat → Bool
  | 0 => true
  | k + 1 => allB f k && f k
theorem allB_t {f : Nat → Bool} : ∀ {n : Nat}, allB f n = true ↔ ∀ k, k < n → f k = true
  | 0 => by simp [allB]
  | n + 1 => by
    rw [allB, Bool.and_eq_true, allB_t (n := n)]
    constructor
    · rintro ⟨h1, h2⟩ k hk
      by_cases e : k = n
      · subst e; exact h2
      · exact h1 k (by omega)
    · intro h
      exact ⟨fun k hk => h k (by omega), h n (by omega)⟩
theorem allB_f {f : Nat → Bool} {n k : Nat} (hk : k < n) (h : f k = false) : allB f n = false := by
  cases q : allB f n with
  | false => rfl
  | true => rw [allB_t.1 q k hk] at h; cases h
theorem allB_more {f : Nat → Bool} {k : Nat} (h : allB f k = true) (h2 : f k = true) : allB f (k + 1) = true := by rw [allB, h, h2]; rfl

/-- no task at all -/
def noB (t : Tk) : Bool := (t.p == 0) && (t.c == 0) && ((t.sl : Int) == 0) && ((t.dl : Int) == 0)
def tOk (v : Vw) (k : Nat) : Bool := match v.T[k]? with
  | some t => (noB t || tkB v.m t) && moB (v.N.getD k 0)
  | none => true
/-- has one of the first k that task? -/
def dupB (J : List Jb) (x : Int) : Nat → Bool
  | 0 => false
  | k + 1 => dupB J x k || (match J[k]? with
    | some j => j.t == x
    | none => false)
def jOkB (v : Vw) (j : Jb) : Bool := decide (0 ≤ j.t) && decide (j.t < v.tl) && !(pk v.T j.t.toNat == 0) && moB j.d && moB j.r && decide (0 ≤ j.l) && decide (j.l ≤ 4096)
def jOk (v : Vw) (k : Nat) : Bool := match v.J[k]? with
  | some j => jOkB v j && !dupB v.J j.t k
  | none => true
def hOk (v : Vw) (k : Nat) : Bool := (jof v.J (atH v.H k).t).isSome && decide (-4096 ≤ (atH v.H k).l) && decide ((atH v.H k).l ≤ 4096)
def gF (v : Vw) (a : Int) : Bool := v.m.may && decide (v.tl ≤ 64) && decide (v.nl = v.tl) && moB v.now && moB a
def goodV (v : Vw) (a : Int) : Bool := gF v a && allB (tOk v) v.tl && allB (jOk v) v.jl && allB (hOk v) v.hl

theorem dupB_f {J : List Jb} {x : Int} : ∀ {k : Nat}, dupB J x k = false → ∀ i y, i < k → J[i]? = some y → y.t ≠ x
  | 0, _, i, y, hi, _ => by omega
  | k + 1, h, i, y, hi, hy => by
    simp only [dupB, Bool.or_eq_false_iff] at h
    by_cases e : i = k
    · subst e
      rw [hy] at h
      simpa using h.2
    · exact dupB_f h.1 i y (by omega) hy
theorem dupB_more {J : List Jb} {x : Int} {k : Nat} {j : Jb} (h : dupB J x k = false) (hj : J[k]? = some j) (e : j.t ≠ x) : dupB J x (k + 1) = false := by simp [dupB, h, hj, e]
theorem dupB_t {J : List Jb} {x : Int} {i : Nat} {j : Jb} (hj : J[i]? = some j) (e : j.t = x) : ∀ {k : Nat}, i < k → dupB J x k = true
  | k + 1, hk => by
    by_cases q : i = k
    · subst q; simp [dupB, hj, e]
    · have := dupB_t hj e (k := k) (by omega)
      simp [dupB, this]

theorem few_of : ∀ (n : Nat) (l : List Nat), l.Nodup → (∀ x ∈ l, x < n) → l.length ≤ n
  | 0, l, _, h => by
    cases l with
    | nil => simp
    | cons a r => exact absurd (h a (by simp)) (by omega)
  | n + 1, l, hd, h => by
    by_cases hm : n ∈ l
    · have h1 := few_of n (l.erase n) (hd.erase n) (fun x hx => by
        have hx' := (hd.mem_erase_iff).1 hx
        have := h x hx'.2
        have hne := hx'.1
        omega)
      rw [List.length_erase_of_mem hm] at h1
      omega
    · have := few_of n l hd (fun x hx => by
        have h1 := h x hx
        have h2 : x ≠ n := fun e => hm (e ▸ hx)
        omega)
      omega

theorem noB_t {t : Tk} (h : noB t = true) : t.p = 0 ∧ t.c = 0 ∧ t.sl = 0 ∧ t.dl = 0 := by
  simp [noB] at h
  exact ⟨h.1.1.1, h.1.1.2, h.1.2, h.2⟩

/-- what a view has of which the chapter speaks -/
theorem good_vg {w : World} {v : Vw} {a : Int} (hv : VL w v) (h : goodV v a = true) : VG v ∧ (0 ≤ a ∧ a ≤ 2097152) ∧ ∀ t ∈ v.T, t.p ≠ 0 → tkB v.m t = true := by
  simp only [goodV, gF, Bool.and_eq_true, decide_eq_true_eq] at h
  obtain ⟨⟨⟨⟨⟨⟨⟨g1, g2⟩, g3⟩, g4⟩, g5⟩, gt⟩, gj⟩, gh⟩ := h
  have hor := (mayB_t.1 g1).1.2.2.2.2.2.2
  have tk : ∀ t ∈ v.T, ∃ k, v.T[k]? = some t ∧ k < v.tl := fun t ht => by
    obtain ⟨i, hi, e⟩ := List.mem_iff_getElem.1 ht
    exact ⟨i, by rw [List.getElem?_eq_getElem hi, e], by have := hv.t.ln; omega⟩
  have each : ∀ t ∈ v.T, noB t = true ∨ tkB v.m t = true := fun t ht => by
    obtain ⟨k, hk, hl⟩ := tk t ht
    have := allB_t.1 gt k hl
    simp only [tOk, hk, Bool.and_eq_true, Bool.or_eq_true] at this
    exact this.1
  have jk : ∀ j ∈ v.J, ∃ k, v.J[k]? = some j ∧ k < v.jl := fun j hj => by
    obtain ⟨i, hi, e⟩ := List.mem_iff_getElem.1 hj
    exact ⟨i, by rw [List.getElem?_eq_getElem hi, e], by have := hv.j.ln; omega⟩
  have jb : ∀ j ∈ v.J, (0 ≤ j.t ∧ j.t < v.tl) ∧ pk v.T j.t.toNat ≠ 0 ∧ (0 ≤ j.d ∧ j.d ≤ 2097152) ∧ (0 ≤ j.l ∧ j.l ≤ 4096) := fun j hj => by
    obtain ⟨k, hk, hl⟩ := jk j hj
    have := allB_t.1 gj k hl
    simp only [jOk, hk, jOkB, Bool.and_eq_true, decide_eq_true_eq] at this
    obtain ⟨⟨⟨⟨⟨⟨⟨h1, h2⟩, h3⟩, h4⟩, h5⟩, h6⟩, h7⟩, h8⟩ := this
    exact ⟨⟨h1, h2⟩, by simpa using h3, moB_t.1 h4, h6, h7⟩
  have jo : ∀ (i k : Nat) (x y : Jb), v.J[i]? = some x → v.J[k]? = some y → x.t = y.t → i = k := by
    have one : ∀ (i k : Nat) (x y : Jb), i < k → v.J[i]? = some x → v.J[k]? = some y → x.t ≠ y.t := fun i k x y hi hx hy => by
      have hl : k < v.jl := by have := (List.getElem?_eq_some_iff.1 hy).1; have := hv.j.ln; omega
      have := allB_t.1 gj k hl
      simp only [jOk, hy, Bool.and_eq_true, Bool.not_eq_true'] at this
      exact dupB_f this.2 i x hi hx
    intro i k x y hx hy e
    rcases Nat.lt_trichotomy i k with q | q | q
    · exact absurd e (one i k x y q hx hy)
    · exact q
    · exact absurd e.symm (one k i y x q hy hx)
  refine ⟨⟨bd_of g1, g2, g3, fun t ht => ?_, moB_t.1 g4, fun k hk => ?_, jb, jo, ?_, fun h hh => ?_⟩, moB_t.1 g5, fun t ht hp => ?_⟩
  · rcases each t ht with q | q
    · obtain ⟨q1, q2, q3, q4⟩ := noB_t q
      exact ⟨⟨by omega, fun k hk => by omega⟩, by omega, by omega, fun _ => q3⟩
    · obtain ⟨b1, b2, b3⟩ := bt_of q
      exact ⟨b1, by omega, by omega, fun e => by omega⟩
  · have hl : k < v.T.length := by rw [hv.t.ln]; exact hk
    have := allB_t.1 gt k hk
    simp only [tOk, List.getElem?_eq_getElem hl, Bool.and_eq_true] at this
    exact moB_t.1 this.2
  · have hnd : (v.J.map fun j => j.t.toNat).Nodup := by
      refine List.pairwise_iff_getElem.2 (fun i k hi hk hik e => ?_)
      simp only [List.length_map] at hi hk
      simp only [List.getElem_map] at e
      have b1 := (jb v.J[i] (List.getElem_mem (by omega))).1
      have b2 := (jb v.J[k] (List.getElem_mem hk)).1
      have := jo i k v.J[i] v.J[k] (List.getElem?_eq_getElem (by omega)) (List.getElem?_eq_getElem hk) (by omega)
      omega
    have := few_of v.tl _ hnd (fun x hx => by
      obtain ⟨j, hj, rfl⟩ := List.mem_map.1 hx
      have := (jb j hj).1
      omega)
    rw [List.length_map, hv.j.ln] at this
    omega
  · obtain ⟨k, hk, rfl⟩ := LK.mem_atH hh
    have := allB_t.1 gh k (by have := hv.h.ln; omega)
    simp only [hOk, Bool.and_eq_true, decide_eq_true_eq] at this
    obtain ⟨j, hj⟩ := Option.isSome_iff_exists.1 this.1.1
    exact ⟨⟨j, (jof_mem hj).1, (jof_mem hj).2⟩, this.1.2, this.2⟩
  · rcases each t ht with q | q
    · exact absurd (noB_t q).1 hp
    · exact q

theorem tOk_at {v : Vw} {k : Nat} {t : Tk} (h : v.T[k]? = some t) : tOk v k = ((noB t || tkB v.m t) && moB (v.N.getD k 0)) := by simp [tOk, h]
theorem jOk_at {v : Vw} {k : Nat} {j : Jb} (h : v.J[k]? = some j) : jOk v k = (jOkB v j && !dupB v.J j.t k) := by simp [jOk, h]

set_option maxRecDepth 100000 in
set_option maxHeartbeats 32000000 in
theorem good_any (v : Vw) (a : Int) (w : World) (hv : VL w v) :
    Calls Try.prog 6 #[v.rv a] w fun e w' => e = .returned (.bool (goodV v a)) ∧ Kp w w' := by
  obtain ⟨W0, HW, K0, P0⟩ := rview_box w v a
  have HP : Hid (∀ W, Kp W0 W → B15 W w.heap.size v a) := fun W k => P0.kp k
  have HK : Hid (Kp w W0) := K0
  have HV0 : Hid (VL w v) := hv
  have hy := hv.hy
  have hty := hv.t.by'
  have hjy := hv.j.by'
  have HTa : Hid (Calls Try.prog 13 #[v.m.v] W0 fun e w' => e = .returned (.bool v.m.may) ∧ Kp W0 w') := table_at v.m W0 (hv.m.kept K0)
  have HMo : Hid (∀ W n, Calls Try.prog 14 #[.int .i64 n] W fun e w' => e = .returned (.bool (moB n)) ∧ W = w') := fun W n => moment_any n W
  have HTk : Hid (∀ W (t : Tk), TAt W t → Calls Try.prog 15 #[v.m.v, t.v] W fun e w' => e = .returned (.bool (tkB v.m t)) ∧ Kp W w') := fun W t q => rtask_any v.m t W q
  have HJo : Hid (∀ W x j s, (jof v.J x).getD zJ = j → (jof v.J x).isSome = s → Kp w W → Calls Try.prog 11 #[.slice v.ja v.jl v.jc, .int .i64 x] W fun e w' => e = .returned (.tuple #[.agg #[.int .i64 j.t, .int .i64 j.r, .int .i64 j.d, .int .i64 j.l, .int .i64 j.x, .bool j.s], .bool s]) ∧ Kp W w') := fun W x j s h1 h2 q => rof_any _ _ _ _ x W (hv.j.kept q) j s h1 h2
  obtain ⟨res, hres⟩ : ∃ res, goodV v a = res := ⟨_, rfl⟩
  rw [hres]
  have HR : Hid ((gF v a && allB (tOk v) v.tl && allB (jOk v) v.jl && allB (hOk v) v.hl) = res) := hres
  obtain ⟨p0, p1, p2, p3, p4, p5, p6, p7, p8, p9, p10, p11, p12, p13, p14⟩ := P0.all
  unfold Vw.rv Mc.v Tk.v at *
  clear hres K0 P0 hv
  cases hm : v.m.may with
  | false =>
    have HN : Hid (false = res) := by have := HR.out; simp only [gF, hm, Bool.false_and] at this; exact this
    rw [hm] at HTa
    have HTa' : Hid _ := HTa
    clear HR hm HTa
    go_enter Try.func6, Try.ntmps6
    go_wp2_with fail
    rw [← HW.out]
    refine Calls.mono HTa'.out ?_
    rintro e w1 ⟨rfl, k1⟩
    go_wp2
    go_ret
    exact ⟨congrArg (fun b => Ending.returned (Value.bool b)) HN.out, HK.out.trans k1⟩
  | true =>
    rw [hm] at HTa
    have HTa' : Hid _ := HTa
    have HGF : Hid (gF v a = (decide (v.tl ≤ 64) && decide (v.nl = v.tl) && moB v.now && moB a)) := by show _ = _; simp only [gF, hm, Bool.true_and]
    clear hm HTa
    by_cases g2 : v.tl ≤ 64
    · have d2 : ¬ (64 : Int) < (v.tl : Int) := by omega
      by_cases g3 : v.nl = v.tl
      · have d3 : ((v.nl : Int) != (v.tl : Int)) = false := by simp [g3]
        have d3' : ((v.nl : Int) == (v.tl : Int)) = true := by simp [g3]
        have HG3 : Hid (v.nl = v.tl) := g3
        have HGF2 : Hid (gF v a = (moB v.now && moB a)) := by show _ = _; rw [HGF.out, decide_eq_true g2, decide_eq_true g3, Bool.true_and, Bool.true_and]
        have HM1 : Hid (∀ W, Calls Try.prog 14 #[.int .i64 v.now] W fun e w' => e = .returned (.bool (moB v.now)) ∧ W = w') := fun W => HMo.out W _
        have HM2 : Hid (∀ W, Calls Try.prog 14 #[.int .i64 a] W fun e w' => e = .returned (.bool (moB a)) ∧ W = w') := fun W => HMo.out W _
        clear g3 HGF
        generalize moB v.now = n1 at *
        generalize moB a = n2 at *
        cases n1 with
        | false =>
          have HN : Hid (false = res) := by have := HR.out; rw [HGF2.out] at this; simp only [Bool.false_and] at this; exact this
          clear HR HGF2
          go_enter Try.func6, Try.ntmps6
          go_wp2_with fail
          rw [← HW.out]
          refine Calls.mono HTa'.out ?_
          rintro e w1 ⟨rfl, k1⟩
          have HK1 : Hid (Kp W0 w1) := k1
          clear p0 p1 p2 p3 p4 p5 p6 p7 p8 p9 p10 p11 p12 p13 p14 k1
          obtain ⟨p0, p1, p2, p3, p4, p5, p6, p7, p8, p9, p10, p11, p12, p13, p14⟩ := (HP.out _ HK1.out).all
          go_wp2_with fail
          refine (HM1.out _).mono ?_
          rintro e w2 ⟨rfl, rfl⟩
          go_wp2
          go_ret
          exact ⟨congrArg (fun b => Ending.returned (Value.bool b)) HN.out, HK.out.trans HK1.out⟩
        | true =>
          cases n2 with
          | false =>
            have HN : Hid (false = res) := by have := HR.out; rw [HGF2.out] at this; simp only [Bool.and_false, Bool.false_and] at this; exact this
            clear HR HGF2
            go_enter Try.func6, Try.ntmps6
            go_wp2_with fail
            rw [← HW.out]
            refine Calls.mono HTa'.out ?_
            rintro e w1 ⟨rfl, k1⟩
            have HK1 : Hid (Kp W0 w1) := k1
            clear p0 p1 p2 p3 p4 p5 p6 p7 p8 p9 p10 p11 p12 p13 p14 k1
            obtain ⟨p0, p1, p2, p3, p4, p5, p6, p7, p8, p9, p10, p11, p12, p13, p14⟩ := (HP.out _ HK1.out).all
            go_wp2_with fail
            refine (HM1.out _).mono ?_
            rintro e w2 ⟨rfl, rfl⟩
            go_wp2_with fail
            refine (HM2.out _).mono ?_
            rintro e w3 ⟨rfl, rfl⟩
            go_wp2
            go_ret
            exact ⟨congrArg (fun b => Ending.returned (Value.bool b)) HN.out, HK.out.trans HK1.out⟩
          | true =>
            have HR2 : Hid ((allB (tOk v) v.tl && allB (jOk v) v.jl && allB (hOk v) v.hl) = res) := by have := HR.out; rw [HGF2.out] at this; simp only [Bool.true_and, Bool.and_true] at this; exact this
            clear HR HGF2
            go_enter Try.func6, Try.ntmps6
            go_wp2_with fail
            rw [← HW.out]
            refine Calls.mono HTa'.out ?_
            rintro e w1 ⟨rfl, k1⟩
            have HK1 : Hid (Kp W0 w1) := k1
            clear p0 p1 p2 p3 p4 p5 p6 p7 p8 p9 p10 p11 p12 p13 p14 k1 HW
            obtain ⟨p0, p1, p2, p3, p4, p5, p6, p7, p8, p9, p10, p11, p12, p13, p14⟩ := (HP.out _ HK1.out).all
            go_wp2_with fail
            refine (HM1.out _).mono ?_
            rintro e w2 ⟨rfl, rfl⟩
            go_wp2_with fail
            refine (HM2.out _).mono ?_
            rintro e w3 ⟨rfl, rfl⟩
            go_wp2
            clear p0 p1 p2 p3 p4 p5 p6 p7 p8 p9 p10 p11 p12 p13 p14 HM1 HM2 HTa' d2 d3 d3'
            go_loopw [3] (fun i wr => ∃ k : Nat, k ≤ v.tl ∧ i = .int .i64 k ∧ Hid (allB (tOk v) k = true) ∧ Kp W0 wr) (fun i _ => v.tl - (intOf i).toNat)
            case atStart => exact ⟨0, Nat.zero_le _, rfl, rfl, HK1.out⟩
            case round =>
              clear HK1
              obtain ⟨k, hk, rfl, HL, hkp⟩ := hrel
              have HKr : Hid (Kp W0 wr) := hkp
              obtain ⟨p0, p1, p2, p3, p4, p5, p6, p7, p8, p9, p10, p11, p12, p13, p14⟩ := (HP.out _ hkp).all
              have hgb : w.heap.size < wr.heap.size := (HP.out _ hkp).lt
              by_cases hlt : k < v.tl
              · have hlt' : (k : Int) < (v.tl : Int) := by omega
                have k0 : (0 : Int) ≤ (k : Int) := by omega
                have kn : ((k : Int)).toNat = k := by omega
                obtain ⟨b, off, t, e, hb, hg, ht, c0, c1, c2, c3⟩ := (HV0.out.t.kept (HK.out.trans hkp)).one hlt
                obtain ⟨nb, no, e2, hnb, cn⟩ := (HV0.out.n.kept (HK.out.trans hkp)).one (show k < v.nl by have := HG3.out; omega)
                obtain ⟨V, HV, KV, TV⟩ := tk_box wr t
                have HTV : Hid (∀ W, Kp V W → W.cell? ⟨wr.heap.size, 0, none⟩ = some (.int .i64 t.p) ∧ W.cell? ⟨wr.heap.size, 1, none⟩ = some (.int .i64 t.c) ∧ W.cell? ⟨wr.heap.size, 2, none⟩ = some (.slice t.sa t.sl t.sc) ∧ W.cell? ⟨wr.heap.size, 3, none⟩ = some (.slice t.da t.dl t.dc)) := TV
                have HKV : Hid (Kp W0 V) := hkp.trans KV
                have HTt : Hid (Calls Try.prog 15 #[.agg #[.slice v.m.aL v.m.lL v.m.cL, .slice v.m.aS v.m.lS v.m.cS, .slice v.m.aD v.m.lD v.m.cD, .int .i64 v.m.idle, .int .i64 v.m.crit, .int .i64 v.m.sw, .int .i64 v.m.swe, .int .i64 v.m.sems, .int .i64 v.m.hor], .agg #[.int .i64 t.p, .int .i64 t.c, .slice t.sa t.sl t.sc, .slice t.da t.dl t.dc]] V fun e w' => e = .returned (.bool (tkB v.m t)) ∧ Kp V w') := HTk.out V t (ht.kept KV)
                have HMk : Hid (∀ W, Calls Try.prog 14 #[.int .i64 (v.N.getD k 0)] W fun e w' => e = .returned (.bool (moB (v.N.getD k 0))) ∧ W = w') := fun W => HMo.out W _
                have HOk : Hid (tOk v k = ((noB t || tkB v.m t) && moB (v.N.getD k 0))) := tOk_at hg
                have HCN : Hid (∀ W, Kp V W → W.cell? ⟨nb, no + k, none⟩ = some (.int .i64 (v.N.getD k 0))) := fun W q => ((KV.trans q).cell (by exact hnb)).trans cn
                have HF : Hid (tOk v k = false → false = res) := fun q => by rw [← HR2.out, allB_f hlt q]; rfl
                have HT : Hid (tOk v k = true → allB (tOk v) (k + 1) = true) := fun q => allB_more HL.out q
                have HNo : Hid (noB t = ((t.p == 0) && (t.c == 0) && ((t.sl : Int) == 0) && ((t.dl : Int) == 0))) := rfl
                clear hg ht KV TV hkp
                generalize tOk v k = ok at *
                generalize v.N.getD k 0 = nx at *
                generalize moB nx = mo at *
                generalize tkB v.m t = tb at *
                generalize noB t = nt at *
                have HE2 : Hid (v.na = some ⟨nb, no, none⟩) := e2
                rw [e] at p9
                rw [e2] at p10
                clear e e2 hnb cn
                go_upto_region 7 with fail
                rw [← HV.out]
                clear c0 c1 c2 c3
                obtain ⟨x0, x1, x2, x3⟩ := HTV.out _ (Kp.refl _)
                go_cut [5] from 44 to 93 (fun c wx => c = .bool nt ∧ wx = V)
                case first =>
                  have hA := HNo.out
                  clear HOk HF HT HNo
                  cases h1 : t.p == 0 with
                  | false =>
                    simp only [h1, Bool.false_and] at hA
                    subst hA
                    go_wp2
                    go_meet
                    exact ⟨rfl, rfl⟩
                  | true =>
                    cases h2 : t.c == 0 with
                    | false =>
                      simp only [h1, h2, Bool.and_false, Bool.false_and] at hA
                      subst hA
                      go_wp2
                      go_meet
                      exact ⟨rfl, rfl⟩
                    | true =>
                      cases h3 : (t.sl : Int) == 0 with
                      | false =>
                        simp only [h1, h2, h3, Bool.and_false, Bool.false_and, Bool.and_true] at hA
                        subst hA
                        go_wp2
                        go_meet
                        exact ⟨rfl, rfl⟩
                      | true =>
                        cases h4 : (t.dl : Int) == 0 with
                        | false =>
                          simp only [h1, h2, h3, h4, Bool.and_false, Bool.and_true] at hA
                          subst hA
                          go_wp2
                          go_meet
                          exact ⟨rfl, rfl⟩
                        | true =>
                          simp only [h1, h2, h3, h4, Bool.and_true] at hA
                          subst hA
                          go_wp2
                          go_meet
                          exact ⟨rfl, rfl⟩
                case rest =>
                  obtain ⟨rfl, hwc⟩ := hcut
                  subst hwc
                  clear HNo p0 p1 p2 p3 p4 p5 p6 p7 p8 p9 p10 p11 p12 p13 p14 HV
                  obtain ⟨p0, p1, p2, p3, p4, p5, p6, p7, p8, p9, p10, p11, p12, p13, p14⟩ := (HP.out _ HKV.out).all
                  rw [HE2.out] at p10
                  have cn := HCN.out _ (Kp.refl _)
                  have kq : (k : Int) < (v.nl : Int) := by have := HG3.out; omega
                  have hA := HOk.out
                  clear HOk
                  cases nt with
                  | true =>
                    cases mo with
                    | true =>
                      have HOK : Hid (ok = true) := hA
                      clear hA HF
                      go_wp2_with fail
                      refine (HMk.out _).mono ?_
                      rintro e w6 ⟨rfl, rfl⟩
                      go_wp2
                      go_roundw
                      case rel => exact ⟨k + 1, by omega, by go_num, HT.out HOK.out, HKV.out⟩
                      case measure => simp [intOf]; omega
                    | false =>
                      have HN : Hid (false = res) := HF.out (hA.trans (Bool.and_false _))
                      clear hA HF HT HR2
                      go_wp2_with fail
                      refine (HMk.out _).mono ?_
                      rintro e w6 ⟨rfl, rfl⟩
                      go_wp2
                      go_ret
                      exact ⟨congrArg (fun b => Ending.returned (Value.bool b)) HN.out, HK.out.trans HKV.out⟩
                  | false =>
                    cases tb with
                    | false =>
                      have HN : Hid (false = res) := HF.out hA
                      clear hA HF HT HR2
                      go_wp2_with fail
                      refine Calls.mono HTt.out ?_
                      rintro e w5 ⟨rfl, k5⟩
                      go_wp2
                      go_ret
                      exact ⟨congrArg (fun b => Ending.returned (Value.bool b)) HN.out, HK.out.trans (HKV.out.trans k5)⟩
                    | true =>
                      cases mo with
                      | true =>
                        have HOK : Hid (ok = true) := hA
                        clear hA HF
                        go_wp2_with fail
                        refine Calls.mono HTt.out ?_
                        rintro e w5 ⟨rfl, k5⟩
                        have HK5 : Hid (Kp W0 w5) := HKV.out.trans k5
                        clear p0 p1 p2 p3 p4 p5 p6 p7 p8 p9 p10 p11 p12 p13 p14 cn
                        obtain ⟨p0, p1, p2, p3, p4, p5, p6, p7, p8, p9, p10, p11, p12, p13, p14⟩ := (HP.out _ HK5.out).all
                        rw [HE2.out] at p10
                        have cn := HCN.out _ k5
                        go_wp2_with fail
                        refine (HMk.out _).mono ?_
                        rintro e w6 ⟨rfl, rfl⟩
                        go_wp2
                        go_roundw
                        case rel => exact ⟨k + 1, by omega, by go_num, HT.out HOK.out, HK5.out⟩
                        case measure => simp [intOf]; omega
                      | false =>
                        have HN : Hid (false = res) := HF.out hA
                        clear hA HF HT HR2
                        go_wp2_with fail
                        refine Calls.mono HTt.out ?_
                        rintro e w5 ⟨rfl, k5⟩
                        have HK5 : Hid (Kp W0 w5) := HKV.out.trans k5
                        clear p0 p1 p2 p3 p4 p5 p6 p7 p8 p9 p10 p11 p12 p13 p14 cn
                        obtain ⟨p0, p1, p2, p3, p4, p5, p6, p7, p8, p9, p10, p11, p12, p13, p14⟩ := (HP.out _ HK5.out).all
                        rw [HE2.out] at p10
                        have cn := HCN.out _ k5
                        go_wp2_with fail
                        refine (HMk.out _).mono ?_
                        rintro e w6 ⟨rfl, rfl⟩
                        go_wp2
                        go_ret
                        exact ⟨congrArg (fun b => Ending.returned (Value.bool b)) HN.out, HK.out.trans HK5.out⟩
              · have hlt' : ¬ (k : Int) < (v.tl : Int) := by omega
                obtain rfl : k = v.tl := by omega
                have HR3 : Hid ((allB (jOk v) v.jl && allB (hOk v) v.hl) = res) := by have := HR2.out; rw [HL.out, Bool.true_and] at this; exact this
                clear HL HR2 hkp
                go_wp2
                clear p0 p1 p2 p3 p4 p5 p6 p7 p8 p9 p10 p11 p12 p13 p14 hgb
                go_loopw [6] (fun i wi => ∃ k : Nat, k ≤ v.jl ∧ i = .int .i64 k ∧ Hid (allB (jOk v) k = true) ∧ Kp W0 wi) (fun i _ => v.jl - (intOf i).toNat)
                case atStart => exact ⟨0, Nat.zero_le _, rfl, rfl, HKr.out⟩
                case round =>
                  clear HKr
                  obtain ⟨k, hk, rfl, HL, hkp⟩ := hrel
                  have HKr : Hid (Kp W0 wr) := hkp
                  obtain ⟨p0, p1, p2, p3, p4, p5, p6, p7, p8, p9, p10, p11, p12, p13, p14⟩ := (HP.out _ hkp).all
                  have hgb : w.heap.size < wr.heap.size := (HP.out _ hkp).lt
                  by_cases hlt : k < v.jl
                  · have hlt' : (k : Int) < (v.jl : Int) := by omega
                    have k0 : (0 : Int) ≤ (k : Int) := by omega
                    have kn : ((k : Int)).toNat = k := by omega
                    obtain ⟨b, off, j, e, hb, hg, hi, c0, c1, c2, c3, c4, c5⟩ := (HV0.out.j.kept (HK.out.trans hkp)).one hlt
                    obtain ⟨V, HV, KV, TV⟩ := jb_box wr j
                    have HKV : Hid (Kp W0 V) := hkp.trans KV
                    have HJV : Hid (∀ W, Kp V W → W.cell? ⟨wr.heap.size, 0, none⟩ = some (.int .i64 j.t) ∧ W.cell? ⟨wr.heap.size, 1, none⟩ = some (.int .i64 j.r) ∧ W.cell? ⟨wr.heap.size, 2, none⟩ = some (.int .i64 j.d) ∧ W.cell? ⟨wr.heap.size, 3, none⟩ = some (.int .i64 j.l) ∧ W.cell? ⟨wr.heap.size, 4, none⟩ = some (.int .i64 j.x) ∧ W.cell? ⟨wr.heap.size, 5, none⟩ = some (.bool j.s)) := TV
                    have HOk : Hid (jOk v k = (jOkB v j && !dupB v.J j.t k)) := jOk_at hg
                    have HOb : Hid (jOkB v j = (decide (0 ≤ j.t) && decide (j.t < v.tl) && !(pk v.T j.t.toNat == 0) && moB j.d && moB j.r && decide (0 ≤ j.l) && decide (j.l ≤ 4096))) := rfl
                    have HF : Hid (jOk v k = false → false = res) := fun q => by rw [← HR3.out, allB_f hlt q]; rfl
                    have HT : Hid (jOk v k = true → allB (jOk v) (k + 1) = true) := fun q => allB_more HL.out q
                    have HM1 : Hid (∀ W, Calls Try.prog 14 #[.int .i64 j.d] W fun e w' => e = .returned (.bool (moB j.d)) ∧ W = w') := fun W => HMo.out W _
                    have HM2 : Hid (∀ W, Calls Try.prog 14 #[.int .i64 j.r] W fun e w' => e = .returned (.bool (moB j.r)) ∧ W = w') := fun W => HMo.out W _
                    have HEj : Hid (v.ja = some ⟨b, off, none⟩) := e
                    clear hg hi KV hkp
                    rw [e] at p11
                    clear e
                    go_upto_region 14 with fail
                    rw [← HV.out]
                    clear c0 c1 c2 c3 c4 c5 p0 p1 p2 p3 p4 p5 p6 p7 p8 p9 p10 p11 p12 p13 p14 HV
                    obtain ⟨p0, p1, p2, p3, p4, p5, p6, p7, p8, p9, p10, p11, p12, p13, p14⟩ := (HP.out _ HKV.out).all
                    obtain ⟨y0, y1, y2, y3, y4, y5⟩ := HJV.out _ (Kp.refl _)
                    by_cases h1 : j.t < 0
                    · have HN : Hid (false = res) := HF.out (by rw [HOk.out, HOb.out, decide_eq_false (show ¬ 0 ≤ j.t by omega)]; rfl)
                      clear HF HT HOk HOb HR3
                      go_wp2
                      go_ret
                      exact ⟨congrArg (fun b => Ending.returned (Value.bool b)) HN.out, HK.out.trans HKV.out⟩
                    · have e1 : decide (0 ≤ j.t) = true := decide_eq_true (by omega)
                      by_cases h2 : (v.tl : Int) ≤ j.t
                      · have HN : Hid (false = res) := HF.out (by rw [HOk.out, HOb.out, e1, decide_eq_false (show ¬ j.t < (v.tl : Int) by omega)]; rfl)
                        clear HF HT HOk HOb HR3
                        go_wp2
                        go_ret
                        exact ⟨congrArg (fun b => Ending.returned (Value.bool b)) HN.out, HK.out.trans HKV.out⟩
                      · have e2 : decide (j.t < (v.tl : Int)) = true := decide_eq_true (by omega)
                        have hjn : j.t.toNat < v.tl := by omega
                        obtain ⟨tb, tf, t, et, htb, htg, _, d0, _, _, _⟩ := (HV0.out.t.kept (HK.out.trans HKV.out)).one hjn
                        have h2' : j.t < (v.tl : Int) := by omega
                        have h1' : (0 : Int) ≤ j.t := by omega
                        have hpk : pk v.T j.t.toNat = t.p := pk_at htg
                        rw [hpk] at HOb
                        have HOb2 : Hid (jOkB v j = (!(t.p == 0) && moB j.d && moB j.r && decide (0 ≤ j.l) && decide (j.l ≤ 4096))) := by show _ = _; rw [HOb.out, e1, e2]; rfl
                        rw [et] at p9
                        clear HOb e1 e2 et htg hpk
                        cases h3 : t.p == 0 with
                        | true =>
                          have HN : Hid (false = res) := HF.out (by rw [HOk.out, HOb2.out, h3]; rfl)
                          clear HF HT HOk HOb2 HR3
                          go_wp2
                          go_ret
                          exact ⟨congrArg (fun b => Ending.returned (Value.bool b)) HN.out, HK.out.trans HKV.out⟩
                        | false =>
                          have HOb3 : Hid (jOkB v j = (moB j.d && moB j.r && decide (0 ≤ j.l) && decide (j.l ≤ 4096))) := by show _ = _; rw [HOb2.out, h3]; rfl
                          clear HOb2
                          generalize moB j.d = md at *
                          generalize moB j.r = mr at *
                          cases md with
                          | false =>
                            have HN : Hid (false = res) := HF.out (by rw [HOk.out, HOb3.out]; rfl)
                            clear HF HT HOk HOb3 HR3
                            go_wp2_with fail
                            refine (HM1.out _).mono ?_
                            rintro e w6 ⟨rfl, rfl⟩
                            go_wp2
                            go_ret
                            exact ⟨congrArg (fun b => Ending.returned (Value.bool b)) HN.out, HK.out.trans HKV.out⟩
                          | true =>
                            cases mr with
                            | false =>
                              have HN : Hid (false = res) := HF.out (by rw [HOk.out, HOb3.out]; rfl)
                              clear HF HT HOk HOb3 HR3
                              go_wp2_with fail
                              refine (HM1.out _).mono ?_
                              rintro e w6 ⟨rfl, rfl⟩
                              go_wp2_with fail
                              refine (HM2.out _).mono ?_
                              rintro e w7 ⟨rfl, rfl⟩
                              go_wp2
                              go_ret
                              exact ⟨congrArg (fun b => Ending.returned (Value.bool b)) HN.out, HK.out.trans HKV.out⟩
                            | true =>
                              by_cases h4 : j.l < 0
                              · have HN : Hid (false = res) := HF.out (by rw [HOk.out, HOb3.out, decide_eq_false (show ¬ 0 ≤ j.l by omega)]; rfl)
                                clear HF HT HOk HOb3 HR3
                                go_wp2_with fail
                                refine (HM1.out _).mono ?_
                                rintro e w6 ⟨rfl, rfl⟩
                                go_wp2_with fail
                                refine (HM2.out _).mono ?_
                                rintro e w7 ⟨rfl, rfl⟩
                                go_wp2
                                go_ret
                                exact ⟨congrArg (fun b => Ending.returned (Value.bool b)) HN.out, HK.out.trans HKV.out⟩
                              · by_cases h5 : 4096 < j.l
                                · have HN : Hid (false = res) := HF.out (by rw [HOk.out, HOb3.out, decide_eq_true (show 0 ≤ j.l by omega), decide_eq_false (show ¬ j.l ≤ 4096 by omega)]; rfl)
                                  clear HF HT HOk HOb3 HR3
                                  go_wp2_with fail
                                  refine (HM1.out _).mono ?_
                                  rintro e w6 ⟨rfl, rfl⟩
                                  go_wp2_with fail
                                  refine (HM2.out _).mono ?_
                                  rintro e w7 ⟨rfl, rfl⟩
                                  go_wp2
                                  go_ret
                                  exact ⟨congrArg (fun b => Ending.returned (Value.bool b)) HN.out, HK.out.trans HKV.out⟩
                                · have HOk2 : Hid (jOk v k = !dupB v.J j.t k) := by show _ = _; rw [HOk.out, HOb3.out, decide_eq_true (show 0 ≤ j.l by omega), decide_eq_true (show j.l ≤ 4096 by omega)]; rfl
                                  clear HOk HOb3
                                  go_wp2_with fail
                                  refine (HM1.out _).mono ?_
                                  rintro e w6 ⟨rfl, rfl⟩
                                  go_wp2_with fail
                                  refine (HM2.out _).mono ?_
                                  rintro e w7 ⟨rfl, rfl⟩
                                  go_wp2
                                  have HKr0 : Hid (Kp W0 V) := HKV.out
                                  obtain ⟨jb, hjb⟩ : ∃ jb, wr.heap.size = jb := ⟨_, rfl⟩
                                  rw [hjb] at HJV ⊢
                                  clear p0 p1 p2 p3 p4 p5 p6 p7 p8 p9 p10 p11 p12 p13 p14 y0 y1 y2 y3 y4 y5 d0 hjb hgb HKr HM1 HM2
                                  go_loopw [8] (fun i wi => ∃ n : Nat, n ≤ k ∧ i = .int .i64 n ∧ Hid (dupB v.J j.t n = false) ∧ Kp V wi) (fun i _ => k - (intOf i).toNat)
                                  case atStart => exact ⟨0, Nat.zero_le _, rfl, rfl, Kp.refl _⟩
                                  case round =>
                                    obtain ⟨n, hn, rfl, HD, hki⟩ := hrel
                                    have HKi : Hid (Kp W0 wr) := HKr0.out.trans hki
                                    by_cases hnk : n < k
                                    · have hnk' : (n : Int) < (k : Int) := by omega
                                      have n0 : (0 : Int) ≤ (n : Int) := by omega
                                      have nn : ((n : Int)).toNat = n := by omega
                                      have nl' : (n : Int) < (v.jl : Int) := by omega
                                      obtain ⟨b', off', j2, e, hb', hg2, _, c0, _⟩ := (HV0.out.j.kept (HK.out.trans HKi.out)).one (show n < v.jl by omega)
                                      obtain ⟨p0, p1, p2, p3, p4, p5, p6, p7, p8, p9, p10, p11, p12, p13, p14⟩ := (HP.out _ HKi.out).all
                                      obtain ⟨y0, y1, y2, y3, y4, y5⟩ := HJV.out _ hki
                                      rw [e] at p11
                                      clear e
                                      cases h6 : j2.t == j.t with
                                      | true =>
                                        have HN : Hid (false = res) := HF.out (by rw [HOk2.out, dupB_t hg2 (by simpa using h6) hnk]; rfl)
                                        clear HF HT HOk2 HR3 hg2
                                        go_wp2_with fail
                                        go_quiet (fail)
                                        go_wp2
                                        go_ret
                                        exact ⟨congrArg (fun b => Ending.returned (Value.bool b)) HN.out, HK.out.trans (HKi.out.trans (skp_drewN _ _))⟩
                                      | false =>
                                        have HN : Hid (dupB v.J j.t (n + 1) = false) := dupB_more HD.out hg2 (by simpa using h6)
                                        clear HF HT HOk2 HR3 hg2
                                        go_wp2_with fail
                                        go_quiet (fail)
                                        go_wp2
                                        go_roundw
                                        case rel => exact ⟨n + 1, by omega, by go_num, HN, hki.trans (skp_drewN _ _)⟩
                                        case measure => simp [intOf]; omega
                                    · have hnk' : ¬ (n : Int) < (k : Int) := by omega
                                      obtain rfl : n = k := by omega
                                      have HN : Hid (allB (jOk v) (n + 1) = true) := HT.out (by rw [HOk2.out, HD.out]; rfl)
                                      clear HF HT HOk2 HD
                                      go_wp2
                                      go_roundw
                                      case rel => exact ⟨n + 1, by omega, by go_num, HN, HKi.out⟩
                                      case measure => simp [intOf]; omega
                  · have hlt' : ¬ (k : Int) < (v.jl : Int) := by omega
                    obtain rfl : k = v.jl := by omega
                    have HR4 : Hid (allB (hOk v) v.hl = res) := by have := HR3.out; rw [HL.out, Bool.true_and] at this; exact this
                    clear HL HR3 hkp
                    go_wp2
                    clear p0 p1 p2 p3 p4 p5 p6 p7 p8 p9 p10 p11 p12 p13 p14 hgb
                    go_loopw [9] (fun i wi => ∃ k : Nat, k ≤ v.hl ∧ i = .int .i64 k ∧ Hid (allB (hOk v) k = true) ∧ Kp W0 wi) (fun i _ => v.hl - (intOf i).toNat)
                    case atStart => exact ⟨0, Nat.zero_le _, rfl, rfl, HKr.out⟩
                    case round =>
                      clear HKr
                      obtain ⟨k, hk, rfl, HL, hkp⟩ := hrel
                      have HKr : Hid (Kp W0 wr) := hkp
                      obtain ⟨p0, p1, p2, p3, p4, p5, p6, p7, p8, p9, p10, p11, p12, p13, p14⟩ := (HP.out _ hkp).all
                      have hgb : w.heap.size < wr.heap.size := (HP.out _ hkp).lt
                      by_cases hlt : k < v.hl
                      · have hlt' : (k : Int) < (v.hl : Int) := by omega
                        have k0 : (0 : Int) ≤ (k : Int) := by omega
                        have kn : ((k : Int)).toNat = k := by omega
                        obtain ⟨b, off, e, hb, c0, c1, c2, _⟩ := (HV0.out.h.kp (LK.kp_of_tb (HK.out.trans hkp))).one hlt
                        obtain ⟨V, HV, KV, TV⟩ := hd_box wr (atH v.H k)
                        have HKV : Hid (Kp W0 V) := hkp.trans KV
                        have HF : Hid (hOk v k = false → false = res) := fun q => by rw [← HR4.out, allB_f hlt q]
                        have HT : Hid (hOk v k = true → allB (hOk v) (k + 1) = true) := fun q => allB_more HL.out q
                        have HOk : Hid (hOk v k = ((jof v.J (atH v.H k).t).isSome && decide (-4096 ≤ (atH v.H k).l) && decide ((atH v.H k).l ≤ 4096))) := rfl
                        obtain ⟨j, s, hj, hs⟩ : ∃ j s, (jof v.J (atH v.H k).t).getD zJ = j ∧ (jof v.J (atH v.H k).t).isSome = s := ⟨_, _, rfl, rfl⟩
                        have HJ : Hid (∀ W, Kp V W → Calls Try.prog 11 #[.slice v.ja v.jl v.jc, .int .i64 (atH v.H k).t] W fun e w' => e = .returned (.tuple #[.agg #[.int .i64 j.t, .int .i64 j.r, .int .i64 j.d, .int .i64 j.l, .int .i64 j.x, .bool j.s], .bool s]) ∧ Kp W w') := fun W q => HJo.out W _ j s hj hs (HK.out.trans (HKV.out.trans q))
                        rw [hs] at HOk
                        clear hj hs KV hkp
                        generalize hOk v k = ok at *
                        generalize atH v.H k = x at *
                        have HHV : Hid (∀ W, Kp V W → W.cell? ⟨wr.heap.size, 0, none⟩ = some (.int .i64 x.t) ∧ W.cell? ⟨wr.heap.size, 1, none⟩ = some (.int .i64 x.s) ∧ W.cell? ⟨wr.heap.size, 2, none⟩ = some (.int .i64 x.l)) := TV
                        rw [e] at p12
                        clear e TV
                        go_upto_region 25 with fail
                        rw [← HV.out]
                        clear c0 c1 c2 p0 p1 p2 p3 p4 p5 p6 p7 p8 p9 p10 p11 p12 p13 p14 HV
                        obtain ⟨p0, p1, p2, p3, p4, p5, p6, p7, p8, p9, p10, p11, p12, p13, p14⟩ := (HP.out _ HKV.out).all
                        obtain ⟨y0, y1, y2⟩ := HHV.out _ (Kp.refl _)
                        go_wp2_with fail
                        refine Calls.mono (HJ.out _ (Kp.refl _)) ?_
                        rintro e w5 ⟨rfl, k5⟩
                        obtain ⟨U, HU, KU, TU⟩ := jb_box w5 j
                        have HKU : Hid (Kp W0 U) := HKV.out.trans (k5.trans KU)
                        have HKVU : Hid (Kp V U) := k5.trans KU
                        clear p0 p1 p2 p3 p4 p5 p6 p7 p8 p9 p10 p11 p12 p13 p14 y0 y1 y2 KU TU k5
                        go_upto_region 26 with fail
                        rw [← HU.out]
                        clear HU
                        obtain ⟨p0, p1, p2, p3, p4, p5, p6, p7, p8, p9, p10, p11, p12, p13, p14⟩ := (HP.out _ HKU.out).all
                        obtain ⟨y0, y1, y2⟩ := HHV.out _ HKVU.out
                        cases s with
                        | false =>
                          have HN : Hid (false = res) := HF.out HOk.out
                          clear HF HT HOk HR4
                          go_wp2
                          go_ret
                          exact ⟨congrArg (fun b => Ending.returned (Value.bool b)) HN.out, HK.out.trans HKU.out⟩
                        | true =>
                          by_cases h1 : x.l < -4096
                          · have HN : Hid (false = res) := HF.out (by rw [HOk.out, decide_eq_false (show ¬ -4096 ≤ x.l by omega)]; rfl)
                            clear HF HT HOk HR4
                            go_wp2
                            go_ret
                            exact ⟨congrArg (fun b => Ending.returned (Value.bool b)) HN.out, HK.out.trans HKU.out⟩
                          · have e1 : decide (-4096 ≤ x.l) = true := decide_eq_true (by omega)
                            by_cases h2 : 4096 < x.l
                            · have HN : Hid (false = res) := HF.out (by rw [HOk.out, e1, decide_eq_false (show ¬ x.l ≤ 4096 by omega)]; rfl)
                              clear HF HT HOk HR4
                              go_wp2
                              go_ret
                              exact ⟨congrArg (fun b => Ending.returned (Value.bool b)) HN.out, HK.out.trans HKU.out⟩
                            · have HN : Hid (allB (hOk v) (k + 1) = true) := HT.out (by rw [HOk.out, e1, decide_eq_true (show x.l ≤ 4096 by omega)]; rfl)
                              clear HF HT HOk HR4
                              go_wp2
                              go_roundw
                              case rel => exact ⟨k + 1, by omega, by go_num, HN, HKU.out⟩
                              case measure => simp [intOf]; omega
                      · have hlt' : ¬ (k : Int) < (v.hl : Int) := by omega
                        obtain rfl : k = v.hl := by omega
                        have HN : Hid (true = res) := HL.out.symm.trans HR4.out
                        clear HL HR4
                        go_wp2
                        go_ret
                        exact ⟨congrArg (fun b => Ending.returned (Value.bool b)) HN.out, HK.out.trans HKr.out⟩
      · have d3 : ((v.nl : Int) != (v.tl : Int)) = true := by simp; omega
        have d3' : ((v.nl : Int) == (v.tl : Int)) = false := by simp; omega
        have HN : Hid (false = res) := by have := HR.out; rw [HGF.out, decide_eq_false g3] at this; simp only [Bool.and_false, Bool.false_and] at this; exact this
        clear HR HGF
        go_enter Try.func6, Try.ntmps6
        go_wp2_with fail
        rw [← HW.out]
        refine Calls.mono HTa'.out ?_
        rintro e w1 ⟨rfl, k1⟩
        have HK1 : Hid (Kp W0 w1) := k1
        clear p0 p1 p2 p3 p4 p5 p6 p7 p8 p9 p10 p11 p12 p13 p14 k1
        obtain ⟨p0, p1, p2, p3, p4, p5, p6, p7, p8, p9, p10, p11, p12, p13, p14⟩ := (HP.out _ HK1.out).all
        go_wp2
        go_ret
        exact ⟨congrArg (fun b => Ending.returned (Value.bool b)) HN.out, HK.out.trans HK1.out⟩
    · have d2 : (64 : Int) < (v.tl : Int) := by omega
      have HN : Hid (false = res) := by have := HR.out; rw [HGF.out, decide_eq_false g2] at this; simp only [Bool.false_and] at this; exact this
      clear HR HGF
      go_enter Try.func6, Try.ntmps6
      go_wp2_with fail
      rw [← HW.out]
      refine Calls.mono HTa'.out ?_
      rintro e w1 ⟨rfl, k1⟩
      have HK1 : Hid (Kp W0 w1) := k1
      clear p0 p1 p2 p3 p4 p5 p6 p7 p8 p9 p10 p11 p12 p13 p14 k1
      obtain ⟨p0, p1, p2, p3, p4, p5, p6, p7, p8, p9, p10, p11, p12, p13, p14⟩ := (HP.out _ HK1.out).all
      go_wp2
      go_ret
      exact ⟨congrArg (fun b => Ending.returned (Value.bool b)) HN.out, HK.out.trans HK1.out⟩

end Go.Proofs.Ytilafcplijgjjaa.SK
